/-
  t
-/
import Derived.Test.YtiadgkkebmclgaaAbsB
import Derived.Test.YtiadgkkebmclgaaProg
namespace Go.Proofs.Ytiadgkkebmclgaa.Abs
open Go.RowKit Go.Proofs
structure GApiRange where
  Lo : List UInt8
  Hi : List UInt8
  Open : Bool
def eGApiRange (x : GApiRange) : List Lf := [.sl x.Lo.length (x.Lo.flatMap eU8), .sl x.Hi.length (x.Hi.flatMap eU8), .b x.Open]

theorem ei5 : EI Try.prog 5 1 1 [.i .u8 0] := ei_of (by kernel_rfl) (by decide)
theorem zi24 : ZI Try.prog 24 ([.raw (.slice none 0 0), .raw (.slice none 0 0), .b false]) := zi_of (by kernel_rfl)
theorem pi24 : PI Try.prog 24 [(0, 1), (1, 1), (2, 1)] := pi_of Try.underlying24 (by kernel_rfl) (by kernel_rfl)
theorem sz24 : (Try.prog.info? 24).map (·.size) = some 3 := by kernel_rfl
theorem ti24 : TI Try.prog 24 true 3 := ⟨⟨_, Try.underlying24, rfl⟩, by kernel_rfl⟩
theorem fi24_0 : FI Try.prog 24 0 0 := ⟨⟨_, _, 1, Try.underlying24, rfl, rfl, by kernel_rfl, by decide⟩⟩
theorem ti22 : TI Try.prog 22 false 1 := ⟨⟨_, Try.underlying22, rfl⟩, by kernel_rfl⟩
theorem xi42 : XI Try.prog 42 Extern.BytealgCompare.compare := ⟨⟨Try.f42, Try.func42, by kernel_rfl, by kernel_rfl, by kernel_rfl, by kernel_rfl⟩⟩
theorem fn40 : FnI Try.prog 40 := ⟨⟨_, Try.func40, by kernel_rfl, by kernel_rfl⟩⟩
theorem fn23 : FnI Try.prog 23 := ⟨⟨_, Try.func23, by kernel_rfl, by kernel_rfl⟩⟩
theorem fi24_2 : FI Try.prog 24 2 2 := ⟨⟨_, _, 1, Try.underlying24, rfl, rfl, by kernel_rfl, by decide⟩⟩
theorem ti4 : TI Try.prog 4 false 1 := ⟨⟨_, Try.underlying4, rfl⟩, by kernel_rfl⟩
theorem fi24_1 : FI Try.prog 24 1 1 := ⟨⟨_, _, 1, Try.underlying24, rfl, rfl, by kernel_rfl, by decide⟩⟩
theorem fn29 : FnI Try.prog 29 := ⟨⟨_, Try.func29, by kernel_rfl, by kernel_rfl⟩⟩
theorem si22 : SI Try.prog 22 5 1 := ⟨Try.underlying22, by kernel_rfl, by decide⟩
theorem fn25 : FnI Try.prog 25 := ⟨⟨_, Try.func25, by kernel_rfl, by kernel_rfl⟩⟩
theorem fn10 : FnI Try.prog 10 := ⟨⟨_, Try.func10, by kernel_rfl, by kernel_rfl⟩⟩
theorem fn11 : FnI Try.prog 11 := ⟨⟨_, Try.func11, by kernel_rfl, by kernel_rfl⟩⟩
theorem si25 : SI Try.prog 25 22 1 := ⟨Try.underlying25, by kernel_rfl, by decide⟩
theorem fn12 : FnI Try.prog 12 := ⟨⟨_, Try.func12, by kernel_rfl, by kernel_rfl⟩⟩
theorem sz22 : (Try.prog.info? 22).map (·.size) = some 1 := by kernel_rfl
theorem sz4 : (Try.prog.info? 4).map (·.size) = some 1 := by kernel_rfl
theorem ti5 : TI Try.prog 5 false 1 := ⟨⟨_, Try.underlying5, rfl⟩, by kernel_rfl⟩
theorem fn31 : FnI Try.prog 31 := ⟨⟨_, Try.func31, by kernel_rfl, by kernel_rfl⟩⟩
theorem fn13 : FnI Try.prog 13 := ⟨⟨_, Try.func13, by kernel_rfl, by kernel_rfl⟩⟩
theorem mixed : Try.prog.follows .mixedOrders = true := by kernel_rfl
theorem fn24 : FnI Try.prog 24 := ⟨⟨_, Try.func24, by kernel_rfl, by kernel_rfl⟩⟩
theorem fn32 : FnI Try.prog 32 := ⟨⟨_, Try.func32, by kernel_rfl, by kernel_rfl⟩⟩
theorem fn14 : FnI Try.prog 14 := ⟨⟨_, Try.func14, by kernel_rfl, by kernel_rfl⟩⟩
theorem fn36 : FnI Try.prog 36 := ⟨⟨_, Try.func36, by kernel_rfl, by kernel_rfl⟩⟩
theorem fn35 : FnI Try.prog 35 := ⟨⟨_, Try.func35, by kernel_rfl, by kernel_rfl⟩⟩
theorem fn37 : FnI Try.prog 37 := ⟨⟨_, Try.func37, by kernel_rfl, by kernel_rfl⟩⟩
theorem fn15 : FnI Try.prog 15 := ⟨⟨_, Try.func15, by kernel_rfl, by kernel_rfl⟩⟩
theorem fn16 : FnI Try.prog 16 := ⟨⟨_, Try.func16, by kernel_rfl, by kernel_rfl⟩⟩
theorem fn17 : FnI Try.prog 17 := ⟨⟨_, Try.func17, by kernel_rfl, by kernel_rfl⟩⟩
theorem ei22 : EI Try.prog 22 1 24 [.raw (.slice none 0 0)] := ei_of (by kernel_rfl) (by decide)
theorem ni22 : NI Try.prog 22 := ⟨.inl ⟨_, Try.underlying22⟩⟩
theorem fn38 : FnI Try.prog 38 := ⟨⟨_, Try.func38, by kernel_rfl, by kernel_rfl⟩⟩
theorem ni25 : NI Try.prog 25 := ⟨.inl ⟨_, Try.underlying25⟩⟩
theorem fn19 : FnI Try.prog 19 := ⟨⟨_, Try.func19, by kernel_rfl, by kernel_rfl⟩⟩
theorem fn20 : FnI Try.prog 20 := ⟨⟨_, Try.func20, by kernel_rfl, by kernel_rfl⟩⟩
theorem fn18 : FnI Try.prog 18 := ⟨⟨_, Try.func18, by kernel_rfl, by kernel_rfl⟩⟩
theorem fn41 : FnI Try.prog 41 := ⟨⟨_, Try.func41, by kernel_rfl, by kernel_rfl⟩⟩
theorem fn39 : FnI Try.prog 39 := ⟨⟨_, Try.func39, by kernel_rfl, by kernel_rfl⟩⟩
theorem fn21 : FnI Try.prog 21 := ⟨⟨_, Try.func21, by kernel_rfl, by kernel_rfl⟩⟩
theorem fn22 : FnI Try.prog 22 := ⟨⟨_, Try.func22, by kernel_rfl, by kernel_rfl⟩⟩
theorem fn26 : FnI Try.prog 26 := ⟨⟨_, Try.func26, by kernel_rfl, by kernel_rfl⟩⟩
theorem fn27 : FnI Try.prog 27 := ⟨⟨_, Try.func27, by kernel_rfl, by kernel_rfl⟩⟩
theorem fn28 : FnI Try.prog 28 := ⟨⟨_, Try.func28, by kernel_rfl, by kernel_rfl⟩⟩
theorem fn30 : FnI Try.prog 30 := ⟨⟨_, Try.func30, by kernel_rfl, by kernel_rfl⟩⟩
theorem fn33 : FnI Try.prog 33 := ⟨⟨_, Try.func33, by kernel_rfl, by kernel_rfl⟩⟩
theorem fn34 : FnI Try.prog 34 := ⟨⟨_, Try.func34, by kernel_rfl, by kernel_rfl⟩⟩

def m40_bytes_Compare (a0 : List UInt8) (a1 : List UInt8) : Option Int :=
  some (cmpL a0 a1)

set_option maxRecDepth 100000 in
theorem m40_bytes_Compare_c {a0 : List UInt8} {a1 : List UInt8} {r : Int} (h : m40_bytes_Compare a0 a1 = some r) : CallsA Try.prog 40 [.one (.sl a0.length (a0.flatMap eU8)), .one (.sl a1.length (a1.flatMap eU8))] (· = .s (.one (.i .i64 r))) := by
  unfold m40_bytes_Compare at h
  refine callsA_of Try.func40 rfl (nt := 8) rfl (Nat.le_of_ble_eq_true rfl) ?_
  intro w0 S0
  refine cseq ?_
  refine cregion ?_
  refine sv rfl (opv_as rfl) ?_
  refine snil ?_
  refine cseq ?_
  refine cregion ?_
  refine sv rfl (opv_mv rfl) ?_
  refine sv rfl (opv_mv rfl) ?_
  refine sv rfl (opv_cmp' (a := a0) (b := a1) xi42 rfl rfl rfl rfl rfl rfl) ?_
  refine sv rfl (opv_as rfl) ?_
  refine snil ?_
  refine cret ?_
  obtain rfl := Option.some.inj h
  refine ⟨Or.inr rfl, _, _, _, (resVs_cons (ResV.tmp _ _ rfl) resVs_nil), (pubA_id rfl), ?_⟩
  rfl

def m23_keys_Cmp (a0 : List UInt8) (a1 : List UInt8) : Option Int :=
  (m40_bytes_Compare a0 a1).bind fun v1 => some v1

set_option maxRecDepth 100000 in
theorem m23_keys_Cmp_c {a0 : List UInt8} {a1 : List UInt8} {r : Int} (h : m23_keys_Cmp a0 a1 = some r) : CallsA Try.prog 23 [.one (.sl a0.length (a0.flatMap eU8)), .one (.sl a1.length (a1.flatMap eU8))] (· = .s (.one (.i .i64 r))) := by
  unfold m23_keys_Cmp at h
  refine callsA_of Try.func23 rfl (nt := 8) rfl (Nat.le_of_ble_eq_true rfl) ?_
  intro w0 S0
  refine cseq ?_
  refine cregion ?_
  refine sv rfl (opv_as rfl) ?_
  refine snil ?_
  refine cseq ?_
  refine cregion ?_
  refine sv rfl (opv_mv rfl) ?_
  refine sv rfl (opv_mv rfl) ?_
  obtain ⟨v1, hv1, h⟩ := bind_eq h
  refine scall1 rfl fn40 (opnds_cons rfl (opnds_cons rfl opnds_nil)) (pubA_id rfl) (m40_bytes_Compare_c hv1) ?_
  refine sv rfl (opv_as rfl) ?_
  refine snil ?_
  refine cret ?_
  obtain rfl := Option.some.inj h
  refine ⟨Or.inr rfl, _, _, _, (resVs_cons (ResV.tmp _ _ rfl) resVs_nil), (pubA_id rfl), ?_⟩
  rfl

def m29_keys_Has (a0 : GApiRange) (a1 : List UInt8) : Option Bool :=
  (m23_keys_Cmp a1 a0.Lo).bind fun v1 => if (decide (0 ≤ v1)) then (if a0.Open then (some true) else ((m23_keys_Cmp a1 a0.Hi).bind fun v2 => some (decide (v2 < 0)))) else (some false)

set_option maxRecDepth 100000 in
theorem m29_keys_Has_c {a0 : GApiRange} {a1 : List UInt8} {r : Bool} (h : m29_keys_Has a0 a1 = some r) : CallsA Try.prog 29 [.agg [.sl a0.Lo.length (a0.Lo.flatMap eU8), .sl a0.Hi.length (a0.Hi.flatMap eU8), .b a0.Open], .one (.sl a1.length (a1.flatMap eU8))] (· = .s (.one (.b r))) := by
  unfold m29_keys_Has at h
  refine callsA_of Try.func29 rfl (nt := 21) rfl (Nat.le_of_ble_eq_true rfl) ?_
  intro w0 S0
  refine cseq ?_
  refine cregion ?_
  refine sbox rfl rfl ?_
  refine sv rfl (opv_as rfl) ?_
  refine snil ?_
  refine cseq ?_
  refine cregion ?_
  refine sv rfl (opv_mv rfl) ?_
  refine sv rfl (opv_fieldAddr_lp fi24_0 rfl) ?_
  refine sv rfl (opv_load1 ti22 rfl (.lp _ _ _ rfl) rfl) ?_
  obtain ⟨v1, hv1, h⟩ := bind_eq h
  refine scall1 rfl fn23 (opnds_cons rfl (opnds_cons rfl opnds_nil)) (pubA_id rfl) (m23_keys_Cmp_c hv1) ?_
  refine sv rfl (opv_geq rfl rfl) ?_
  refine sv rfl (opv_mv rfl) ?_
  refine ssplit 10 rfl (fun hc => ?_) (fun hc => ?_)
  · replace h := ite_t hc h
    clear hc
    refine son rfl rfl rfl ?_
    refine sv rfl (opv_fieldAddr_lp fi24_2 rfl) ?_
    refine son rfl rfl rfl ?_
    refine sv rfl (opv_load1 ti4 rfl (.lp _ _ _ rfl) rfl) ?_
    refine son rfl rfl rfl ?_
    refine sv rfl (opv_mv rfl) ?_
    refine ssplit 13 rfl (fun hc => ?_) (fun hc => ?_)
    · replace h := ite_t hc h
      clear hc
      refine soff rfl rfl rfl rfl ?_
      refine soff rfl rfl rfl rfl ?_
      refine soff rfl rfl rfl rfl ?_
      refine soff rfl rfl rfl rfl ?_
      refine soff rfl rfl rfl rfl ?_
      refine son rfl rfl rfl ?_
      refine sv rfl (opv_pick_t rfl rfl) ?_
      refine sv rfl (opv_pick_t rfl rfl) ?_
      refine sv rfl (opv_as rfl) ?_
      refine snil ?_
      refine cret ?_
      obtain rfl := Option.some.inj h
      refine ⟨Or.inr rfl, _, _, _, (resVs_cons (ResV.tmp _ _ rfl) resVs_nil), (pubA_id rfl), ?_⟩
      rfl
    · replace h := ite_f hc h
      clear hc
      refine son rfl rfl rfl ?_
      refine sv rfl (opv_mv rfl) ?_
      refine son rfl rfl rfl ?_
      refine sv rfl (opv_fieldAddr_lp fi24_1 rfl) ?_
      refine son rfl rfl rfl ?_
      refine sv rfl (opv_load1 ti22 rfl (.lp _ _ _ rfl) rfl) ?_
      refine son rfl rfl rfl ?_
      obtain ⟨v2, hv2, h⟩ := bind_eq h
      refine scall1 rfl fn23 (opnds_cons rfl (opnds_cons rfl opnds_nil)) (pubA_id rfl) (m23_keys_Cmp_c hv2) ?_
      refine son rfl rfl rfl ?_
      refine sv rfl (opv_lss rfl rfl) ?_
      refine son rfl rfl rfl ?_
      refine sv rfl (opv_pick_f rfl rfl) ?_
      refine sv rfl (opv_pick_t rfl rfl) ?_
      refine sv rfl (opv_as rfl) ?_
      refine snil ?_
      refine cret ?_
      obtain rfl := Option.some.inj h
      refine ⟨Or.inr rfl, _, _, _, (resVs_cons (ResV.tmp _ _ rfl) resVs_nil), (pubA_id rfl), ?_⟩
      rfl
  · replace h := ite_f hc h
    clear hc
    refine soff rfl rfl rfl rfl ?_
    refine soff rfl rfl rfl rfl ?_
    refine soff rfl rfl rfl rfl ?_
    refine soffu rfl rfl rfl ?_
    refine soffu rfl rfl rfl ?_
    refine soffu rfl rfl rfl ?_
    refine soffu rfl rfl rfl ?_
    refine soffu rfl rfl rfl ?_
    refine soff rfl rfl rfl rfl ?_
    refine sv rfl (opv_pick_f rfl rfl) ?_
    refine sv rfl (opv_as rfl) ?_
    refine snil ?_
    refine cret ?_
    obtain rfl := Option.some.inj h
    refine ⟨Or.inr rfl, _, _, _, (resVs_cons (ResV.tmp _ _ rfl) resVs_nil), (pubA_id rfl), ?_⟩
    rfl

def m25_keys_Sane (a0 : List UInt8) : Option Bool :=
  if (decide (1 ≤ (a0.length : Int))) then (some (decide ((a0.length : Int) ≤ 16))) else (some false)

set_option maxRecDepth 100000 in
theorem m25_keys_Sane_c {a0 : List UInt8} {r : Bool} (h : m25_keys_Sane a0 = some r) : CallsA Try.prog 25 [.one (.sl a0.length (a0.flatMap eU8))] (· = .s (.one (.b r))) := by
  unfold m25_keys_Sane at h
  refine callsA_of Try.func25 rfl (nt := 11) rfl (Nat.le_of_ble_eq_true rfl) ?_
  intro w0 S0
  refine cseq ?_
  refine cregion ?_
  refine sv rfl (opv_as rfl) ?_
  refine snil ?_
  refine cseq ?_
  refine cregion ?_
  refine sv rfl (opv_mv rfl) ?_
  refine sv rfl (opv_len_sl si22 rfl) ?_
  refine sv rfl (opv_geq rfl rfl) ?_
  refine sv rfl (opv_mv rfl) ?_
  refine ssplit 6 rfl (fun hc => ?_) (fun hc => ?_)
  · replace h := ite_t hc h
    clear hc
    refine son rfl rfl rfl ?_
    refine sv rfl (opv_mv rfl) ?_
    refine son rfl rfl rfl ?_
    refine sv rfl (opv_len_sl si22 rfl) ?_
    refine son rfl rfl rfl ?_
    refine sv rfl (opv_leq rfl rfl) ?_
    refine sv rfl (opv_pick_t rfl rfl) ?_
    refine sv rfl (opv_as rfl) ?_
    refine snil ?_
    refine cret ?_
    obtain rfl := Option.some.inj h
    refine ⟨Or.inr rfl, _, _, _, (resVs_cons (ResV.tmp _ _ rfl) resVs_nil), (pubA_id rfl), ?_⟩
    rfl
  · replace h := ite_f hc h
    clear hc
    refine soff rfl rfl rfl rfl ?_
    refine soff rfl rfl rfl rfl ?_
    refine soff rfl rfl rfl rfl ?_
    refine sv rfl (opv_pick_f rfl rfl) ?_
    refine sv rfl (opv_as rfl) ?_
    refine snil ?_
    refine cret ?_
    obtain rfl := Option.some.inj h
    refine ⟨Or.inr rfl, _, _, _, (resVs_cons (ResV.tmp _ _ rfl) resVs_nil), (pubA_id rfl), ?_⟩
    rfl

def m10_l06_awake  : Option Bool :=
  (m29_keys_Has (GApiRange.mk ([] : List UInt8) [(UInt8.ofBitVec (98#8))] false) [(UInt8.ofBitVec (97#8))]).bind fun v1 => if v1 then ((m29_keys_Has (GApiRange.mk ([] : List UInt8) [(UInt8.ofBitVec (98#8))] false) [(UInt8.ofBitVec (98#8))]).bind fun v2 => if (!v2) then ((m23_keys_Cmp [(UInt8.ofBitVec (97#8))] [(UInt8.ofBitVec (97#8)), (UInt8.ofBitVec (98#8))]).bind fun v3 => if (decide (v3 = (-1))) then ((m25_keys_Sane [(UInt8.ofBitVec (97#8))]).bind fun v4 => some v4) else (some false)) else (some false)) else (some false)

set_option maxRecDepth 100000 in
theorem m10_l06_awake_c  {r : Bool} (h : m10_l06_awake = some r) : CallsA Try.prog 10 [] (· = .s (.one (.b r))) := by
  unfold m10_l06_awake at h
  refine callsA_of Try.func10 rfl (nt := 29) rfl (Nat.le_of_ble_eq_true rfl) ?_
  intro w0 S0
  refine cseq ?_
  refine cregion ?_
  refine sv rfl (opv_as rfl) ?_
  refine snil ?_
  refine cseq ?_
  refine cregion ?_
  refine sbuild1 rfl Try.underlying22 ei5 rfl rfl (List.all_eq_true.1 rfl) (by decide) ?_
  refine smem [.arr 5 1 0 ([(UInt8.ofBitVec (98#8))].flatMap eU8)] rfl ?_
  refine sconv_id rfl Try.underlying22 Try.underlying5 rfl rfl (flat_len (f := eU8) (fun _ => rfl) [(UInt8.ofBitVec (98#8))]).symm (by decide) ?_
  refine sv rfl (opv_build zi24 pi24 (parts_cons rfl parts_nil) (.cons _ _ _ _ _ _ _ rfl rfl (Nat.le_of_ble_eq_true rfl) (.nil _))) ?_
  refine salloc rfl zi24 ?_
  refine sstore sz24 rfl rfl rfl rfl (Nat.le_of_ble_eq_true rfl) ?_
  refine smem [.dead, .box [.raw (.slice none 0 0), .sl [(UInt8.ofBitVec (98#8))].length ([(UInt8.ofBitVec (98#8))].flatMap eU8), .b false]] rfl ?_
  refine snil ?_
  refine cseq ?_
  refine cregion ?_
  refine sv rfl (opv_loadN ti24 rfl (.lp _ _ _ rfl) (Nat.le_of_ble_eq_true rfl)) ?_
  refine sbuild1 rfl Try.underlying22 ei5 rfl rfl (List.all_eq_true.1 rfl) (by decide) ?_
  refine smem [.dead, .box [.raw (.slice none 0 0), .sl [(UInt8.ofBitVec (98#8))].length ([(UInt8.ofBitVec (98#8))].flatMap eU8), .b false], .arr 5 1 0 ([(UInt8.ofBitVec (97#8))].flatMap eU8)] rfl ?_
  refine sconv_id rfl Try.underlying22 Try.underlying5 rfl rfl (flat_len (f := eU8) (fun _ => rfl) [(UInt8.ofBitVec (97#8))]).symm (by decide) ?_
  obtain ⟨v1, hv1, h⟩ := bind_eq h
  refine scall1 rfl fn29 (opnds_cons rfl (opnds_cons rfl opnds_nil)) (pubC rfl) (m29_keys_Has_c hv1) ?_
  refine sv rfl (opv_mv rfl) ?_
  refine ssplit 9 rfl (fun hc => ?_) (fun hc => ?_)
  · replace h := ite_t hc h
    clear hc
    refine son rfl rfl rfl ?_
    refine sv rfl (opv_loadN ti24 rfl (.lp _ _ _ rfl) (Nat.le_of_ble_eq_true rfl)) ?_
    refine son rfl rfl rfl ?_
    refine sbuild1 rfl Try.underlying22 ei5 rfl rfl (List.all_eq_true.1 rfl) (by decide) ?_
    refine smem [.dead, .box [.raw (.slice none 0 0), .sl [(UInt8.ofBitVec (98#8))].length ([(UInt8.ofBitVec (98#8))].flatMap eU8), .b false], .dead, .arr 5 1 0 ([(UInt8.ofBitVec (98#8))].flatMap eU8)] rfl ?_
    refine son rfl rfl rfl ?_
    refine sconv_id rfl Try.underlying22 Try.underlying5 rfl rfl (flat_len (f := eU8) (fun _ => rfl) [(UInt8.ofBitVec (98#8))]).symm (by decide) ?_
    refine son rfl rfl rfl ?_
    obtain ⟨v2, hv2, h⟩ := bind_eq h
    refine scall1 rfl fn29 (opnds_cons rfl (opnds_cons rfl opnds_nil)) (pubC rfl) (m29_keys_Has_c hv2) ?_
    refine son rfl rfl rfl ?_
    refine sv rfl (opv_not rfl) ?_
    refine sv rfl (opv_pick_t rfl rfl) ?_
    refine sv rfl (opv_mv rfl) ?_
    refine ssplit 16 rfl (fun hc => ?_) (fun hc => ?_)
    · replace h := ite_t hc h
      clear hc
      refine son rfl rfl rfl ?_
      refine sbuild1 rfl Try.underlying22 ei5 rfl rfl (List.all_eq_true.1 rfl) (by decide) ?_
      refine smem [.dead, .box [.raw (.slice none 0 0), .sl [(UInt8.ofBitVec (98#8))].length ([(UInt8.ofBitVec (98#8))].flatMap eU8), .b false], .dead, .dead, .arr 5 1 0 ([(UInt8.ofBitVec (97#8))].flatMap eU8)] rfl ?_
      refine son rfl rfl rfl ?_
      refine sconv_id rfl Try.underlying22 Try.underlying5 rfl rfl (flat_len (f := eU8) (fun _ => rfl) [(UInt8.ofBitVec (97#8))]).symm (by decide) ?_
      refine son rfl rfl rfl ?_
      refine sbuildN (out := ([(UInt8.ofBitVec (97#8)), (UInt8.ofBitVec (98#8))] : List UInt8).flatMap eU8) rfl Try.underlying22 ei5 (parts_cons rfl (parts_cons rfl parts_nil)) (.cons _ _ _ _ _ _ _ rfl rfl (Nat.le_of_ble_eq_true rfl) (.cons _ _ _ _ _ _ _ rfl rfl (Nat.le_of_ble_eq_true rfl) (.nil _))) rfl (by decide) ?_
      refine son rfl rfl rfl ?_
      refine sconv_id rfl Try.underlying22 Try.underlying5 rfl rfl (flat_len (f := eU8) (fun _ => rfl) [(UInt8.ofBitVec (97#8)), (UInt8.ofBitVec (98#8))]).symm (by decide) ?_
      refine son rfl rfl rfl ?_
      obtain ⟨v3, hv3, h⟩ := bind_eq h
      refine scall1 rfl fn23 (opnds_cons rfl (opnds_cons rfl opnds_nil)) (pubA_id rfl) (m23_keys_Cmp_c hv3) ?_
      refine son rfl rfl rfl ?_
      refine sv rfl (opv_ieql rfl rfl) ?_
      refine sv rfl (opv_pick_t rfl rfl) ?_
      refine sv rfl (opv_mv rfl) ?_
      refine ssplit 24 rfl (fun hc => ?_) (fun hc => ?_)
      · replace h := ite_t hc h
        clear hc
        refine son rfl rfl rfl ?_
        refine sbuild1 rfl Try.underlying22 ei5 rfl rfl (List.all_eq_true.1 rfl) (by decide) ?_
        refine smem [.dead, .box [.raw (.slice none 0 0), .sl [(UInt8.ofBitVec (98#8))].length ([(UInt8.ofBitVec (98#8))].flatMap eU8), .b false], .dead, .dead, .dead, .dead, .arr 5 1 0 ([(UInt8.ofBitVec (97#8))].flatMap eU8)] rfl ?_
        refine son rfl rfl rfl ?_
        refine sconv_id rfl Try.underlying22 Try.underlying5 rfl rfl (flat_len (f := eU8) (fun _ => rfl) [(UInt8.ofBitVec (97#8))]).symm (by decide) ?_
        refine son rfl rfl rfl ?_
        obtain ⟨v4, hv4, h⟩ := bind_eq h
        refine scall1 rfl fn25 (opnds_cons rfl opnds_nil) (pubA_id rfl) (m25_keys_Sane_c hv4) ?_
        refine sv rfl (opv_pick_t rfl rfl) ?_
        refine sv rfl (opv_as rfl) ?_
        refine snil ?_
        refine cret ?_
        obtain rfl := Option.some.inj h
        refine ⟨Or.inr rfl, _, _, _, (resVs_cons (ResV.tmp _ _ rfl) resVs_nil), (pubA_id rfl), ?_⟩
        rfl
      · replace h := ite_f hc h
        clear hc
        refine soff rfl rfl rfl rfl ?_
        refine soff rfl rfl rfl rfl ?_
        refine soff rfl rfl rfl rfl ?_
        refine sv rfl (opv_pick_f rfl rfl) ?_
        refine sv rfl (opv_as rfl) ?_
        refine snil ?_
        refine cret ?_
        obtain rfl := Option.some.inj h
        refine ⟨Or.inr rfl, _, _, _, (resVs_cons (ResV.tmp _ _ rfl) resVs_nil), (pubA_id rfl), ?_⟩
        rfl
    · replace h := ite_f hc h
      clear hc
      refine soff rfl rfl rfl rfl ?_
      refine soff rfl rfl rfl rfl ?_
      refine soff rfl rfl rfl rfl ?_
      refine soff rfl rfl rfl rfl ?_
      refine soff rfl rfl rfl rfl ?_
      refine soff rfl rfl rfl rfl ?_
      refine sv rfl (opv_pick_f rfl rfl) ?_
      refine sv rfl (opv_mv rfl) ?_
      refine soff rfl rfl rfl rfl ?_
      refine soff rfl rfl rfl rfl ?_
      refine soff rfl rfl rfl rfl ?_
      refine sv rfl (opv_pick_f rfl rfl) ?_
      refine sv rfl (opv_as rfl) ?_
      refine snil ?_
      refine cret ?_
      obtain rfl := Option.some.inj h
      refine ⟨Or.inr rfl, _, _, _, (resVs_cons (ResV.tmp _ _ rfl) resVs_nil), (pubA_id rfl), ?_⟩
      rfl
  · replace h := ite_f hc h
    clear hc
    refine soff rfl rfl rfl rfl ?_
    refine soff rfl rfl rfl rfl ?_
    refine soff rfl rfl rfl rfl ?_
    refine soff rfl rfl rfl rfl ?_
    refine soff rfl rfl rfl rfl ?_
    refine sv rfl (opv_pick_f rfl rfl) ?_
    refine sv rfl (opv_mv rfl) ?_
    refine soff rfl rfl rfl rfl ?_
    refine soff rfl rfl rfl rfl ?_
    refine soff rfl rfl rfl rfl ?_
    refine soff rfl rfl rfl rfl ?_
    refine soff rfl rfl rfl rfl ?_
    refine soff rfl rfl rfl rfl ?_
    refine sv rfl (opv_pick_f rfl rfl) ?_
    refine sv rfl (opv_mv rfl) ?_
    refine soff rfl rfl rfl rfl ?_
    refine soff rfl rfl rfl rfl ?_
    refine soff rfl rfl rfl rfl ?_
    refine sv rfl (opv_pick_f rfl rfl) ?_
    refine sv rfl (opv_as rfl) ?_
    refine snil ?_
    refine cret ?_
    obtain rfl := Option.some.inj h
    refine ⟨Or.inr rfl, _, _, _, (resVs_cons (ResV.tmp _ _ rfl) resVs_nil), (pubA_id rfl), ?_⟩
    rfl

def m11_r06_Short (a0 : GApiRange) : Option Bool :=
  if (decide ((a0.Lo.length : Int) ≤ 100)) then (some (decide ((a0.Hi.length : Int) ≤ 100))) else (some false)

set_option maxRecDepth 100000 in
theorem m11_r06_Short_c {a0 : GApiRange} {r : Bool} (h : m11_r06_Short a0 = some r) : CallsA Try.prog 11 [.agg [.sl a0.Lo.length (a0.Lo.flatMap eU8), .sl a0.Hi.length (a0.Hi.flatMap eU8), .b a0.Open]] (· = .s (.one (.b r))) := by
  unfold m11_r06_Short at h
  refine callsA_of Try.func11 rfl (nt := 13) rfl (Nat.le_of_ble_eq_true rfl) ?_
  intro w0 S0
  refine cseq ?_
  refine cregion ?_
  refine sbox rfl rfl ?_
  refine sv rfl (opv_as rfl) ?_
  refine snil ?_
  refine cseq ?_
  refine cregion ?_
  refine sv rfl (opv_fieldAddr_lp fi24_0 rfl) ?_
  refine sv rfl (opv_load1 ti22 rfl (.lp _ _ _ rfl) rfl) ?_
  refine sv rfl (opv_len_sl si22 rfl) ?_
  refine sv rfl (opv_leq rfl rfl) ?_
  refine sv rfl (opv_mv rfl) ?_
  refine ssplit 7 rfl (fun hc => ?_) (fun hc => ?_)
  · replace h := ite_t hc h
    clear hc
    refine son rfl rfl rfl ?_
    refine sv rfl (opv_fieldAddr_lp fi24_1 rfl) ?_
    refine son rfl rfl rfl ?_
    refine sv rfl (opv_load1 ti22 rfl (.lp _ _ _ rfl) rfl) ?_
    refine son rfl rfl rfl ?_
    refine sv rfl (opv_len_sl si22 rfl) ?_
    refine son rfl rfl rfl ?_
    refine sv rfl (opv_leq rfl rfl) ?_
    refine sv rfl (opv_pick_t rfl rfl) ?_
    refine sv rfl (opv_as rfl) ?_
    refine snil ?_
    refine cret ?_
    obtain rfl := Option.some.inj h
    refine ⟨Or.inr rfl, _, _, _, (resVs_cons (ResV.tmp _ _ rfl) resVs_nil), (pubA_id rfl), ?_⟩
    rfl
  · replace h := ite_f hc h
    clear hc
    refine soff rfl rfl rfl rfl ?_
    refine soff rfl rfl rfl rfl ?_
    refine soff rfl rfl rfl rfl ?_
    refine soff rfl rfl rfl rfl ?_
    refine sv rfl (opv_pick_f rfl rfl) ?_
    refine sv rfl (opv_as rfl) ?_
    refine snil ?_
    refine cret ?_
    obtain rfl := Option.some.inj h
    refine ⟨Or.inr rfl, _, _, _, (resVs_cons (ResV.tmp _ _ rfl) resVs_nil), (pubA_id rfl), ?_⟩
    rfl

def m12_r03_Few_k1 (b1 : Unit) : Option Bool :=
  some true

def m12_r03_Few_s2 (a0 : List (List UInt8)) (a1 : Int) (s2 : Int) : Option (LR (Int) (Unit) (Bool)) :=
  if (decide (s2 < (a0.length : Int))) then ((idx a0 s2).bind fun u3 => if (decide (a1 < (u3.length : Int))) then (some (.ret false)) else (some (.cont (wI (s2 + 1))))) else (some (.brk ()))
def m12_r03_Few (a0 : List (List UInt8)) (a1 : Int) : Option Bool :=
  if (decide (20 < (a0.length : Int))) then (some false) else ((iter (m12_r03_Few_s2 a0 a1) fuel 0).bind fun x => match x with | .inl r => some r | .inr e4 => m12_r03_Few_k1 e4)

set_option maxRecDepth 100000 in
theorem m12_r03_Few_c {a0 : List (List UInt8)} {a1 : Int} {r : Bool} (h : m12_r03_Few a0 a1 = some r) : CallsA Try.prog 12 [.one (.sl a0.length (a0.flatMap (eL eU8))), .one (.i .i64 a1)] (· = .s (.one (.b r))) := by
  unfold m12_r03_Few at h
  refine callsA_of Try.func12 rfl (nt := 22) rfl (Nat.le_of_ble_eq_true rfl) ?_
  intro w0 S0
  refine cseq ?_
  refine cregion ?_
  refine sv rfl (opv_as rfl) ?_
  refine snil ?_
  refine cseq ?_
  refine cseq ?_
  refine cregion ?_
  refine sv rfl (opv_mv rfl) ?_
  refine sv rfl (opv_len_sl si25 rfl) ?_
  refine sv rfl (opv_gtr rfl rfl) ?_
  refine snil ?_
  refine ccond rfl (fun hc => ?_) (fun hc => ?_)
  · replace h := ite_t hc h
    clear hc
    refine cseq ?_
    refine cregion ?_
    refine sv rfl (opv_as rfl) ?_
    refine snil ?_
    refine cret ?_
    refine then_ret ?_
    obtain rfl := Option.some.inj h
    refine ⟨Or.inr rfl, _, _, _, (resVs_cons (ResV.tmp _ _ rfl) resVs_nil), (pubA_id rfl), ?_⟩
    rfl
  · replace h := ite_f hc h
    clear hc
    refine cskip ?_
    refine then_normal ?_
    refine cseq ?_
    refine cseq ?_
    refine cregion ?_
    refine sv rfl (opv_as rfl) ?_
    refine snil ?_
    refine cjoin (Unit) (fun b1 => []) (fun b1 => []) (fun b1 => m12_r03_Few_k1 b1 = some r) (fun _ _ => inbL_of rfl) (fun _ _ => blkinb_of rfl) (fun _ _ => Nat.le_of_ble_eq_true rfl) (fun b1 h => ?_) ?_
    · unfold m12_r03_Few_k1 at h
      refine cseq ?_
      refine cregion ?_
      refine sv rfl (opv_as rfl) ?_
      refine snil ?_
      refine cret ?_
      obtain rfl := Option.some.inj h
      refine ⟨Or.inr rfl, _, _, _, (resVs_cons (ResV.tmp _ _ rfl) resVs_nil), (pubA_id rfl), ?_⟩
      rfl
    · skip
      refine cblock ?_
      obtain ⟨x2, hx2, ho2⟩ := bind_eq h
      refine awc_loop (G := Nat × (Int)) (fun g => [(0, .s (.one (.sl a0.length (a0.flatMap (eL eU8))))), (1, .s (.one (.i .i64 a1))), (5, .s (.one (.i .i64 g.2)))]) (fun g => []) (fun g => iter (m12_r03_Few_s2 a0 a1) g.1 g.2 = some x2) (fun g => g.1) (fuel, 0) hx2 ⟨rfl, rfl, rfl, trivial⟩ [] rfl (fun _ _ => inbL_of rfl) (fun _ _ => blkinb_of rfl) (fun _ _ => Nat.le_of_ble_eq_true rfl) ?_
      clear hx2 h
      rintro ⟨n2, s2⟩ h
      obtain ⟨n2, y2, rfl, h, hk2⟩ := iter_eq h
      unfold m12_r03_Few_s2 at h
      refine cseq ?_
      refine cseq ?_
      refine cregion ?_
      refine sv rfl (opv_mv rfl) ?_
      refine sv rfl (opv_mv rfl) ?_
      refine sv rfl (opv_len_sl si25 rfl) ?_
      refine sv rfl (opv_lss rfl rfl) ?_
      refine snil ?_
      refine ccond rfl (fun hc => ?_) (fun hc => ?_)
      · replace h := ite_t hc h
        clear hc
        refine cskip ?_
        refine then_normal ?_
        refine cseq ?_
        refine cblock ?_
        refine cseq ?_
        refine cregion ?_
        refine sv rfl (opv_mv rfl) ?_
        refine sv rfl (opv_mv rfl) ?_
        obtain ⟨u3, hu3, h⟩ := bind_eq h
        refine sv rfl (opv_ix (f := (eL eU8)) si25 (fun _ => rfl) rfl rfl rfl rfl hu3) ?_
        refine sv rfl (opv_load1 ti22 rfl (.cp _) rfl) ?_
        refine sv rfl (opv_len_sl si22 rfl) ?_
        refine sv rfl (opv_mv rfl) ?_
        refine sv rfl (opv_gtr rfl rfl) ?_
        refine snil ?_
        refine ccond rfl (fun hc => ?_) (fun hc => ?_)
        · replace h := ite_t hc h
          clear hc
          refine cseq ?_
          refine cregion ?_
          refine sv rfl (opv_as rfl) ?_
          refine snil ?_
          refine cret ?_
          refine block_ret ?_
          refine then_ret ?_
          refine then_ret ?_
          refine block_ret ?_
          refine then_ret ?_
          obtain rfl := Option.some.inj h
          obtain rfl : Sum.inl _ = x2 := hk2
          replace ho2 : some _ = some _ := ho2
          obtain rfl := Option.some.inj ho2
          refine ⟨Or.inr rfl, _, _, _, (resVs_cons (ResV.tmp _ _ rfl) resVs_nil), (pubA_id rfl), ?_⟩
          rfl
        · replace h := ite_f hc h
          clear hc
          refine cskip ?_
          refine block_normal ?_
          refine then_normal ?_
          refine cregion ?_
          refine sv rfl (opv_mv rfl) ?_
          refine sv rfl (opv_add rfl rfl) ?_
          refine sv rfl (opv_as rfl) ?_
          refine snil ?_
          obtain rfl := Option.some.inj h
          exact ⟨(n2, (wI (s2 + 1))), _, hk2, ⟨rfl, rfl, rfl, trivial⟩, rfl, Nat.lt_succ_self _⟩
      · replace h := ite_f hc h
        clear hc
        refine cexit ?_
        refine then_exit ?_
        refine then_exit ?_
        refine block_hit ?_
        refine then_normal ?_
        obtain rfl := Option.some.inj h
        obtain rfl : _ = x2 := hk2
        exact ⟨(), _, ho2, trivial, rfl⟩

def m31_keys_Empty_k1 (a0 : GApiRange) (b1 : Bool) : Option Bool :=
  if b1 then (some true) else ((m23_keys_Cmp a0.Hi a0.Lo).bind fun v2 => some (decide (v2 ≤ 0)))
def m31_keys_Empty (a0 : GApiRange) : Option Bool :=
  if a0.Open then (some false) else (if (decide ((a0.Lo.length : Int) = 0)) then (if (decide ((a0.Hi.length : Int) = 1)) then ((idx a0.Hi 0).bind fun u3 => m31_keys_Empty_k1 a0 (decide ((u3.toBitVec.toNat : Int) = (0 : Int)))) else (m31_keys_Empty_k1 a0 false)) else (m31_keys_Empty_k1 a0 false))

set_option maxRecDepth 100000 in
theorem m31_keys_Empty_c {a0 : GApiRange} {r : Bool} (h : m31_keys_Empty a0 = some r) : CallsA Try.prog 31 [.agg [.sl a0.Lo.length (a0.Lo.flatMap eU8), .sl a0.Hi.length (a0.Hi.flatMap eU8), .b a0.Open]] (· = .s (.one (.b r))) := by
  unfold m31_keys_Empty at h
  refine callsA_of Try.func31 rfl (nt := 32) rfl (Nat.le_of_ble_eq_true rfl) ?_
  intro w0 S0
  refine cseq ?_
  refine cregion ?_
  refine sbox rfl rfl ?_
  refine sv rfl (opv_as rfl) ?_
  refine snil ?_
  refine cseq ?_
  refine cseq ?_
  refine cregion ?_
  refine sv rfl (opv_fieldAddr_lp fi24_2 rfl) ?_
  refine sv rfl (opv_load1 ti4 rfl (.lp _ _ _ rfl) rfl) ?_
  refine snil ?_
  refine ccond rfl (fun hc => ?_) (fun hc => ?_)
  · replace h := ite_t hc h
    clear hc
    refine cseq ?_
    refine cregion ?_
    refine sv rfl (opv_as rfl) ?_
    refine snil ?_
    refine cret ?_
    refine then_ret ?_
    obtain rfl := Option.some.inj h
    refine ⟨Or.inr rfl, _, _, _, (resVs_cons (ResV.tmp _ _ rfl) resVs_nil), (pubA_id rfl), ?_⟩
    rfl
  · replace h := ite_f hc h
    clear hc
    refine cskip ?_
    refine then_normal ?_
    refine cseq ?_
    refine cjoin (Bool) (fun b1 => [(1, .s (.one (.lp 0 0))), (3, .s (.one (.b b1)))]) (fun b1 => [.box [.sl a0.Lo.length (a0.Lo.flatMap eU8), .sl a0.Hi.length (a0.Hi.flatMap eU8), .b a0.Open]]) (fun b1 => m31_keys_Empty_k1 a0 b1 = some r) (fun _ _ => inbL_of rfl) (fun _ _ => blkinb_of rfl) (fun _ _ => Nat.le_of_ble_eq_true rfl) (fun b1 h => ?_) ?_
    · unfold m31_keys_Empty_k1 at h
      refine cseq ?_
      refine cregion ?_
      refine sv rfl (opv_mv rfl) ?_
      refine sv rfl (opv_mv rfl) ?_
      refine ssplit 24 rfl (fun hc => ?_) (fun hc => ?_)
      · replace h := ite_t hc h
        clear hc
        refine soff rfl rfl rfl rfl ?_
        refine soff rfl rfl rfl rfl ?_
        refine soff rfl rfl rfl rfl ?_
        refine soff rfl rfl rfl rfl ?_
        refine soff rfl rfl rfl rfl ?_
        refine soff rfl rfl rfl rfl ?_
        refine sv rfl (opv_pick_t rfl rfl) ?_
        refine sv rfl (opv_as rfl) ?_
        refine snil ?_
        refine cret ?_
        obtain rfl := Option.some.inj h
        refine ⟨Or.inr rfl, _, _, _, (resVs_cons (ResV.tmp _ _ rfl) resVs_nil), (pubA_id rfl), ?_⟩
        rfl
      · replace h := ite_f hc h
        clear hc
        refine son rfl rfl rfl ?_
        refine sv rfl (opv_fieldAddr_lp fi24_1 rfl) ?_
        refine son rfl rfl rfl ?_
        refine sv rfl (opv_load1 ti22 rfl (.lp _ _ _ rfl) rfl) ?_
        refine son rfl rfl rfl ?_
        refine sv rfl (opv_fieldAddr_lp fi24_0 rfl) ?_
        refine son rfl rfl rfl ?_
        refine sv rfl (opv_load1 ti22 rfl (.lp _ _ _ rfl) rfl) ?_
        refine son rfl rfl rfl ?_
        obtain ⟨v2, hv2, h⟩ := bind_eq h
        refine scall1 rfl fn23 (opnds_cons rfl (opnds_cons rfl opnds_nil)) (pubA_id rfl) (m23_keys_Cmp_c hv2) ?_
        refine son rfl rfl rfl ?_
        refine sv rfl (opv_leq rfl rfl) ?_
        refine sv rfl (opv_pick_f rfl rfl) ?_
        refine sv rfl (opv_as rfl) ?_
        refine snil ?_
        refine cret ?_
        obtain rfl := Option.some.inj h
        refine ⟨Or.inr rfl, _, _, _, (resVs_cons (ResV.tmp _ _ rfl) resVs_nil), (pubA_id rfl), ?_⟩
        rfl
    · skip
      refine cregion ?_
      refine sv rfl (opv_fieldAddr_lp fi24_0 rfl) ?_
      refine sv rfl (opv_load1 ti22 rfl (.lp _ _ _ rfl) rfl) ?_
      refine sv rfl (opv_len_sl si22 rfl) ?_
      refine sv rfl (opv_ieql rfl rfl) ?_
      refine sv rfl (opv_mv rfl) ?_
      refine ssplit 10 rfl (fun hc => ?_) (fun hc => ?_)
      · replace h := ite_t hc h
        clear hc
        refine son rfl rfl rfl ?_
        refine sv rfl (opv_fieldAddr_lp fi24_1 rfl) ?_
        refine son rfl rfl rfl ?_
        refine sv rfl (opv_load1 ti22 rfl (.lp _ _ _ rfl) rfl) ?_
        refine son rfl rfl rfl ?_
        refine sv rfl (opv_len_sl si22 rfl) ?_
        refine son rfl rfl rfl ?_
        refine sv rfl (opv_ieql rfl rfl) ?_
        refine sv rfl (opv_pick_t rfl rfl) ?_
        refine sv rfl (opv_mv rfl) ?_
        refine ssplit 16 rfl (fun hc => ?_) (fun hc => ?_)
        · replace h := ite_t hc h
          clear hc
          refine son rfl rfl rfl ?_
          refine sv rfl (opv_fieldAddr_lp fi24_1 rfl) ?_
          refine son rfl rfl rfl ?_
          refine sv rfl (opv_load1 ti22 rfl (.lp _ _ _ rfl) rfl) ?_
          refine son rfl rfl rfl ?_
          obtain ⟨u3, hu3, h⟩ := bind_eq h
          refine sv rfl (opv_ix (f := eU8) si22 (fun _ => rfl) rfl rfl rfl rfl hu3) ?_
          refine son rfl rfl rfl ?_
          refine sv rfl (opv_load1 ti5 rfl (.cp _) rfl) ?_
          refine son rfl rfl rfl ?_
          refine sv rfl (opv_ieql rfl rfl) ?_
          refine sv rfl (opv_pick_t rfl rfl) ?_
          refine sv rfl (opv_as rfl) ?_
          refine snil ?_
          exact ⟨(decide ((u3.toBitVec.toNat : Int) = (0 : Int))), _, h, ⟨rfl, rfl, trivial⟩, rfl⟩
        · replace h := ite_f hc h
          clear hc
          refine soff rfl rfl rfl rfl ?_
          refine soff rfl rfl rfl rfl ?_
          refine soff rfl rfl rfl rfl ?_
          refine soff rfl rfl rfl rfl ?_
          refine soff rfl rfl rfl rfl ?_
          refine sv rfl (opv_pick_f rfl rfl) ?_
          refine sv rfl (opv_as rfl) ?_
          refine snil ?_
          exact ⟨false, _, h, ⟨rfl, rfl, trivial⟩, rfl⟩
      · replace h := ite_f hc h
        clear hc
        refine soff rfl rfl rfl rfl ?_
        refine soff rfl rfl rfl rfl ?_
        refine soff rfl rfl rfl rfl ?_
        refine soff rfl rfl rfl rfl ?_
        refine sv rfl (opv_pick_f rfl rfl) ?_
        refine sv rfl (opv_mv rfl) ?_
        refine soff rfl rfl rfl rfl ?_
        refine soff rfl rfl rfl rfl ?_
        refine soff rfl rfl rfl rfl ?_
        refine soff rfl rfl rfl rfl ?_
        refine soff rfl rfl rfl rfl ?_
        refine sv rfl (opv_pick_f rfl rfl) ?_
        refine sv rfl (opv_as rfl) ?_
        refine snil ?_
        exact ⟨false, _, h, ⟨rfl, rfl, trivial⟩, rfl⟩

def m13_keys_Meet_k3 (b2 : (List UInt8)) (b3 : (List UInt8) × Bool) : Option (GApiRange × Bool) :=
  (m31_keys_Empty (GApiRange.mk b2 b3.1 b3.2)).bind fun v4 => if v4 then (some ((GApiRange.mk ([] : List UInt8) ([] : List UInt8) false), false)) else (some ((GApiRange.mk b2 b3.1 b3.2), true))

def m13_keys_Meet_k2 (a0 : GApiRange) (a1 : GApiRange) (b2 : (List UInt8)) : Option (GApiRange × Bool) :=
  if (!a1.Open) then (if a0.Open then (m13_keys_Meet_k3 b2 (a1.Hi, false)) else ((m23_keys_Cmp a1.Hi a0.Hi).bind fun v5 => if (decide (v5 < 0)) then (m13_keys_Meet_k3 b2 (a1.Hi, false)) else (m13_keys_Meet_k3 b2 (a0.Hi, a0.Open)))) else (m13_keys_Meet_k3 b2 (a0.Hi, a0.Open))
def m13_keys_Meet (a0 : GApiRange) (a1 : GApiRange) : Option (GApiRange × Bool) :=
  (m23_keys_Cmp a1.Lo a0.Lo).bind fun v1 => if (decide (0 < v1)) then (m13_keys_Meet_k2 a0 a1 a1.Lo) else (m13_keys_Meet_k2 a0 a1 a0.Lo)

set_option maxRecDepth 100000 in
theorem m13_keys_Meet_c {a0 : GApiRange} {a1 : GApiRange} {r : GApiRange × Bool} (h : m13_keys_Meet a0 a1 = some r) : CallsA Try.prog 13 [.agg [.sl a0.Lo.length (a0.Lo.flatMap eU8), .sl a0.Hi.length (a0.Hi.flatMap eU8), .b a0.Open], .agg [.sl a1.Lo.length (a1.Lo.flatMap eU8), .sl a1.Hi.length (a1.Hi.flatMap eU8), .b a1.Open]] (· = .tup [.agg [.sl r.1.Lo.length (r.1.Lo.flatMap eU8), .sl r.1.Hi.length (r.1.Hi.flatMap eU8), .b r.1.Open], .one (.b r.2)]) := by
  unfold m13_keys_Meet at h
  refine callsA_of Try.func13 rfl (nt := 40) rfl (Nat.le_of_ble_eq_true rfl) ?_
  intro w0 S0
  refine cseq ?_
  refine cregion ?_
  refine sbox rfl rfl ?_
  refine sbox rfl rfl ?_
  refine salloc rfl zi24 ?_
  refine sv rfl (opv_as rfl) ?_
  refine snil ?_
  refine cseq ?_
  refine cregion ?_
  refine sv rfl (opv_loadN ti24 rfl (.lp _ _ _ rfl) (Nat.le_of_ble_eq_true rfl)) ?_
  refine salloc rfl zi24 ?_
  refine sstore sz24 rfl rfl rfl rfl (Nat.le_of_ble_eq_true rfl) ?_
  refine smem [.box [.sl a0.Lo.length (a0.Lo.flatMap eU8), .sl a0.Hi.length (a0.Hi.flatMap eU8), .b a0.Open], .box [.sl a1.Lo.length (a1.Lo.flatMap eU8), .sl a1.Hi.length (a1.Hi.flatMap eU8), .b a1.Open], .box [.raw (.slice none 0 0), .raw (.slice none 0 0), .b false], .box [.sl a0.Lo.length (a0.Lo.flatMap eU8), .sl a0.Hi.length (a0.Hi.flatMap eU8), .b a0.Open]] rfl ?_
  refine snil ?_
  refine cseq ?_
  refine cseq ?_
  refine cregion ?_
  refine sv rfl (opv_fieldAddr_lp fi24_0 rfl) ?_
  refine sv rfl (opv_load1 ti22 rfl (.lp _ _ _ rfl) rfl) ?_
  refine sv rfl (opv_fieldAddr_lp fi24_0 rfl) ?_
  refine sv rfl (opv_load1 ti22 rfl (.lp _ _ _ rfl) rfl) ?_
  obtain ⟨v1, hv1, h⟩ := bind_eq h
  refine scall1 rfl fn23 (opnds_cons rfl (opnds_cons rfl opnds_nil)) (pubA_id rfl) (m23_keys_Cmp_c hv1) ?_
  refine sv rfl (opv_gtr rfl rfl) ?_
  refine snil ?_
  refine cjoin ((List UInt8)) (fun b2 => [(2, .s (.one (.lp 0 0))), (3, .s (.one (.lp 1 0))), (4, .s (.one (.lp 2 0))), (6, .s (.one (.lp 3 0)))]) (fun b2 => [.box [.sl a0.Lo.length (a0.Lo.flatMap eU8), .sl a0.Hi.length (a0.Hi.flatMap eU8), .b a0.Open], .box [.sl a1.Lo.length (a1.Lo.flatMap eU8), .sl a1.Hi.length (a1.Hi.flatMap eU8), .b a1.Open], .box [.raw (.slice none 0 0), .raw (.slice none 0 0), .b false], .box [.sl b2.length (b2.flatMap eU8), .sl a0.Hi.length (a0.Hi.flatMap eU8), .b a0.Open]]) (fun b2 => m13_keys_Meet_k2 a0 a1 b2 = some r) (fun _ _ => inbL_of rfl) (fun _ _ => blkinb_of rfl) (fun _ _ => Nat.le_of_ble_eq_true rfl) (fun b2 h => ?_) ?_
  · unfold m13_keys_Meet_k2 at h
    refine cseq ?_
    refine cseq ?_
    refine cjoin3 ((List UInt8) × Bool) (fun b3 => [(4, .s (.one (.lp 2 0))), (6, .s (.one (.lp 3 0)))]) (fun b3 => [.box [.sl a0.Lo.length (a0.Lo.flatMap eU8), .sl a0.Hi.length (a0.Hi.flatMap eU8), .b a0.Open], .box [.sl a1.Lo.length (a1.Lo.flatMap eU8), .sl a1.Hi.length (a1.Hi.flatMap eU8), .b a1.Open], .box [.raw (.slice none 0 0), .raw (.slice none 0 0), .b false], .box [.sl b2.length (b2.flatMap eU8), .sl b3.1.length (b3.1.flatMap eU8), .b b3.2]]) (fun b3 => m13_keys_Meet_k3 b2 b3 = some r) (fun _ _ => inbL_of rfl) (fun _ _ => blkinb_of rfl) (fun _ _ => Nat.le_of_ble_eq_true rfl) (fun b3 h => ?_) ?_
    · unfold m13_keys_Meet_k3 at h
      refine cseq ?_
      refine cseq ?_
      refine cregion ?_
      refine sv rfl (opv_loadN ti24 rfl (.lp _ _ _ rfl) (Nat.le_of_ble_eq_true rfl)) ?_
      obtain ⟨v4, hv4, h⟩ := bind_eq h
      refine scall1 rfl fn31 (opnds_cons rfl opnds_nil) (pubA_id rfl) (m31_keys_Empty_c hv4) ?_
      refine snil ?_
      refine ccond rfl (fun hc => ?_) (fun hc => ?_)
      · replace h := ite_t hc h
        clear hc
        refine cseq ?_
        refine cregion ?_
        refine sv rfl (opv_build zi24 pi24 parts_nil (.nil _)) ?_
        refine sstore sz24 rfl rfl rfl rfl (Nat.le_of_ble_eq_true rfl) ?_
        refine smem [.box [.sl a0.Lo.length (a0.Lo.flatMap eU8), .sl a0.Hi.length (a0.Hi.flatMap eU8), .b a0.Open], .box [.sl a1.Lo.length (a1.Lo.flatMap eU8), .sl a1.Hi.length (a1.Hi.flatMap eU8), .b a1.Open], .box [.raw (.slice none 0 0), .raw (.slice none 0 0), .b false], .box [.sl b2.length (b2.flatMap eU8), .sl b3.1.length (b3.1.flatMap eU8), .b b3.2]] rfl ?_
        refine sv rfl (opv_as rfl) ?_
        refine snil ?_
        refine cret ?_
        refine then_ret ?_
        obtain rfl := Option.some.inj h
        refine ⟨Or.inr rfl, _, _, _, (resVs_cons (ResV.agg _ _ _ _ _ ti24 rfl (.lp _ _ _ rfl) (Nat.le_of_ble_eq_true rfl)) (resVs_cons (ResV.tmp _ _ rfl) resVs_nil)), (pubC rfl), ?_⟩
        rfl
      · replace h := ite_f hc h
        clear hc
        refine cskip ?_
        refine then_normal ?_
        refine cseq ?_
        refine cregion ?_
        refine sv rfl (opv_loadN ti24 rfl (.lp _ _ _ rfl) (Nat.le_of_ble_eq_true rfl)) ?_
        refine sstore sz24 rfl rfl rfl rfl (Nat.le_of_ble_eq_true rfl) ?_
        refine smem [.box [.sl a0.Lo.length (a0.Lo.flatMap eU8), .sl a0.Hi.length (a0.Hi.flatMap eU8), .b a0.Open], .box [.sl a1.Lo.length (a1.Lo.flatMap eU8), .sl a1.Hi.length (a1.Hi.flatMap eU8), .b a1.Open], .box [.sl b2.length (b2.flatMap eU8), .sl b3.1.length (b3.1.flatMap eU8), .b b3.2], .box [.sl b2.length (b2.flatMap eU8), .sl b3.1.length (b3.1.flatMap eU8), .b b3.2]] rfl ?_
        refine sv rfl (opv_as rfl) ?_
        refine snil ?_
        refine cret ?_
        obtain rfl := Option.some.inj h
        refine ⟨Or.inr rfl, _, _, _, (resVs_cons (ResV.agg _ _ _ _ _ ti24 rfl (.lp _ _ _ rfl) (Nat.le_of_ble_eq_true rfl)) (resVs_cons (ResV.tmp _ _ rfl) resVs_nil)), (pubA_id rfl), ?_⟩
        rfl
    · skip
      refine cregion ?_
      refine sv rfl (opv_fieldAddr_lp fi24_2 rfl) ?_
      refine sv rfl (opv_load1 ti4 rfl (.lp _ _ _ rfl) rfl) ?_
      refine sv rfl (opv_not rfl) ?_
      refine sv rfl (opv_mv rfl) ?_
      refine ssplit 20 rfl (fun hc => ?_) (fun hc => ?_)
      · replace h := ite_t hc h
        clear hc
        refine son rfl rfl rfl ?_
        refine sv rfl (opv_fieldAddr_lp fi24_2 rfl) ?_
        refine son rfl rfl rfl ?_
        refine sv rfl (opv_load1 ti4 rfl (.lp _ _ _ rfl) rfl) ?_
        refine son rfl rfl rfl ?_
        refine sv rfl (opv_mv rfl) ?_
        refine ssplit 23 rfl (fun hc => ?_) (fun hc => ?_)
        · replace h := ite_t hc h
          clear hc
          refine soff rfl rfl rfl rfl ?_
          refine soff rfl rfl rfl rfl ?_
          refine soff rfl rfl rfl rfl ?_
          refine soff rfl rfl rfl rfl ?_
          refine soff rfl rfl rfl rfl ?_
          refine soff rfl rfl rfl rfl ?_
          refine son rfl rfl rfl ?_
          refine sv rfl (opv_pick_t rfl rfl) ?_
          refine sv rfl (opv_pick_t rfl rfl) ?_
          refine snil ?_
          refine ccond rfl (fun _ => ?_) (fun hx => Bool.noConfusion hx)
          refine cregion ?_
          refine sv rfl (opv_fieldAddr_lp fi24_1 rfl) ?_
          refine sv rfl (opv_load1 ti22 rfl (.lp _ _ _ rfl) rfl) ?_
          refine sv rfl (opv_fieldAddr_lp fi24_1 rfl) ?_
          refine sstore sz22 rfl rfl rfl rfl (Nat.le_of_ble_eq_true rfl) ?_
          refine smem [.box [.sl a0.Lo.length (a0.Lo.flatMap eU8), .sl a0.Hi.length (a0.Hi.flatMap eU8), .b a0.Open], .box [.sl a1.Lo.length (a1.Lo.flatMap eU8), .sl a1.Hi.length (a1.Hi.flatMap eU8), .b a1.Open], .box [.raw (.slice none 0 0), .raw (.slice none 0 0), .b false], .box [.sl b2.length (b2.flatMap eU8), .sl a1.Hi.length (a1.Hi.flatMap eU8), .b a0.Open]] rfl ?_
          refine sv rfl (opv_fieldAddr_lp fi24_2 rfl) ?_
          refine sstore sz4 rfl rfl rfl rfl (Nat.le_of_ble_eq_true rfl) ?_
          refine smem [.box [.sl a0.Lo.length (a0.Lo.flatMap eU8), .sl a0.Hi.length (a0.Hi.flatMap eU8), .b a0.Open], .box [.sl a1.Lo.length (a1.Lo.flatMap eU8), .sl a1.Hi.length (a1.Hi.flatMap eU8), .b a1.Open], .box [.raw (.slice none 0 0), .raw (.slice none 0 0), .b false], .box [.sl b2.length (b2.flatMap eU8), .sl a1.Hi.length (a1.Hi.flatMap eU8), .b false]] rfl ?_
          refine snil ?_
          exact ⟨(a1.Hi, false), _, h, ⟨rfl, rfl, trivial⟩, rfl⟩
        · replace h := ite_f hc h
          clear hc
          refine son rfl rfl rfl ?_
          refine sv rfl (opv_fieldAddr_lp fi24_1 rfl) ?_
          refine son rfl rfl rfl ?_
          refine sv rfl (opv_load1 ti22 rfl (.lp _ _ _ rfl) rfl) ?_
          refine son rfl rfl rfl ?_
          refine sv rfl (opv_fieldAddr_lp fi24_1 rfl) ?_
          refine son rfl rfl rfl ?_
          refine sv rfl (opv_load1 ti22 rfl (.lp _ _ _ rfl) rfl) ?_
          refine son rfl rfl rfl ?_
          obtain ⟨v5, hv5, h⟩ := bind_eq h
          refine scall1 rfl fn23 (opnds_cons rfl (opnds_cons rfl opnds_nil)) (pubA_id rfl) (m23_keys_Cmp_c hv5) ?_
          refine son rfl rfl rfl ?_
          refine sv rfl (opv_lss rfl rfl) ?_
          refine son rfl rfl rfl ?_
          refine sv rfl (opv_pick_f rfl rfl) ?_
          refine sv rfl (opv_pick_t rfl rfl) ?_
          refine snil ?_
          refine ccond rfl (fun hc => ?_) (fun hc => ?_)
          · replace h := ite_t hc h
            clear hc
            refine cregion ?_
            refine sv rfl (opv_fieldAddr_lp fi24_1 rfl) ?_
            refine sv rfl (opv_load1 ti22 rfl (.lp _ _ _ rfl) rfl) ?_
            refine sv rfl (opv_fieldAddr_lp fi24_1 rfl) ?_
            refine sstore sz22 rfl rfl rfl rfl (Nat.le_of_ble_eq_true rfl) ?_
            refine smem [.box [.sl a0.Lo.length (a0.Lo.flatMap eU8), .sl a0.Hi.length (a0.Hi.flatMap eU8), .b a0.Open], .box [.sl a1.Lo.length (a1.Lo.flatMap eU8), .sl a1.Hi.length (a1.Hi.flatMap eU8), .b a1.Open], .box [.raw (.slice none 0 0), .raw (.slice none 0 0), .b false], .box [.sl b2.length (b2.flatMap eU8), .sl a1.Hi.length (a1.Hi.flatMap eU8), .b a0.Open]] rfl ?_
            refine sv rfl (opv_fieldAddr_lp fi24_2 rfl) ?_
            refine sstore sz4 rfl rfl rfl rfl (Nat.le_of_ble_eq_true rfl) ?_
            refine smem [.box [.sl a0.Lo.length (a0.Lo.flatMap eU8), .sl a0.Hi.length (a0.Hi.flatMap eU8), .b a0.Open], .box [.sl a1.Lo.length (a1.Lo.flatMap eU8), .sl a1.Hi.length (a1.Hi.flatMap eU8), .b a1.Open], .box [.raw (.slice none 0 0), .raw (.slice none 0 0), .b false], .box [.sl b2.length (b2.flatMap eU8), .sl a1.Hi.length (a1.Hi.flatMap eU8), .b false]] rfl ?_
            refine snil ?_
            exact ⟨(a1.Hi, false), _, h, ⟨rfl, rfl, trivial⟩, rfl⟩
          · replace h := ite_f hc h
            clear hc
            refine cskip ?_
            refine then_normal ?_
            exact ⟨(a0.Hi, a0.Open), _, h, ⟨rfl, rfl, trivial⟩, rfl⟩
      · replace h := ite_f hc h
        clear hc
        refine soff rfl rfl rfl rfl ?_
        refine soff rfl rfl rfl rfl ?_
        refine soff rfl rfl rfl rfl ?_
        refine soffu rfl rfl rfl ?_
        refine soffu rfl rfl rfl ?_
        refine soffu rfl rfl rfl ?_
        refine soffu rfl rfl rfl ?_
        refine soffu rfl rfl rfl ?_
        refine soffu rfl rfl rfl ?_
        refine soff rfl rfl rfl rfl ?_
        refine sv rfl (opv_pick_f rfl rfl) ?_
        refine snil ?_
        refine ccond rfl (fun hx => Bool.noConfusion hx) (fun _ => ?_)
        refine cskip ?_
        refine then_normal ?_
        exact ⟨(a0.Hi, a0.Open), _, h, ⟨rfl, rfl, trivial⟩, rfl⟩
  · skip
    refine ccond rfl (fun hc => ?_) (fun hc => ?_)
    · replace h := ite_t hc h
      clear hc
      refine cregion ?_
      refine sv rfl (opv_fieldAddr_lp fi24_0 rfl) ?_
      refine sv rfl (opv_load1 ti22 rfl (.lp _ _ _ rfl) rfl) ?_
      refine sv rfl (opv_fieldAddr_lp fi24_0 rfl) ?_
      refine sstore sz22 rfl rfl rfl rfl (Nat.le_of_ble_eq_true rfl) ?_
      refine smem [.box [.sl a0.Lo.length (a0.Lo.flatMap eU8), .sl a0.Hi.length (a0.Hi.flatMap eU8), .b a0.Open], .box [.sl a1.Lo.length (a1.Lo.flatMap eU8), .sl a1.Hi.length (a1.Hi.flatMap eU8), .b a1.Open], .box [.raw (.slice none 0 0), .raw (.slice none 0 0), .b false], .box [.sl a1.Lo.length (a1.Lo.flatMap eU8), .sl a0.Hi.length (a0.Hi.flatMap eU8), .b a0.Open]] rfl ?_
      refine snil ?_
      exact ⟨a1.Lo, _, h, ⟨rfl, rfl, rfl, rfl, trivial⟩, rfl⟩
    · replace h := ite_f hc h
      clear hc
      refine cskip ?_
      refine then_normal ?_
      exact ⟨a0.Lo, _, h, ⟨rfl, rfl, rfl, rfl, trivial⟩, rfl⟩

def m24_r06_Cmp_k1 (a0 : List UInt8) (a1 : List UInt8) (b1 : Unit) : Option Int :=
  if (decide ((a0.length : Int) < (a1.length : Int))) then (some (-1)) else (if (decide ((a1.length : Int) < (a0.length : Int))) then (some 1) else (some 0))

def m24_r06_Cmp_k3 (a0 : List UInt8) (a1 : List UInt8) (s2 : Int) (b3 : Unit) : Option (LR (Int) (Unit) (Int)) :=
  (idx a0 s2).bind fun u4 => (idx a1 s2).bind fun u5 => if (decide ((u4.toBitVec.toNat : Int) < (u5.toBitVec.toNat : Int))) then (some (.ret (-1))) else ((idx a0 s2).bind fun u6 => (idx a1 s2).bind fun u7 => if (decide ((u7.toBitVec.toNat : Int) < (u6.toBitVec.toNat : Int))) then (some (.ret 1)) else (some (.cont (wI (s2 + 1)))))

def m24_r06_Cmp_s2 (a0 : List UInt8) (a1 : List UInt8) (s2 : Int) : Option (LR (Int) (Unit) (Int)) :=
  if (decide (s2 < (a0.length : Int))) then (if (decide (s2 < (a1.length : Int))) then (m24_r06_Cmp_k3 a0 a1 s2 ()) else (some (.brk ()))) else (some (.brk ()))
def m24_r06_Cmp (a0 : List UInt8) (a1 : List UInt8) : Option Int :=
  (iter (m24_r06_Cmp_s2 a0 a1) fuel 0).bind fun x => match x with | .inl r => some r | .inr e8 => m24_r06_Cmp_k1 a0 a1 e8

set_option maxRecDepth 100000 in
theorem m24_r06_Cmp_c {a0 : List UInt8} {a1 : List UInt8} {r : Int} (h : m24_r06_Cmp a0 a1 = some r) : CallsA Try.prog 24 [.one (.sl a0.length (a0.flatMap eU8)), .one (.sl a1.length (a1.flatMap eU8))] (· = .s (.one (.i .i64 r))) := by
  unfold m24_r06_Cmp at h
  refine callsA_of Try.func24 rfl (nt := 46) rfl (Nat.le_of_ble_eq_true rfl) ?_
  intro w0 S0
  refine cseq ?_
  refine cregion ?_
  refine sv rfl (opv_as rfl) ?_
  refine snil ?_
  refine cseq ?_
  refine cseq ?_
  refine cregion ?_
  refine sv rfl (opv_as rfl) ?_
  refine snil ?_
  refine cjoin (Unit) (fun b1 => [(0, .s (.one (.sl a0.length (a0.flatMap eU8)))), (1, .s (.one (.sl a1.length (a1.flatMap eU8))))]) (fun b1 => []) (fun b1 => m24_r06_Cmp_k1 a0 a1 b1 = some r) (fun _ _ => inbL_of rfl) (fun _ _ => blkinb_of rfl) (fun _ _ => Nat.le_of_ble_eq_true rfl) (fun b1 h => ?_) ?_
  · unfold m24_r06_Cmp_k1 at h
    refine cseq ?_
    refine cseq ?_
    refine cregion ?_
    refine sv rfl (opv_mv rfl) ?_
    refine sv rfl (opv_len_sl si22 rfl) ?_
    refine sv rfl (opv_mv rfl) ?_
    refine sv rfl (opv_len_sl si22 rfl) ?_
    refine sv rfl (opv_lss rfl rfl) ?_
    refine snil ?_
    refine ccond rfl (fun hc => ?_) (fun hc => ?_)
    · replace h := ite_t hc h
      clear hc
      refine cseq ?_
      refine cregion ?_
      refine sv rfl (opv_as rfl) ?_
      refine snil ?_
      refine cret ?_
      refine then_ret ?_
      obtain rfl := Option.some.inj h
      refine ⟨Or.inr rfl, _, _, _, (resVs_cons (ResV.tmp _ _ rfl) resVs_nil), (pubA_id rfl), ?_⟩
      rfl
    · replace h := ite_f hc h
      clear hc
      refine cskip ?_
      refine then_normal ?_
      refine cseq ?_
      refine cseq ?_
      refine cregion ?_
      refine sv rfl (opv_mv rfl) ?_
      refine sv rfl (opv_len_sl si22 rfl) ?_
      refine sv rfl (opv_mv rfl) ?_
      refine sv rfl (opv_len_sl si22 rfl) ?_
      refine sv rfl (opv_gtr rfl rfl) ?_
      refine snil ?_
      refine ccond rfl (fun hc => ?_) (fun hc => ?_)
      · replace h := ite_t hc h
        clear hc
        refine cseq ?_
        refine cregion ?_
        refine sv rfl (opv_as rfl) ?_
        refine snil ?_
        refine cret ?_
        refine then_ret ?_
        obtain rfl := Option.some.inj h
        refine ⟨Or.inr rfl, _, _, _, (resVs_cons (ResV.tmp _ _ rfl) resVs_nil), (pubA_id rfl), ?_⟩
        rfl
      · replace h := ite_f hc h
        clear hc
        refine cskip ?_
        refine then_normal ?_
        refine cseq ?_
        refine cregion ?_
        refine sv rfl (opv_as rfl) ?_
        refine snil ?_
        refine cret ?_
        obtain rfl := Option.some.inj h
        refine ⟨Or.inr rfl, _, _, _, (resVs_cons (ResV.tmp _ _ rfl) resVs_nil), (pubA_id rfl), ?_⟩
        rfl
  · skip
    refine cblock ?_
    obtain ⟨x2, hx2, ho2⟩ := bind_eq h
    refine awc_loop (G := Nat × (Int)) (fun g => [(0, .s (.one (.sl a0.length (a0.flatMap eU8)))), (1, .s (.one (.sl a1.length (a1.flatMap eU8)))), (5, .s (.one (.i .i64 g.2)))]) (fun g => []) (fun g => iter (m24_r06_Cmp_s2 a0 a1) g.1 g.2 = some x2) (fun g => g.1) (fuel, 0) hx2 ⟨rfl, rfl, rfl, trivial⟩ [] rfl (fun _ _ => inbL_of rfl) (fun _ _ => blkinb_of rfl) (fun _ _ => Nat.le_of_ble_eq_true rfl) ?_
    clear hx2 h
    rintro ⟨n2, s2⟩ h
    obtain ⟨n2, y2, rfl, h, hk2⟩ := iter_eq h
    unfold m24_r06_Cmp_s2 at h
    refine cseq ?_
    refine cseq ?_
    refine cjoin3 (Unit) (fun b3 => [(0, .s (.one (.sl a0.length (a0.flatMap eU8)))), (1, .s (.one (.sl a1.length (a1.flatMap eU8)))), (5, .s (.one (.i .i64 s2)))]) (fun b3 => []) (fun b3 => m24_r06_Cmp_k3 a0 a1 s2 b3 = some y2) (fun _ _ => inbL_of rfl) (fun _ _ => blkinb_of rfl) (fun _ _ => Nat.le_of_ble_eq_true rfl) (fun b3 h => ?_) ?_
    · unfold m24_r06_Cmp_k3 at h
      refine cseq ?_
      refine cblock ?_
      refine cseq ?_
      refine cseq ?_
      refine cdraw mixed (by kernel_rfl) ?_
      refine dv rfl (opv_mv rfl) ?_
      refine dv rfl (opv_mv rfl) ?_
      obtain ⟨u4, hu4, h⟩ := bind_eq h
      refine dv rfl (opv_ix (f := eU8) si22 (fun _ => rfl) rfl rfl rfl rfl hu4) ?_
      refine dv rfl (opv_load1 ti5 rfl (.cp _) rfl) ?_
      refine dv rfl (opv_mv rfl) ?_
      refine dv rfl (opv_mv rfl) ?_
      obtain ⟨u5, hu5, h⟩ := bind_eq h
      refine dv rfl (opv_ix (f := eU8) si22 (fun _ => rfl) rfl rfl rfl rfl hu5) ?_
      refine dv rfl (opv_load1 ti5 rfl (.cp _) rfl) ?_
      refine dv rfl (opv_lss rfl rfl) ?_
      refine dnil ?_
      refine then_normal ?_
      refine ccond rfl (fun hc => ?_) (fun hc => ?_)
      · replace h := ite_t hc h
        clear hc
        refine cseq ?_
        refine cregion ?_
        refine sv rfl (opv_as rfl) ?_
        refine snil ?_
        refine cret ?_
        refine then_ret ?_
        refine block_ret ?_
        refine then_ret ?_
        refine then_ret ?_
        refine block_ret ?_
        refine then_ret ?_
        obtain rfl := Option.some.inj h
        obtain rfl : Sum.inl _ = x2 := hk2
        replace ho2 : some _ = some _ := ho2
        obtain rfl := Option.some.inj ho2
        refine ⟨Or.inr rfl, _, _, _, (resVs_cons (ResV.tmp _ _ rfl) resVs_nil), (pubA_id rfl), ?_⟩
        rfl
      · replace h := ite_f hc h
        clear hc
        refine cskip ?_
        refine then_normal ?_
        refine cseq ?_
        refine cdraw mixed (by kernel_rfl) ?_
        refine dv rfl (opv_mv rfl) ?_
        refine dv rfl (opv_mv rfl) ?_
        obtain ⟨u6, hu6, h⟩ := bind_eq h
        refine dv rfl (opv_ix (f := eU8) si22 (fun _ => rfl) rfl rfl rfl rfl hu6) ?_
        refine dv rfl (opv_load1 ti5 rfl (.cp _) rfl) ?_
        refine dv rfl (opv_mv rfl) ?_
        refine dv rfl (opv_mv rfl) ?_
        obtain ⟨u7, hu7, h⟩ := bind_eq h
        refine dv rfl (opv_ix (f := eU8) si22 (fun _ => rfl) rfl rfl rfl rfl hu7) ?_
        refine dv rfl (opv_load1 ti5 rfl (.cp _) rfl) ?_
        refine dv rfl (opv_gtr rfl rfl) ?_
        refine dnil ?_
        refine then_normal ?_
        refine ccond rfl (fun hc => ?_) (fun hc => ?_)
        · replace h := ite_t hc h
          clear hc
          refine cseq ?_
          refine cregion ?_
          refine sv rfl (opv_as rfl) ?_
          refine snil ?_
          refine cret ?_
          refine block_ret ?_
          refine then_ret ?_
          refine then_ret ?_
          refine block_ret ?_
          refine then_ret ?_
          obtain rfl := Option.some.inj h
          obtain rfl : Sum.inl _ = x2 := hk2
          replace ho2 : some _ = some _ := ho2
          obtain rfl := Option.some.inj ho2
          refine ⟨Or.inr rfl, _, _, _, (resVs_cons (ResV.tmp _ _ rfl) resVs_nil), (pubA_id rfl), ?_⟩
          rfl
        · replace h := ite_f hc h
          clear hc
          refine cskip ?_
          refine block_normal ?_
          refine then_normal ?_
          refine cregion ?_
          refine sv rfl (opv_mv rfl) ?_
          refine sv rfl (opv_add rfl rfl) ?_
          refine sv rfl (opv_as rfl) ?_
          refine snil ?_
          obtain rfl := Option.some.inj h
          exact ⟨(n2, (wI (s2 + 1))), _, hk2, ⟨rfl, rfl, rfl, trivial⟩, rfl, Nat.lt_succ_self _⟩
    · skip
      refine cregion ?_
      refine sv rfl (opv_mv rfl) ?_
      refine sv rfl (opv_mv rfl) ?_
      refine sv rfl (opv_len_sl si22 rfl) ?_
      refine sv rfl (opv_lss rfl rfl) ?_
      refine sv rfl (opv_mv rfl) ?_
      refine ssplit 10 rfl (fun hc => ?_) (fun hc => ?_)
      · replace h := ite_t hc h
        clear hc
        refine son rfl rfl rfl ?_
        refine sv rfl (opv_mv rfl) ?_
        refine son rfl rfl rfl ?_
        refine sv rfl (opv_mv rfl) ?_
        refine son rfl rfl rfl ?_
        refine sv rfl (opv_len_sl si22 rfl) ?_
        refine son rfl rfl rfl ?_
        refine sv rfl (opv_lss rfl rfl) ?_
        refine sv rfl (opv_pick_t rfl rfl) ?_
        refine snil ?_
        refine ccond rfl (fun hc => ?_) (fun hc => ?_)
        · replace h := ite_t hc h
          clear hc
          refine cskip ?_
          refine then_normal ?_
          exact ⟨(), _, h, ⟨rfl, rfl, rfl, trivial⟩, rfl⟩
        · replace h := ite_f hc h
          clear hc
          refine cexit ?_
          refine then_exit ?_
          refine then_exit ?_
          refine block_hit ?_
          refine then_normal ?_
          obtain rfl := Option.some.inj h
          obtain rfl : _ = x2 := hk2
          exact ⟨(), _, ho2, ⟨rfl, rfl, trivial⟩, rfl⟩
      · replace h := ite_f hc h
        clear hc
        refine soff rfl rfl rfl rfl ?_
        refine soff rfl rfl rfl rfl ?_
        refine soff rfl rfl rfl rfl ?_
        refine soff rfl rfl rfl rfl ?_
        refine sv rfl (opv_pick_f rfl rfl) ?_
        refine snil ?_
        refine ccond rfl (fun hx => Bool.noConfusion hx) (fun _ => ?_)
        refine cexit ?_
        refine then_exit ?_
        refine then_exit ?_
        refine block_hit ?_
        refine then_normal ?_
        obtain rfl := Option.some.inj h
        obtain rfl : _ = x2 := hk2
        exact ⟨(), _, ho2, ⟨rfl, rfl, trivial⟩, rfl⟩

def m32_r06_Empty (a0 : GApiRange) : Option Bool :=
  if (!a0.Open) then ((m24_r06_Cmp a0.Hi a0.Lo).bind fun v1 => if (decide (v1 ≤ 0)) then (some true) else (if (decide ((a0.Lo.length : Int) = 0)) then (if (decide ((a0.Hi.length : Int) = 1)) then ((idx a0.Hi 0).bind fun u2 => some (decide ((u2.toBitVec.toNat : Int) = (0 : Int)))) else (some false)) else (some false))) else (some false)

set_option maxRecDepth 100000 in
theorem m32_r06_Empty_c {a0 : GApiRange} {r : Bool} (h : m32_r06_Empty a0 = some r) : CallsA Try.prog 32 [.agg [.sl a0.Lo.length (a0.Lo.flatMap eU8), .sl a0.Hi.length (a0.Hi.flatMap eU8), .b a0.Open]] (· = .s (.one (.b r))) := by
  unfold m32_r06_Empty at h
  refine callsA_of Try.func32 rfl (nt := 33) rfl (Nat.le_of_ble_eq_true rfl) ?_
  intro w0 S0
  refine cseq ?_
  refine cregion ?_
  refine sbox rfl rfl ?_
  refine sv rfl (opv_as rfl) ?_
  refine snil ?_
  refine cseq ?_
  refine cregion ?_
  refine sv rfl (opv_fieldAddr_lp fi24_2 rfl) ?_
  refine sv rfl (opv_load1 ti4 rfl (.lp _ _ _ rfl) rfl) ?_
  refine sv rfl (opv_not rfl) ?_
  refine sv rfl (opv_mv rfl) ?_
  refine ssplit 6 rfl (fun hc => ?_) (fun hc => ?_)
  · replace h := ite_t hc h
    clear hc
    refine son rfl rfl rfl ?_
    refine sv rfl (opv_fieldAddr_lp fi24_1 rfl) ?_
    refine son rfl rfl rfl ?_
    refine sv rfl (opv_load1 ti22 rfl (.lp _ _ _ rfl) rfl) ?_
    refine son rfl rfl rfl ?_
    refine sv rfl (opv_fieldAddr_lp fi24_0 rfl) ?_
    refine son rfl rfl rfl ?_
    refine sv rfl (opv_load1 ti22 rfl (.lp _ _ _ rfl) rfl) ?_
    refine son rfl rfl rfl ?_
    obtain ⟨v1, hv1, h⟩ := bind_eq h
    refine scall1 rfl fn24 (opnds_cons rfl (opnds_cons rfl opnds_nil)) (pubA_id rfl) (m24_r06_Cmp_c hv1) ?_
    refine son rfl rfl rfl ?_
    refine sv rfl (opv_leq rfl rfl) ?_
    refine son rfl rfl rfl ?_
    refine sv rfl (opv_mv rfl) ?_
    refine ssplit 13 rfl (fun hc => ?_) (fun hc => ?_)
    · replace h := ite_t hc h
      clear hc
      refine soff rfl rfl rfl rfl ?_
      refine soff rfl rfl rfl rfl ?_
      refine soff rfl rfl rfl rfl ?_
      refine soff rfl rfl rfl rfl ?_
      refine soff rfl rfl rfl rfl ?_
      refine soffu rfl rfl rfl ?_
      refine soffu rfl rfl rfl ?_
      refine soffu rfl rfl rfl ?_
      refine soffu rfl rfl rfl ?_
      refine soff rfl rfl rfl rfl ?_
      refine soff rfl rfl rfl rfl ?_
      refine soffu rfl rfl rfl ?_
      refine soffu rfl rfl rfl ?_
      refine soffu rfl rfl rfl ?_
      refine soffu rfl rfl rfl ?_
      refine soffu rfl rfl rfl ?_
      refine soff rfl rfl rfl rfl ?_
      refine son rfl rfl rfl ?_
      refine sv rfl (opv_pick_t rfl rfl) ?_
      refine sv rfl (opv_pick_t rfl rfl) ?_
      refine sv rfl (opv_as rfl) ?_
      refine snil ?_
      refine cret ?_
      obtain rfl := Option.some.inj h
      refine ⟨Or.inr rfl, _, _, _, (resVs_cons (ResV.tmp _ _ rfl) resVs_nil), (pubA_id rfl), ?_⟩
      rfl
    · replace h := ite_f hc h
      clear hc
      refine son rfl rfl rfl ?_
      refine sv rfl (opv_fieldAddr_lp fi24_0 rfl) ?_
      refine son rfl rfl rfl ?_
      refine sv rfl (opv_load1 ti22 rfl (.lp _ _ _ rfl) rfl) ?_
      refine son rfl rfl rfl ?_
      refine sv rfl (opv_len_sl si22 rfl) ?_
      refine son rfl rfl rfl ?_
      refine sv rfl (opv_ieql rfl rfl) ?_
      refine son rfl rfl rfl ?_
      refine sv rfl (opv_mv rfl) ?_
      refine ssplit 18 rfl (fun hc => ?_) (fun hc => ?_)
      · replace h := ite_t hc h
        clear hc
        refine son rfl rfl rfl ?_
        refine sv rfl (opv_fieldAddr_lp fi24_1 rfl) ?_
        refine son rfl rfl rfl ?_
        refine sv rfl (opv_load1 ti22 rfl (.lp _ _ _ rfl) rfl) ?_
        refine son rfl rfl rfl ?_
        refine sv rfl (opv_len_sl si22 rfl) ?_
        refine son rfl rfl rfl ?_
        refine sv rfl (opv_ieql rfl rfl) ?_
        refine son rfl rfl rfl ?_
        refine sv rfl (opv_pick_t rfl rfl) ?_
        refine son rfl rfl rfl ?_
        refine sv rfl (opv_mv rfl) ?_
        refine ssplit 24 rfl (fun hc => ?_) (fun hc => ?_)
        · replace h := ite_t hc h
          clear hc
          refine son rfl rfl rfl ?_
          refine sv rfl (opv_fieldAddr_lp fi24_1 rfl) ?_
          refine son rfl rfl rfl ?_
          refine sv rfl (opv_load1 ti22 rfl (.lp _ _ _ rfl) rfl) ?_
          refine son rfl rfl rfl ?_
          obtain ⟨u2, hu2, h⟩ := bind_eq h
          refine sv rfl (opv_ix (f := eU8) si22 (fun _ => rfl) rfl rfl rfl rfl hu2) ?_
          refine son rfl rfl rfl ?_
          refine sv rfl (opv_load1 ti5 rfl (.cp _) rfl) ?_
          refine son rfl rfl rfl ?_
          refine sv rfl (opv_ieql rfl rfl) ?_
          refine son rfl rfl rfl ?_
          refine sv rfl (opv_pick_t rfl rfl) ?_
          refine son rfl rfl rfl ?_
          refine sv rfl (opv_pick_f rfl rfl) ?_
          refine sv rfl (opv_pick_t rfl rfl) ?_
          refine sv rfl (opv_as rfl) ?_
          refine snil ?_
          refine cret ?_
          obtain rfl := Option.some.inj h
          refine ⟨Or.inr rfl, _, _, _, (resVs_cons (ResV.tmp _ _ rfl) resVs_nil), (pubA_id rfl), ?_⟩
          rfl
        · replace h := ite_f hc h
          clear hc
          refine soff rfl rfl rfl rfl ?_
          refine soff rfl rfl rfl rfl ?_
          refine soff rfl rfl rfl rfl ?_
          refine soff rfl rfl rfl rfl ?_
          refine soff rfl rfl rfl rfl ?_
          refine son rfl rfl rfl ?_
          refine sv rfl (opv_pick_f rfl rfl) ?_
          refine son rfl rfl rfl ?_
          refine sv rfl (opv_pick_f rfl rfl) ?_
          refine sv rfl (opv_pick_t rfl rfl) ?_
          refine sv rfl (opv_as rfl) ?_
          refine snil ?_
          refine cret ?_
          obtain rfl := Option.some.inj h
          refine ⟨Or.inr rfl, _, _, _, (resVs_cons (ResV.tmp _ _ rfl) resVs_nil), (pubA_id rfl), ?_⟩
          rfl
      · replace h := ite_f hc h
        clear hc
        refine soff rfl rfl rfl rfl ?_
        refine soff rfl rfl rfl rfl ?_
        refine soff rfl rfl rfl rfl ?_
        refine soff rfl rfl rfl rfl ?_
        refine son rfl rfl rfl ?_
        refine sv rfl (opv_pick_f rfl rfl) ?_
        refine son rfl rfl rfl ?_
        refine sv rfl (opv_mv rfl) ?_
        refine soff rfl rfl rfl rfl ?_
        refine soff rfl rfl rfl rfl ?_
        refine soff rfl rfl rfl rfl ?_
        refine soff rfl rfl rfl rfl ?_
        refine soff rfl rfl rfl rfl ?_
        refine son rfl rfl rfl ?_
        refine sv rfl (opv_pick_f rfl rfl) ?_
        refine son rfl rfl rfl ?_
        refine sv rfl (opv_pick_f rfl rfl) ?_
        refine sv rfl (opv_pick_t rfl rfl) ?_
        refine sv rfl (opv_as rfl) ?_
        refine snil ?_
        refine cret ?_
        obtain rfl := Option.some.inj h
        refine ⟨Or.inr rfl, _, _, _, (resVs_cons (ResV.tmp _ _ rfl) resVs_nil), (pubA_id rfl), ?_⟩
        rfl
  · replace h := ite_f hc h
    clear hc
    refine soff rfl rfl rfl rfl ?_
    refine soff rfl rfl rfl rfl ?_
    refine soff rfl rfl rfl rfl ?_
    refine soff rfl rfl rfl rfl ?_
    refine soff rfl rfl rfl rfl ?_
    refine soff rfl rfl rfl rfl ?_
    refine soff rfl rfl rfl rfl ?_
    refine soffu rfl rfl rfl ?_
    refine soffu rfl rfl rfl ?_
    refine soffu rfl rfl rfl ?_
    refine soffu rfl rfl rfl ?_
    refine soffu rfl rfl rfl ?_
    refine soffu rfl rfl rfl ?_
    refine soffu rfl rfl rfl ?_
    refine soffu rfl rfl rfl ?_
    refine soffu rfl rfl rfl ?_
    refine soffu rfl rfl rfl ?_
    refine soffu rfl rfl rfl ?_
    refine soffu rfl rfl rfl ?_
    refine soffu rfl rfl rfl ?_
    refine soffu rfl rfl rfl ?_
    refine soffu rfl rfl rfl ?_
    refine soffu rfl rfl rfl ?_
    refine soffu rfl rfl rfl ?_
    refine soff rfl rfl rfl rfl ?_
    refine sv rfl (opv_pick_f rfl rfl) ?_
    refine sv rfl (opv_as rfl) ?_
    refine snil ?_
    refine cret ?_
    obtain rfl := Option.some.inj h
    refine ⟨Or.inr rfl, _, _, _, (resVs_cons (ResV.tmp _ _ rfl) resVs_nil), (pubA_id rfl), ?_⟩
    rfl

def m14_r06_Meet_k3 (b2 : (List UInt8)) (b3 : (List UInt8) × Bool) : Option (GApiRange × Bool) :=
  (m32_r06_Empty (GApiRange.mk b2 b3.1 b3.2)).bind fun v4 => if v4 then (some ((GApiRange.mk ([] : List UInt8) ([] : List UInt8) false), false)) else (some ((GApiRange.mk b2 b3.1 b3.2), true))

def m14_r06_Meet_k2 (a0 : GApiRange) (a1 : GApiRange) (b2 : (List UInt8)) : Option (GApiRange × Bool) :=
  if (!a1.Open) then (if a0.Open then (m14_r06_Meet_k3 b2 (a1.Hi, a1.Open)) else ((m24_r06_Cmp a1.Hi a0.Hi).bind fun v5 => if (decide (v5 < 0)) then (m14_r06_Meet_k3 b2 (a1.Hi, a1.Open)) else (m14_r06_Meet_k3 b2 (a0.Hi, a0.Open)))) else (m14_r06_Meet_k3 b2 (a0.Hi, a0.Open))
def m14_r06_Meet (a0 : GApiRange) (a1 : GApiRange) : Option (GApiRange × Bool) :=
  (m24_r06_Cmp a1.Lo a0.Lo).bind fun v1 => if (decide (0 < v1)) then (m14_r06_Meet_k2 a0 a1 a1.Lo) else (m14_r06_Meet_k2 a0 a1 a0.Lo)

set_option maxRecDepth 100000 in
theorem m14_r06_Meet_c {a0 : GApiRange} {a1 : GApiRange} {r : GApiRange × Bool} (h : m14_r06_Meet a0 a1 = some r) : CallsA Try.prog 14 [.agg [.sl a0.Lo.length (a0.Lo.flatMap eU8), .sl a0.Hi.length (a0.Hi.flatMap eU8), .b a0.Open], .agg [.sl a1.Lo.length (a1.Lo.flatMap eU8), .sl a1.Hi.length (a1.Hi.flatMap eU8), .b a1.Open]] (· = .tup [.agg [.sl r.1.Lo.length (r.1.Lo.flatMap eU8), .sl r.1.Hi.length (r.1.Hi.flatMap eU8), .b r.1.Open], .one (.b r.2)]) := by
  unfold m14_r06_Meet at h
  refine callsA_of Try.func14 rfl (nt := 42) rfl (Nat.le_of_ble_eq_true rfl) ?_
  intro w0 S0
  refine cseq ?_
  refine cregion ?_
  refine sbox rfl rfl ?_
  refine sbox rfl rfl ?_
  refine salloc rfl zi24 ?_
  refine sv rfl (opv_as rfl) ?_
  refine snil ?_
  refine cseq ?_
  refine cregion ?_
  refine sv rfl (opv_loadN ti24 rfl (.lp _ _ _ rfl) (Nat.le_of_ble_eq_true rfl)) ?_
  refine salloc rfl zi24 ?_
  refine sstore sz24 rfl rfl rfl rfl (Nat.le_of_ble_eq_true rfl) ?_
  refine smem [.box [.sl a0.Lo.length (a0.Lo.flatMap eU8), .sl a0.Hi.length (a0.Hi.flatMap eU8), .b a0.Open], .box [.sl a1.Lo.length (a1.Lo.flatMap eU8), .sl a1.Hi.length (a1.Hi.flatMap eU8), .b a1.Open], .box [.raw (.slice none 0 0), .raw (.slice none 0 0), .b false], .box [.sl a0.Lo.length (a0.Lo.flatMap eU8), .sl a0.Hi.length (a0.Hi.flatMap eU8), .b a0.Open]] rfl ?_
  refine snil ?_
  refine cseq ?_
  refine cseq ?_
  refine cregion ?_
  refine sv rfl (opv_fieldAddr_lp fi24_0 rfl) ?_
  refine sv rfl (opv_load1 ti22 rfl (.lp _ _ _ rfl) rfl) ?_
  refine sv rfl (opv_fieldAddr_lp fi24_0 rfl) ?_
  refine sv rfl (opv_load1 ti22 rfl (.lp _ _ _ rfl) rfl) ?_
  obtain ⟨v1, hv1, h⟩ := bind_eq h
  refine scall1 rfl fn24 (opnds_cons rfl (opnds_cons rfl opnds_nil)) (pubA_id rfl) (m24_r06_Cmp_c hv1) ?_
  refine sv rfl (opv_gtr rfl rfl) ?_
  refine snil ?_
  refine cjoin ((List UInt8)) (fun b2 => [(2, .s (.one (.lp 0 0))), (3, .s (.one (.lp 1 0))), (4, .s (.one (.lp 2 0))), (6, .s (.one (.lp 3 0)))]) (fun b2 => [.box [.sl a0.Lo.length (a0.Lo.flatMap eU8), .sl a0.Hi.length (a0.Hi.flatMap eU8), .b a0.Open], .box [.sl a1.Lo.length (a1.Lo.flatMap eU8), .sl a1.Hi.length (a1.Hi.flatMap eU8), .b a1.Open], .box [.raw (.slice none 0 0), .raw (.slice none 0 0), .b false], .box [.sl b2.length (b2.flatMap eU8), .sl a0.Hi.length (a0.Hi.flatMap eU8), .b a0.Open]]) (fun b2 => m14_r06_Meet_k2 a0 a1 b2 = some r) (fun _ _ => inbL_of rfl) (fun _ _ => blkinb_of rfl) (fun _ _ => Nat.le_of_ble_eq_true rfl) (fun b2 h => ?_) ?_
  · unfold m14_r06_Meet_k2 at h
    refine cseq ?_
    refine cseq ?_
    refine cjoin3 ((List UInt8) × Bool) (fun b3 => [(4, .s (.one (.lp 2 0))), (6, .s (.one (.lp 3 0)))]) (fun b3 => [.box [.sl a0.Lo.length (a0.Lo.flatMap eU8), .sl a0.Hi.length (a0.Hi.flatMap eU8), .b a0.Open], .box [.sl a1.Lo.length (a1.Lo.flatMap eU8), .sl a1.Hi.length (a1.Hi.flatMap eU8), .b a1.Open], .box [.raw (.slice none 0 0), .raw (.slice none 0 0), .b false], .box [.sl b2.length (b2.flatMap eU8), .sl b3.1.length (b3.1.flatMap eU8), .b b3.2]]) (fun b3 => m14_r06_Meet_k3 b2 b3 = some r) (fun _ _ => inbL_of rfl) (fun _ _ => blkinb_of rfl) (fun _ _ => Nat.le_of_ble_eq_true rfl) (fun b3 h => ?_) ?_
    · unfold m14_r06_Meet_k3 at h
      refine cseq ?_
      refine cseq ?_
      refine cregion ?_
      refine sv rfl (opv_loadN ti24 rfl (.lp _ _ _ rfl) (Nat.le_of_ble_eq_true rfl)) ?_
      obtain ⟨v4, hv4, h⟩ := bind_eq h
      refine scall1 rfl fn32 (opnds_cons rfl opnds_nil) (pubA_id rfl) (m32_r06_Empty_c hv4) ?_
      refine snil ?_
      refine ccond rfl (fun hc => ?_) (fun hc => ?_)
      · replace h := ite_t hc h
        clear hc
        refine cseq ?_
        refine cregion ?_
        refine sv rfl (opv_build zi24 pi24 parts_nil (.nil _)) ?_
        refine sstore sz24 rfl rfl rfl rfl (Nat.le_of_ble_eq_true rfl) ?_
        refine smem [.box [.sl a0.Lo.length (a0.Lo.flatMap eU8), .sl a0.Hi.length (a0.Hi.flatMap eU8), .b a0.Open], .box [.sl a1.Lo.length (a1.Lo.flatMap eU8), .sl a1.Hi.length (a1.Hi.flatMap eU8), .b a1.Open], .box [.raw (.slice none 0 0), .raw (.slice none 0 0), .b false], .box [.sl b2.length (b2.flatMap eU8), .sl b3.1.length (b3.1.flatMap eU8), .b b3.2]] rfl ?_
        refine sv rfl (opv_as rfl) ?_
        refine snil ?_
        refine cret ?_
        refine then_ret ?_
        obtain rfl := Option.some.inj h
        refine ⟨Or.inr rfl, _, _, _, (resVs_cons (ResV.agg _ _ _ _ _ ti24 rfl (.lp _ _ _ rfl) (Nat.le_of_ble_eq_true rfl)) (resVs_cons (ResV.tmp _ _ rfl) resVs_nil)), (pubC rfl), ?_⟩
        rfl
      · replace h := ite_f hc h
        clear hc
        refine cskip ?_
        refine then_normal ?_
        refine cseq ?_
        refine cregion ?_
        refine sv rfl (opv_loadN ti24 rfl (.lp _ _ _ rfl) (Nat.le_of_ble_eq_true rfl)) ?_
        refine sstore sz24 rfl rfl rfl rfl (Nat.le_of_ble_eq_true rfl) ?_
        refine smem [.box [.sl a0.Lo.length (a0.Lo.flatMap eU8), .sl a0.Hi.length (a0.Hi.flatMap eU8), .b a0.Open], .box [.sl a1.Lo.length (a1.Lo.flatMap eU8), .sl a1.Hi.length (a1.Hi.flatMap eU8), .b a1.Open], .box [.sl b2.length (b2.flatMap eU8), .sl b3.1.length (b3.1.flatMap eU8), .b b3.2], .box [.sl b2.length (b2.flatMap eU8), .sl b3.1.length (b3.1.flatMap eU8), .b b3.2]] rfl ?_
        refine sv rfl (opv_as rfl) ?_
        refine snil ?_
        refine cret ?_
        obtain rfl := Option.some.inj h
        refine ⟨Or.inr rfl, _, _, _, (resVs_cons (ResV.agg _ _ _ _ _ ti24 rfl (.lp _ _ _ rfl) (Nat.le_of_ble_eq_true rfl)) (resVs_cons (ResV.tmp _ _ rfl) resVs_nil)), (pubA_id rfl), ?_⟩
        rfl
    · skip
      refine cregion ?_
      refine sv rfl (opv_fieldAddr_lp fi24_2 rfl) ?_
      refine sv rfl (opv_load1 ti4 rfl (.lp _ _ _ rfl) rfl) ?_
      refine sv rfl (opv_not rfl) ?_
      refine sv rfl (opv_mv rfl) ?_
      refine ssplit 20 rfl (fun hc => ?_) (fun hc => ?_)
      · replace h := ite_t hc h
        clear hc
        refine son rfl rfl rfl ?_
        refine sv rfl (opv_fieldAddr_lp fi24_2 rfl) ?_
        refine son rfl rfl rfl ?_
        refine sv rfl (opv_load1 ti4 rfl (.lp _ _ _ rfl) rfl) ?_
        refine son rfl rfl rfl ?_
        refine sv rfl (opv_mv rfl) ?_
        refine ssplit 23 rfl (fun hc => ?_) (fun hc => ?_)
        · replace h := ite_t hc h
          clear hc
          refine soff rfl rfl rfl rfl ?_
          refine soff rfl rfl rfl rfl ?_
          refine soff rfl rfl rfl rfl ?_
          refine soff rfl rfl rfl rfl ?_
          refine soff rfl rfl rfl rfl ?_
          refine soff rfl rfl rfl rfl ?_
          refine son rfl rfl rfl ?_
          refine sv rfl (opv_pick_t rfl rfl) ?_
          refine sv rfl (opv_pick_t rfl rfl) ?_
          refine snil ?_
          refine ccond rfl (fun _ => ?_) (fun hx => Bool.noConfusion hx)
          refine cseq ?_
          refine cregion ?_
          refine sv rfl (opv_fieldAddr_lp fi24_1 rfl) ?_
          refine sv rfl (opv_load1 ti22 rfl (.lp _ _ _ rfl) rfl) ?_
          refine sv rfl (opv_fieldAddr_lp fi24_1 rfl) ?_
          refine sstore sz22 rfl rfl rfl rfl (Nat.le_of_ble_eq_true rfl) ?_
          refine smem [.box [.sl a0.Lo.length (a0.Lo.flatMap eU8), .sl a0.Hi.length (a0.Hi.flatMap eU8), .b a0.Open], .box [.sl a1.Lo.length (a1.Lo.flatMap eU8), .sl a1.Hi.length (a1.Hi.flatMap eU8), .b a1.Open], .box [.raw (.slice none 0 0), .raw (.slice none 0 0), .b false], .box [.sl b2.length (b2.flatMap eU8), .sl a1.Hi.length (a1.Hi.flatMap eU8), .b a0.Open]] rfl ?_
          refine snil ?_
          refine cregion ?_
          refine sv rfl (opv_fieldAddr_lp fi24_2 rfl) ?_
          refine sv rfl (opv_load1 ti4 rfl (.lp _ _ _ rfl) rfl) ?_
          refine sv rfl (opv_fieldAddr_lp fi24_2 rfl) ?_
          refine sstore sz4 rfl rfl rfl rfl (Nat.le_of_ble_eq_true rfl) ?_
          refine smem [.box [.sl a0.Lo.length (a0.Lo.flatMap eU8), .sl a0.Hi.length (a0.Hi.flatMap eU8), .b a0.Open], .box [.sl a1.Lo.length (a1.Lo.flatMap eU8), .sl a1.Hi.length (a1.Hi.flatMap eU8), .b a1.Open], .box [.raw (.slice none 0 0), .raw (.slice none 0 0), .b false], .box [.sl b2.length (b2.flatMap eU8), .sl a1.Hi.length (a1.Hi.flatMap eU8), .b a1.Open]] rfl ?_
          refine snil ?_
          exact ⟨(a1.Hi, a1.Open), _, h, ⟨rfl, rfl, trivial⟩, rfl⟩
        · replace h := ite_f hc h
          clear hc
          refine son rfl rfl rfl ?_
          refine sv rfl (opv_fieldAddr_lp fi24_1 rfl) ?_
          refine son rfl rfl rfl ?_
          refine sv rfl (opv_load1 ti22 rfl (.lp _ _ _ rfl) rfl) ?_
          refine son rfl rfl rfl ?_
          refine sv rfl (opv_fieldAddr_lp fi24_1 rfl) ?_
          refine son rfl rfl rfl ?_
          refine sv rfl (opv_load1 ti22 rfl (.lp _ _ _ rfl) rfl) ?_
          refine son rfl rfl rfl ?_
          obtain ⟨v5, hv5, h⟩ := bind_eq h
          refine scall1 rfl fn24 (opnds_cons rfl (opnds_cons rfl opnds_nil)) (pubA_id rfl) (m24_r06_Cmp_c hv5) ?_
          refine son rfl rfl rfl ?_
          refine sv rfl (opv_lss rfl rfl) ?_
          refine son rfl rfl rfl ?_
          refine sv rfl (opv_pick_f rfl rfl) ?_
          refine sv rfl (opv_pick_t rfl rfl) ?_
          refine snil ?_
          refine ccond rfl (fun hc => ?_) (fun hc => ?_)
          · replace h := ite_t hc h
            clear hc
            refine cseq ?_
            refine cregion ?_
            refine sv rfl (opv_fieldAddr_lp fi24_1 rfl) ?_
            refine sv rfl (opv_load1 ti22 rfl (.lp _ _ _ rfl) rfl) ?_
            refine sv rfl (opv_fieldAddr_lp fi24_1 rfl) ?_
            refine sstore sz22 rfl rfl rfl rfl (Nat.le_of_ble_eq_true rfl) ?_
            refine smem [.box [.sl a0.Lo.length (a0.Lo.flatMap eU8), .sl a0.Hi.length (a0.Hi.flatMap eU8), .b a0.Open], .box [.sl a1.Lo.length (a1.Lo.flatMap eU8), .sl a1.Hi.length (a1.Hi.flatMap eU8), .b a1.Open], .box [.raw (.slice none 0 0), .raw (.slice none 0 0), .b false], .box [.sl b2.length (b2.flatMap eU8), .sl a1.Hi.length (a1.Hi.flatMap eU8), .b a0.Open]] rfl ?_
            refine snil ?_
            refine cregion ?_
            refine sv rfl (opv_fieldAddr_lp fi24_2 rfl) ?_
            refine sv rfl (opv_load1 ti4 rfl (.lp _ _ _ rfl) rfl) ?_
            refine sv rfl (opv_fieldAddr_lp fi24_2 rfl) ?_
            refine sstore sz4 rfl rfl rfl rfl (Nat.le_of_ble_eq_true rfl) ?_
            refine smem [.box [.sl a0.Lo.length (a0.Lo.flatMap eU8), .sl a0.Hi.length (a0.Hi.flatMap eU8), .b a0.Open], .box [.sl a1.Lo.length (a1.Lo.flatMap eU8), .sl a1.Hi.length (a1.Hi.flatMap eU8), .b a1.Open], .box [.raw (.slice none 0 0), .raw (.slice none 0 0), .b false], .box [.sl b2.length (b2.flatMap eU8), .sl a1.Hi.length (a1.Hi.flatMap eU8), .b a1.Open]] rfl ?_
            refine snil ?_
            exact ⟨(a1.Hi, a1.Open), _, h, ⟨rfl, rfl, trivial⟩, rfl⟩
          · replace h := ite_f hc h
            clear hc
            refine cskip ?_
            refine then_normal ?_
            exact ⟨(a0.Hi, a0.Open), _, h, ⟨rfl, rfl, trivial⟩, rfl⟩
      · replace h := ite_f hc h
        clear hc
        refine soff rfl rfl rfl rfl ?_
        refine soff rfl rfl rfl rfl ?_
        refine soff rfl rfl rfl rfl ?_
        refine soffu rfl rfl rfl ?_
        refine soffu rfl rfl rfl ?_
        refine soffu rfl rfl rfl ?_
        refine soffu rfl rfl rfl ?_
        refine soffu rfl rfl rfl ?_
        refine soffu rfl rfl rfl ?_
        refine soff rfl rfl rfl rfl ?_
        refine sv rfl (opv_pick_f rfl rfl) ?_
        refine snil ?_
        refine ccond rfl (fun hx => Bool.noConfusion hx) (fun _ => ?_)
        refine cskip ?_
        refine then_normal ?_
        exact ⟨(a0.Hi, a0.Open), _, h, ⟨rfl, rfl, trivial⟩, rfl⟩
  · skip
    refine ccond rfl (fun hc => ?_) (fun hc => ?_)
    · replace h := ite_t hc h
      clear hc
      refine cregion ?_
      refine sv rfl (opv_fieldAddr_lp fi24_0 rfl) ?_
      refine sv rfl (opv_load1 ti22 rfl (.lp _ _ _ rfl) rfl) ?_
      refine sv rfl (opv_fieldAddr_lp fi24_0 rfl) ?_
      refine sstore sz22 rfl rfl rfl rfl (Nat.le_of_ble_eq_true rfl) ?_
      refine smem [.box [.sl a0.Lo.length (a0.Lo.flatMap eU8), .sl a0.Hi.length (a0.Hi.flatMap eU8), .b a0.Open], .box [.sl a1.Lo.length (a1.Lo.flatMap eU8), .sl a1.Hi.length (a1.Hi.flatMap eU8), .b a1.Open], .box [.raw (.slice none 0 0), .raw (.slice none 0 0), .b false], .box [.sl a1.Lo.length (a1.Lo.flatMap eU8), .sl a0.Hi.length (a0.Hi.flatMap eU8), .b a0.Open]] rfl ?_
      refine snil ?_
      exact ⟨a1.Lo, _, h, ⟨rfl, rfl, rfl, rfl, trivial⟩, rfl⟩
    · replace h := ite_f hc h
      clear hc
      refine cskip ?_
      refine then_normal ?_
      exact ⟨a0.Lo, _, h, ⟨rfl, rfl, rfl, rfl, trivial⟩, rfl⟩

def m36_keys_key_reacheds (a0 : List UInt8) (a1 : List UInt8) : Option Bool :=
  (m23_keys_Cmp a1 a0).bind fun v1 => some (decide (0 ≤ v1))

set_option maxRecDepth 100000 in
theorem m36_keys_key_reacheds_c {a0 : List UInt8} {a1 : List UInt8} {r : Bool} (h : m36_keys_key_reacheds a0 a1 = some r) : CallsA Try.prog 36 [.one (.sl a0.length (a0.flatMap eU8)), .one (.sl a1.length (a1.flatMap eU8))] (· = .s (.one (.b r))) := by
  unfold m36_keys_key_reacheds at h
  refine callsA_of Try.func36 rfl (nt := 9) rfl (Nat.le_of_ble_eq_true rfl) ?_
  intro w0 S0
  refine cseq ?_
  refine cregion ?_
  refine sv rfl (opv_as rfl) ?_
  refine snil ?_
  refine cseq ?_
  refine cregion ?_
  refine sv rfl (opv_mv rfl) ?_
  refine sv rfl (opv_mv rfl) ?_
  obtain ⟨v1, hv1, h⟩ := bind_eq h
  refine scall1 rfl fn23 (opnds_cons rfl (opnds_cons rfl opnds_nil)) (pubA_id rfl) (m23_keys_Cmp_c hv1) ?_
  refine sv rfl (opv_geq rfl rfl) ?_
  refine sv rfl (opv_as rfl) ?_
  refine snil ?_
  refine cret ?_
  obtain rfl := Option.some.inj h
  refine ⟨Or.inr rfl, _, _, _, (resVs_cons (ResV.tmp _ _ rfl) resVs_nil), (pubA_id rfl), ?_⟩
  rfl

def m35_slices_IndexFuncs_k1 (b1 : Unit) : Option Int :=
  some (-1)

def m35_slices_IndexFuncs_s2 (a0 : List (List UInt8)) (a1 : List UInt8) (s2 : Int) : Option (LR (Int) (Unit) (Int)) :=
  if (decide (s2 < (a0.length : Int))) then ((idx a0 s2).bind fun u3 => (m36_keys_key_reacheds a1 u3).bind fun v4 => if v4 then (some (.ret s2)) else (some (.cont (wI (s2 + 1))))) else (some (.brk ()))
def m35_slices_IndexFuncs (a0 : List (List UInt8)) (a1 : List UInt8) : Option Int :=
  (iter (m35_slices_IndexFuncs_s2 a0 a1) fuel 0).bind fun x => match x with | .inl r => some r | .inr e5 => m35_slices_IndexFuncs_k1 e5

set_option maxRecDepth 100000 in
theorem m35_slices_IndexFuncs_c {a0 : List (List UInt8)} {a1 : List UInt8} {r : Int} (h : m35_slices_IndexFuncs a0 a1 = some r) : CallsA Try.prog 35 [.one (.sl a0.length (a0.flatMap (eL eU8))), .one (.fn 36 [.sl a1.length (a1.flatMap eU8)] [])] (· = .s (.one (.i .i64 r))) := by
  unfold m35_slices_IndexFuncs at h
  refine callsA_of Try.func35 rfl (nt := 19) rfl (Nat.le_of_ble_eq_true rfl) ?_
  intro w0 S0
  refine cseq ?_
  refine cregion ?_
  refine sv rfl (opv_as rfl) ?_
  refine snil ?_
  refine cseq ?_
  refine cseq ?_
  refine cregion ?_
  refine sv rfl (opv_mv rfl) ?_
  refine sv rfl (opv_len_sl si25 rfl) ?_
  refine sv rfl (opv_mv rfl) ?_
  refine snil ?_
  refine cjoin (Unit) (fun b1 => []) (fun b1 => []) (fun b1 => m35_slices_IndexFuncs_k1 b1 = some r) (fun _ _ => inbL_of rfl) (fun _ _ => blkinb_of rfl) (fun _ _ => Nat.le_of_ble_eq_true rfl) (fun b1 h => ?_) ?_
  · unfold m35_slices_IndexFuncs_k1 at h
    refine cseq ?_
    refine cregion ?_
    refine sv rfl (opv_as rfl) ?_
    refine snil ?_
    refine cret ?_
    obtain rfl := Option.some.inj h
    refine ⟨Or.inr rfl, _, _, _, (resVs_cons (ResV.tmp _ _ rfl) resVs_nil), (pubA_id rfl), ?_⟩
    rfl
  · skip
    refine cblock ?_
    obtain ⟨x2, hx2, ho2⟩ := bind_eq h
    refine awc_loop (G := Nat × (Int)) (fun g => [(0, .s (.one (.sl a0.length (a0.flatMap (eL eU8))))), (1, .s (.one (.fn 36 [.sl a1.length (a1.flatMap eU8)] []))), (7, .s (.one (.i .i64 (a0.length : Int)))), (8, .s (.one (.i .i64 g.2)))]) (fun g => []) (fun g => iter (m35_slices_IndexFuncs_s2 a0 a1) g.1 g.2 = some x2) (fun g => g.1) (fuel, 0) hx2 ⟨rfl, rfl, rfl, rfl, trivial⟩ [] rfl (fun _ _ => inbL_of rfl) (fun _ _ => blkinb_of rfl) (fun _ _ => Nat.le_of_ble_eq_true rfl) ?_
    clear hx2 h
    rintro ⟨n2, s2⟩ h
    obtain ⟨n2, y2, rfl, h, hk2⟩ := iter_eq h
    unfold m35_slices_IndexFuncs_s2 at h
    refine cseq ?_
    refine cregion ?_
    refine sv rfl (opv_lss rfl rfl) ?_
    refine snil ?_
    refine cseq ?_
    refine ccond rfl (fun hc => ?_) (fun hc => ?_)
    · replace h := ite_t hc h
      clear hc
      refine cskip ?_
      refine then_normal ?_
      refine cseq ?_
      refine cblock ?_
      refine cseq ?_
      refine cregion ?_
      refine sv rfl (opv_mv rfl) ?_
      refine sv rfl (opv_as rfl) ?_
      refine snil ?_
      refine cseq ?_
      refine cregion ?_
      refine sv rfl (opv_mv rfl) ?_
      refine sv rfl (opv_mv rfl) ?_
      refine sv rfl (opv_mv rfl) ?_
      obtain ⟨u3, hu3, h⟩ := bind_eq h
      refine sv rfl (opv_ix (f := (eL eU8)) si25 (fun _ => rfl) rfl rfl rfl rfl hu3) ?_
      refine sv rfl (opv_load1 ti22 rfl (.cp _) rfl) ?_
      obtain ⟨v4, hv4, h⟩ := bind_eq h
      refine sd rfl (opD_callC fn36 (.fn _ _ _ _ rfl) (opnds_cons rfl opnds_nil) rfl (m36_keys_key_reacheds_c hv4)) ?_
      refine snil ?_
      refine ccond rfl (fun hc => ?_) (fun hc => ?_)
      · replace h := ite_t hc h
        clear hc
        refine cseq ?_
        refine cregion ?_
        refine sv rfl (opv_mv rfl) ?_
        refine sv rfl (opv_as rfl) ?_
        refine snil ?_
        refine cret ?_
        refine block_ret ?_
        refine then_ret ?_
        refine then_ret ?_
        refine block_ret ?_
        refine then_ret ?_
        obtain rfl := Option.some.inj h
        obtain rfl : Sum.inl _ = x2 := hk2
        replace ho2 : some _ = some _ := ho2
        obtain rfl := Option.some.inj ho2
        refine ⟨Or.inr rfl, _, _, _, (resVs_cons (ResV.tmp _ _ rfl) resVs_nil), (pubA_id rfl), ?_⟩
        rfl
      · replace h := ite_f hc h
        clear hc
        refine cskip ?_
        refine block_normal ?_
        refine then_normal ?_
        refine cregion ?_
        refine sv rfl (opv_add rfl rfl) ?_
        refine sv rfl (opv_mv rfl) ?_
        refine snil ?_
        obtain rfl := Option.some.inj h
        exact ⟨(n2, (wI (s2 + 1))), _, hk2, ⟨rfl, rfl, rfl, rfl, trivial⟩, rfl, Nat.lt_succ_self _⟩
    · replace h := ite_f hc h
      clear hc
      refine cexit ?_
      refine then_exit ?_
      refine then_exit ?_
      refine block_hit ?_
      refine then_normal ?_
      obtain rfl := Option.some.inj h
      obtain rfl : _ = x2 := hk2
      exact ⟨(), _, ho2, trivial, rfl⟩

def m37_bytes_Equal (a0 : List UInt8) (a1 : List UInt8) : Option Bool :=
  some (a0 == a1)

set_option maxRecDepth 100000 in
theorem m37_bytes_Equal_c {a0 : List UInt8} {a1 : List UInt8} {r : Bool} (h : m37_bytes_Equal a0 a1 = some r) : CallsA Try.prog 37 [.one (.sl a0.length (a0.flatMap eU8)), .one (.sl a1.length (a1.flatMap eU8))] (· = .s (.one (.b r))) := by
  unfold m37_bytes_Equal at h
  refine callsA_of Try.func37 rfl (nt := 10) rfl (Nat.le_of_ble_eq_true rfl) ?_
  intro w0 S0
  refine cseq ?_
  refine cregion ?_
  refine sv rfl (opv_as rfl) ?_
  refine snil ?_
  refine cseq ?_
  refine cregion ?_
  refine sv rfl (opv_mv rfl) ?_
  refine sv rfl (opv_bs (l := a0) Try.underlying22 Try.underlying5 Try.underlying9 rfl rfl rfl) ?_
  refine sv rfl (opv_mv rfl) ?_
  refine sv rfl (opv_bs (l := a1) Try.underlying22 Try.underlying5 Try.underlying9 rfl rfl rfl) ?_
  refine sv rfl (opv_seql' rfl rfl) ?_
  refine sv rfl (opv_as rfl) ?_
  refine snil ?_
  refine cret ?_
  obtain rfl := Option.some.inj h
  refine ⟨Or.inr rfl, _, _, _, (resVs_cons (ResV.tmp _ _ rfl) resVs_nil), (pubA_id rfl), ?_⟩
  rfl

def m15_keys_Find (a0 : List (List UInt8)) (a1 : List UInt8) : Option (Int × Bool) :=
  (m35_slices_IndexFuncs a0 a1).bind fun v1 => if (decide (v1 < 0)) then (some ((a0.length : Int), false)) else ((idx a0 v1).bind fun u2 => (m37_bytes_Equal u2 a1).bind fun v3 => some (v1, v3))

set_option maxRecDepth 100000 in
theorem m15_keys_Find_c {a0 : List (List UInt8)} {a1 : List UInt8} {r : Int × Bool} (h : m15_keys_Find a0 a1 = some r) : CallsA Try.prog 15 [.one (.sl a0.length (a0.flatMap (eL eU8))), .one (.sl a1.length (a1.flatMap eU8))] (· = .tup [.one (.i .i64 r.1), .one (.b r.2)]) := by
  unfold m15_keys_Find at h
  refine callsA_of Try.func15 rfl (nt := 22) rfl (Nat.le_of_ble_eq_true rfl) ?_
  intro w0 S0
  refine cseq ?_
  refine cregion ?_
  refine sv rfl (opv_as rfl) ?_
  refine sv rfl (opv_as rfl) ?_
  refine snil ?_
  refine cseq ?_
  refine cregion ?_
  refine sv rfl (opv_mv rfl) ?_
  refine sv rfl (opv_mv rfl) ?_
  refine sv rfl (opv_makeFunc (opnds1_cons rfl rfl opnds1_nil) opnds1_nil) ?_
  obtain ⟨v1, hv1, h⟩ := bind_eq h
  refine sd rfl (opD_callC fn35 (.func _) (opnds_cons rfl (opnds_cons rfl opnds_nil)) rfl (m35_slices_IndexFuncs_c hv1)) ?_
  refine sv rfl (opv_as rfl) ?_
  refine snil ?_
  refine cseq ?_
  refine cseq ?_
  refine cregion ?_
  refine sv rfl (opv_mv rfl) ?_
  refine sv rfl (opv_lss rfl rfl) ?_
  refine snil ?_
  refine ccond rfl (fun hc => ?_) (fun hc => ?_)
  · replace h := ite_t hc h
    clear hc
    refine cseq ?_
    refine cregion ?_
    refine sv rfl (opv_mv rfl) ?_
    refine sv rfl (opv_len_sl si25 rfl) ?_
    refine sv rfl (opv_as rfl) ?_
    refine sv rfl (opv_as rfl) ?_
    refine snil ?_
    refine cret ?_
    refine then_ret ?_
    obtain rfl := Option.some.inj h
    refine ⟨Or.inr rfl, _, _, _, (resVs_cons (ResV.tmp _ _ rfl) (resVs_cons (ResV.tmp _ _ rfl) resVs_nil)), (pubA_id rfl), ?_⟩
    rfl
  · replace h := ite_f hc h
    clear hc
    refine cskip ?_
    refine then_normal ?_
    refine cseq ?_
    refine cregion ?_
    refine sv rfl (opv_mv rfl) ?_
    refine sv rfl (opv_mv rfl) ?_
    refine sv rfl (opv_mv rfl) ?_
    obtain ⟨u2, hu2, h⟩ := bind_eq h
    refine sv rfl (opv_ix (f := (eL eU8)) si25 (fun _ => rfl) rfl rfl rfl rfl hu2) ?_
    refine sv rfl (opv_load1 ti22 rfl (.cp _) rfl) ?_
    refine sv rfl (opv_mv rfl) ?_
    obtain ⟨v3, hv3, h⟩ := bind_eq h
    refine scall1 rfl fn37 (opnds_cons rfl (opnds_cons rfl opnds_nil)) (pubA_id rfl) (m37_bytes_Equal_c hv3) ?_
    refine sv rfl (opv_as rfl) ?_
    refine sv rfl (opv_as rfl) ?_
    refine snil ?_
    refine cret ?_
    obtain rfl := Option.some.inj h
    refine ⟨Or.inr rfl, _, _, _, (resVs_cons (ResV.tmp _ _ rfl) (resVs_cons (ResV.tmp _ _ rfl) resVs_nil)), (pubA_id rfl), ?_⟩
    rfl

def m16_r06_Find_k1 (a0 : List (List UInt8)) (b1 : Unit) : Option (Int × Bool) :=
  some ((a0.length : Int), false)

def m16_r06_Find_s2 (a0 : List (List UInt8)) (a1 : List UInt8) (s2 : Int) : Option (LR (Int) (Unit) (Int × Bool)) :=
  if (decide (s2 < (a0.length : Int))) then ((idx a0 s2).bind fun u3 => (m24_r06_Cmp u3 a1).bind fun v4 => if (decide (0 ≤ v4)) then ((idx a0 s2).bind fun u5 => (m24_r06_Cmp u5 a1).bind fun v6 => some (.ret (s2, (decide (v6 = 0))))) else (some (.cont (wI (s2 + 1))))) else (some (.brk ()))
def m16_r06_Find (a0 : List (List UInt8)) (a1 : List UInt8) : Option (Int × Bool) :=
  (iter (m16_r06_Find_s2 a0 a1) fuel 0).bind fun x => match x with | .inl r => some r | .inr e7 => m16_r06_Find_k1 a0 e7

set_option maxRecDepth 100000 in
theorem m16_r06_Find_c {a0 : List (List UInt8)} {a1 : List UInt8} {r : Int × Bool} (h : m16_r06_Find a0 a1 = some r) : CallsA Try.prog 16 [.one (.sl a0.length (a0.flatMap (eL eU8))), .one (.sl a1.length (a1.flatMap eU8))] (· = .tup [.one (.i .i64 r.1), .one (.b r.2)]) := by
  unfold m16_r06_Find at h
  refine callsA_of Try.func16 rfl (nt := 30) rfl (Nat.le_of_ble_eq_true rfl) ?_
  intro w0 S0
  refine cseq ?_
  refine cregion ?_
  refine sv rfl (opv_as rfl) ?_
  refine sv rfl (opv_as rfl) ?_
  refine snil ?_
  refine cseq ?_
  refine cseq ?_
  refine cregion ?_
  refine sv rfl (opv_as rfl) ?_
  refine snil ?_
  refine cjoin (Unit) (fun b1 => [(0, .s (.one (.sl a0.length (a0.flatMap (eL eU8)))))]) (fun b1 => []) (fun b1 => m16_r06_Find_k1 a0 b1 = some r) (fun _ _ => inbL_of rfl) (fun _ _ => blkinb_of rfl) (fun _ _ => Nat.le_of_ble_eq_true rfl) (fun b1 h => ?_) ?_
  · unfold m16_r06_Find_k1 at h
    refine cseq ?_
    refine cregion ?_
    refine sv rfl (opv_mv rfl) ?_
    refine sv rfl (opv_len_sl si25 rfl) ?_
    refine sv rfl (opv_as rfl) ?_
    refine sv rfl (opv_as rfl) ?_
    refine snil ?_
    refine cret ?_
    obtain rfl := Option.some.inj h
    refine ⟨Or.inr rfl, _, _, _, (resVs_cons (ResV.tmp _ _ rfl) (resVs_cons (ResV.tmp _ _ rfl) resVs_nil)), (pubA_id rfl), ?_⟩
    rfl
  · skip
    refine cblock ?_
    obtain ⟨x2, hx2, ho2⟩ := bind_eq h
    refine awc_loop (G := Nat × (Int)) (fun g => [(0, .s (.one (.sl a0.length (a0.flatMap (eL eU8))))), (1, .s (.one (.sl a1.length (a1.flatMap eU8)))), (6, .s (.one (.i .i64 g.2)))]) (fun g => []) (fun g => iter (m16_r06_Find_s2 a0 a1) g.1 g.2 = some x2) (fun g => g.1) (fuel, 0) hx2 ⟨rfl, rfl, rfl, trivial⟩ [] rfl (fun _ _ => inbL_of rfl) (fun _ _ => blkinb_of rfl) (fun _ _ => Nat.le_of_ble_eq_true rfl) ?_
    clear hx2 h
    rintro ⟨n2, s2⟩ h
    obtain ⟨n2, y2, rfl, h, hk2⟩ := iter_eq h
    unfold m16_r06_Find_s2 at h
    refine cseq ?_
    refine cseq ?_
    refine cregion ?_
    refine sv rfl (opv_mv rfl) ?_
    refine sv rfl (opv_mv rfl) ?_
    refine sv rfl (opv_len_sl si25 rfl) ?_
    refine sv rfl (opv_lss rfl rfl) ?_
    refine snil ?_
    refine ccond rfl (fun hc => ?_) (fun hc => ?_)
    · replace h := ite_t hc h
      clear hc
      refine cskip ?_
      refine then_normal ?_
      refine cseq ?_
      refine cblock ?_
      refine cseq ?_
      refine cregion ?_
      refine sv rfl (opv_mv rfl) ?_
      refine sv rfl (opv_mv rfl) ?_
      obtain ⟨u3, hu3, h⟩ := bind_eq h
      refine sv rfl (opv_ix (f := (eL eU8)) si25 (fun _ => rfl) rfl rfl rfl rfl hu3) ?_
      refine sv rfl (opv_load1 ti22 rfl (.cp _) rfl) ?_
      refine sv rfl (opv_mv rfl) ?_
      obtain ⟨v4, hv4, h⟩ := bind_eq h
      refine scall1 rfl fn24 (opnds_cons rfl (opnds_cons rfl opnds_nil)) (pubA_id rfl) (m24_r06_Cmp_c hv4) ?_
      refine sv rfl (opv_geq rfl rfl) ?_
      refine snil ?_
      refine ccond rfl (fun hc => ?_) (fun hc => ?_)
      · replace h := ite_t hc h
        clear hc
        refine cseq ?_
        refine cregion ?_
        refine sv rfl (opv_mv rfl) ?_
        refine sv rfl (opv_mv rfl) ?_
        refine sv rfl (opv_mv rfl) ?_
        obtain ⟨u5, hu5, h⟩ := bind_eq h
        refine sv rfl (opv_ix (f := (eL eU8)) si25 (fun _ => rfl) rfl rfl rfl rfl hu5) ?_
        refine sv rfl (opv_load1 ti22 rfl (.cp _) rfl) ?_
        refine sv rfl (opv_mv rfl) ?_
        obtain ⟨v6, hv6, h⟩ := bind_eq h
        refine scall1 rfl fn24 (opnds_cons rfl (opnds_cons rfl opnds_nil)) (pubA_id rfl) (m24_r06_Cmp_c hv6) ?_
        refine sv rfl (opv_ieql rfl rfl) ?_
        refine sv rfl (opv_as rfl) ?_
        refine sv rfl (opv_as rfl) ?_
        refine snil ?_
        refine cret ?_
        refine block_ret ?_
        refine then_ret ?_
        refine then_ret ?_
        refine block_ret ?_
        refine then_ret ?_
        obtain rfl := Option.some.inj h
        obtain rfl : Sum.inl _ = x2 := hk2
        replace ho2 : some _ = some _ := ho2
        obtain rfl := Option.some.inj ho2
        refine ⟨Or.inr rfl, _, _, _, (resVs_cons (ResV.tmp _ _ rfl) (resVs_cons (ResV.tmp _ _ rfl) resVs_nil)), (pubA_id rfl), ?_⟩
        rfl
      · replace h := ite_f hc h
        clear hc
        refine cskip ?_
        refine block_normal ?_
        refine then_normal ?_
        refine cregion ?_
        refine sv rfl (opv_mv rfl) ?_
        refine sv rfl (opv_add rfl rfl) ?_
        refine sv rfl (opv_as rfl) ?_
        refine snil ?_
        obtain rfl := Option.some.inj h
        exact ⟨(n2, (wI (s2 + 1))), _, hk2, ⟨rfl, rfl, rfl, trivial⟩, rfl, Nat.lt_succ_self _⟩
    · replace h := ite_f hc h
      clear hc
      refine cexit ?_
      refine then_exit ?_
      refine then_exit ?_
      refine block_hit ?_
      refine then_normal ?_
      obtain rfl := Option.some.inj h
      obtain rfl : _ = x2 := hk2
      exact ⟨(), _, ho2, ⟨rfl, trivial⟩, rfl⟩

def m17_r06_SameRange (a0 : GApiRange) (a1 : GApiRange) : Option Bool :=
  if (a0.Lo == a1.Lo) then (if (a0.Hi == a1.Hi) then (some (a0.Open == a1.Open)) else (some false)) else (some false)

set_option maxRecDepth 100000 in
theorem m17_r06_SameRange_c {a0 : GApiRange} {a1 : GApiRange} {r : Bool} (h : m17_r06_SameRange a0 a1 = some r) : CallsA Try.prog 17 [.agg [.sl a0.Lo.length (a0.Lo.flatMap eU8), .sl a0.Hi.length (a0.Hi.flatMap eU8), .b a0.Open], .agg [.sl a1.Lo.length (a1.Lo.flatMap eU8), .sl a1.Hi.length (a1.Hi.flatMap eU8), .b a1.Open]] (· = .s (.one (.b r))) := by
  unfold m17_r06_SameRange at h
  refine callsA_of Try.func17 rfl (nt := 28) rfl (Nat.le_of_ble_eq_true rfl) ?_
  intro w0 S0
  refine cseq ?_
  refine cregion ?_
  refine sbox rfl rfl ?_
  refine sbox rfl rfl ?_
  refine sv rfl (opv_as rfl) ?_
  refine snil ?_
  refine cseq ?_
  refine cregion ?_
  refine sv rfl (opv_fieldAddr_lp fi24_0 rfl) ?_
  refine sv rfl (opv_load1 ti22 rfl (.lp _ _ _ rfl) rfl) ?_
  refine sv rfl (opv_bs (l := a0.Lo) Try.underlying22 Try.underlying5 Try.underlying9 rfl rfl rfl) ?_
  refine sv rfl (opv_fieldAddr_lp fi24_0 rfl) ?_
  refine sv rfl (opv_load1 ti22 rfl (.lp _ _ _ rfl) rfl) ?_
  refine sv rfl (opv_bs (l := a1.Lo) Try.underlying22 Try.underlying5 Try.underlying9 rfl rfl rfl) ?_
  refine sv rfl (opv_seql' rfl rfl) ?_
  refine sv rfl (opv_mv rfl) ?_
  refine ssplit 12 rfl (fun hc => ?_) (fun hc => ?_)
  · replace h := ite_t hc h
    clear hc
    refine son rfl rfl rfl ?_
    refine sv rfl (opv_fieldAddr_lp fi24_1 rfl) ?_
    refine son rfl rfl rfl ?_
    refine sv rfl (opv_load1 ti22 rfl (.lp _ _ _ rfl) rfl) ?_
    refine son rfl rfl rfl ?_
    refine sv rfl (opv_bs (l := a0.Hi) Try.underlying22 Try.underlying5 Try.underlying9 rfl rfl rfl) ?_
    refine son rfl rfl rfl ?_
    refine sv rfl (opv_fieldAddr_lp fi24_1 rfl) ?_
    refine son rfl rfl rfl ?_
    refine sv rfl (opv_load1 ti22 rfl (.lp _ _ _ rfl) rfl) ?_
    refine son rfl rfl rfl ?_
    refine sv rfl (opv_bs (l := a1.Hi) Try.underlying22 Try.underlying5 Try.underlying9 rfl rfl rfl) ?_
    refine son rfl rfl rfl ?_
    refine sv rfl (opv_seql' rfl rfl) ?_
    refine sv rfl (opv_pick_t rfl rfl) ?_
    refine sv rfl (opv_mv rfl) ?_
    refine ssplit 21 rfl (fun hc => ?_) (fun hc => ?_)
    · replace h := ite_t hc h
      clear hc
      refine son rfl rfl rfl ?_
      refine sv rfl (opv_fieldAddr_lp fi24_2 rfl) ?_
      refine son rfl rfl rfl ?_
      refine sv rfl (opv_load1 ti4 rfl (.lp _ _ _ rfl) rfl) ?_
      refine son rfl rfl rfl ?_
      refine sv rfl (opv_fieldAddr_lp fi24_2 rfl) ?_
      refine son rfl rfl rfl ?_
      refine sv rfl (opv_load1 ti4 rfl (.lp _ _ _ rfl) rfl) ?_
      refine son rfl rfl rfl ?_
      refine sv rfl (opv_beql Try.underlying4 rfl rfl) ?_
      refine sv rfl (opv_pick_t rfl rfl) ?_
      refine sv rfl (opv_as rfl) ?_
      refine snil ?_
      refine cret ?_
      obtain rfl := Option.some.inj h
      refine ⟨Or.inr rfl, _, _, _, (resVs_cons (ResV.tmp _ _ rfl) resVs_nil), (pubA_id rfl), ?_⟩
      rfl
    · replace h := ite_f hc h
      clear hc
      refine soff rfl rfl rfl rfl ?_
      refine soff rfl rfl rfl rfl ?_
      refine soff rfl rfl rfl rfl ?_
      refine soff rfl rfl rfl rfl ?_
      refine soff rfl rfl rfl rfl ?_
      refine sv rfl (opv_pick_f rfl rfl) ?_
      refine sv rfl (opv_as rfl) ?_
      refine snil ?_
      refine cret ?_
      obtain rfl := Option.some.inj h
      refine ⟨Or.inr rfl, _, _, _, (resVs_cons (ResV.tmp _ _ rfl) resVs_nil), (pubA_id rfl), ?_⟩
      rfl
  · replace h := ite_f hc h
    clear hc
    refine soff rfl rfl rfl rfl ?_
    refine soff rfl rfl rfl rfl ?_
    refine soff rfl rfl rfl rfl ?_
    refine soff rfl rfl rfl rfl ?_
    refine soff rfl rfl rfl rfl ?_
    refine soff rfl rfl rfl rfl ?_
    refine soff rfl rfl rfl rfl ?_
    refine sv rfl (opv_pick_f rfl rfl) ?_
    refine sv rfl (opv_mv rfl) ?_
    refine soff rfl rfl rfl rfl ?_
    refine soff rfl rfl rfl rfl ?_
    refine soff rfl rfl rfl rfl ?_
    refine soff rfl rfl rfl rfl ?_
    refine soff rfl rfl rfl rfl ?_
    refine sv rfl (opv_pick_f rfl rfl) ?_
    refine sv rfl (opv_as rfl) ?_
    refine snil ?_
    refine cret ?_
    obtain rfl := Option.some.inj h
    refine ⟨Or.inr rfl, _, _, _, (resVs_cons (ResV.tmp _ _ rfl) resVs_nil), (pubA_id rfl), ?_⟩
    rfl

def m38_bytes_Cloneo (a0 : List UInt8) : Option (List UInt8) :=
  if (([] : List UInt8).length + a0.length) * 1 ≤ 140737488355328 then (some (([] : List UInt8) ++ a0)) else none

set_option maxRecDepth 100000 in
theorem m38_bytes_Cloneo_c {a0 : List UInt8} {r : (List UInt8)} (h : m38_bytes_Cloneo a0 = some r) : CallsB Try.prog 38 [] [.one (.sl a0.length (a0.flatMap eU8))] (fun y m' => y = .s (.one (.ls 0 r.length)) ∧ m' = [.arr 5 1 0 (r.flatMap eU8)]) := by
  unfold m38_bytes_Cloneo at h
  refine callsB_of Try.func38 rfl (nt := 8) rfl (Nat.le_of_ble_eq_true rfl) ?_
  intro w0 S0 X0 H0
  refine cseq ?_
  refine cregion ?_
  refine sv rfl (opv_as rfl) ?_
  refine snil ?_
  refine cseq ?_
  refine cseq ?_
  refine cregion ?_
  refine sv rfl (opv_mv rfl) ?_
  refine snilq rfl Try.underlying22 rfl (fun nq hnq => ?_)
  cases nq
  · skip
    refine snil ?_
    refine ccond rfl (fun hx => Bool.noConfusion hx) (fun _ => ?_)
    refine cskip ?_
    refine then_normal ?_
    refine cseq ?_
    refine cregion ?_
    refine sbuild0 rfl Try.underlying22 ei5 ?_
    refine sv rfl (opv_mv rfl) ?_
    obtain ⟨hb1, h⟩ := chk_eq h
    refine sapp (f := eU8) (xs := ([] : List UInt8)) (us := a0) rfl Try.underlying22 ei5 ni22 (fun _ => rfl) rfl rfl (.one _ _ _ _ (.id _ rfl)) rfl rfl rfl (.sl _ _ _ (flat_len (f := eU8) (fun _ => rfl) _)) rfl rfl hb1 (by decide) ?_
    refine sv rfl (opv_as rfl) ?_
    refine snil ?_
    refine cret ?_
    obtain rfl := Option.some.inj h
    exact ⟨Or.inr rfl, _, [0], [.one (.ls 0 (([] : List UInt8) ++ a0).length)], [.arr 5 1 0 ((([] : List UInt8) ++ a0).flatMap eU8)], (resVs_cons (ResV.tmp _ _ rfl) resVs_nil), rfl, rfl, ⟨by decide, by decide⟩, rfl, rfl, ⟨rfl, rfl⟩⟩
  · obtain rfl := List.eq_nil_of_length_eq_zero (hnq rfl)
    replace h : (some ([] : List UInt8)) = some r := by first | exact h | (rw [if_pos (by decide)] at h; exact h)
    refine snil ?_
    refine ccond rfl (fun _ => ?_) (fun hx => Bool.noConfusion hx)
    refine cseq ?_
    refine cregion ?_
    refine sv rfl (opv_as rfl) ?_
    refine snil ?_
    refine sadopt_c 5 1 2 (by decide) rfl ?_
    refine cret ?_
    refine then_ret ?_
    obtain rfl := Option.some.inj h
    exact ⟨Or.inr rfl, _, [0], [.one (.ls 0 ([] : List UInt8).length)], [.arr 5 1 0 (([] : List UInt8).flatMap eU8)], (resVs_cons (ResV.tmp _ _ rfl) resVs_nil), rfl, rfl, ⟨by decide, by decide⟩, rfl, rfl, ⟨rfl, rfl⟩⟩

def m19_keys_Insert_k3 (a0 : List (List UInt8)) (a1 : List UInt8) (v1 : Int × Bool) (b3 : (List (List UInt8))) : Option (List (List UInt8)) :=
  if (decide (v1.1 = (a0.length : Int))) then ((m38_bytes_Cloneo a1).bind fun v4 => if (b3.length + [v4].length) * 24 ≤ 140737488355328 then (some (b3 ++ [v4])) else none) else (some b3)

def m19_keys_Insert_k8 (s6 : Int × (List (List UInt8))) (u7 : List UInt8) (b8 : (List (List UInt8))) : Option (LB (Int × (List (List UInt8))) ((List (List UInt8)))) :=
  (m38_bytes_Cloneo u7).bind fun v9 => if (b8.length + [v9].length) * 24 ≤ 140737488355328 then (some (.cont ((wI (s6.1 + 1)), (b8 ++ [v9])))) else none

def m19_keys_Insert_s6 (a0 : List (List UInt8)) (a1 : List UInt8) (v1 : Int × Bool) (s6 : Int × (List (List UInt8))) : Option (LB (Int × (List (List UInt8))) ((List (List UInt8)))) :=
  if (decide (s6.1 < (a0.length : Int))) then ((idx a0 s6.1).bind fun u7 => if (decide (s6.1 = v1.1)) then (if (!v1.2) then ((m38_bytes_Cloneo a1).bind fun v11 => if (s6.2.length + [v11].length) * 24 ≤ 140737488355328 then (m19_keys_Insert_k8 s6 u7 (s6.2 ++ [v11])) else none) else (m19_keys_Insert_k8 s6 u7 s6.2)) else (m19_keys_Insert_k8 s6 u7 s6.2)) else (some (.brk s6.2))
def m19_keys_Insert (a0 : List (List UInt8)) (a1 : List UInt8) : Option (List (List UInt8)) :=
  (m15_keys_Find a0 a1).bind fun v1 => if (0 : Int) ≤ 0 ∧ 0 ≤ (wI ((a0.length : Int) + 1)) ∧ ((24 : Nat) : Int) * (wI ((a0.length : Int) + 1)) ≤ 281474976710656 then ((iterB (m19_keys_Insert_s6 a0 a1 v1) fuel (0, ([] : List (List UInt8)))).bind fun e13 => m19_keys_Insert_k3 a0 a1 v1 e13) else none

set_option maxRecDepth 100000 in
theorem m19_keys_Insert_c {a0 : List (List UInt8)} {a1 : List UInt8} {r : (List (List UInt8))} (h : m19_keys_Insert a0 a1 = some r) : CallsA Try.prog 19 [.one (.sl a0.length (a0.flatMap (eL eU8))), .one (.sl a1.length (a1.flatMap eU8))] (· = .s (.one (.sl r.length (r.flatMap (eL eU8))))) := by
  unfold m19_keys_Insert at h
  refine callsA_of Try.func19 rfl (nt := 55) rfl (Nat.le_of_ble_eq_true rfl) ?_
  intro w0 S0
  refine cseq ?_
  refine cregion ?_
  refine sv rfl (opv_as rfl) ?_
  refine snil ?_
  refine cseq ?_
  refine cregion ?_
  refine sv rfl (opv_mv rfl) ?_
  refine sv rfl (opv_mv rfl) ?_
  obtain ⟨v1, hv1, h⟩ := bind_eq h
  refine scall1 rfl fn15 (opnds_cons rfl (opnds_cons rfl opnds_nil)) (pubA_id rfl) (m15_keys_Find_c hv1) ?_
  refine sv rfl (opv_mvt rfl) ?_
  refine sv rfl (opv_extract rfl rfl) ?_
  refine sv rfl (opv_extract rfl rfl) ?_
  refine sv rfl (opv_as rfl) ?_
  refine sv rfl (opv_as rfl) ?_
  refine snil ?_
  refine cseq ?_
  refine cregion ?_
  refine sv rfl (opv_mv rfl) ?_
  refine sv rfl (opv_len_sl si25 rfl) ?_
  refine sv rfl (opv_add rfl rfl) ?_
  obtain ⟨hm2, h⟩ := chk_eq h
  refine smk0 rfl Try.underlying25 ei22 rfl rfl hm2 (by decide) ?_
  refine sv rfl (opv_as rfl) ?_
  refine snil ?_
  refine cseq ?_
  refine cseq ?_
  refine cregion ?_
  refine sv rfl (opv_mv rfl) ?_
  refine sv rfl (opv_len_sl si25 rfl) ?_
  refine sv rfl (opv_mv rfl) ?_
  refine snil ?_
  refine cjoin ((List (List UInt8))) (fun b3 => [(0, .s (.one (.sl a0.length (a0.flatMap (eL eU8))))), (1, .s (.one (.sl a1.length (a1.flatMap eU8)))), (5, .s (.one (.i .i64 v1.1))), (7, .s (.one (.ls 0 b3.length)))]) (fun b3 => [.arr 22 1 0 (b3.flatMap (eL eU8))]) (fun b3 => m19_keys_Insert_k3 a0 a1 v1 b3 = some r) (fun _ _ => inbL_of rfl) (fun _ _ => blkinb_of rfl) (fun _ _ => Nat.le_of_ble_eq_true rfl) (fun b3 h => ?_) ?_
  · unfold m19_keys_Insert_k3 at h
    refine cseq ?_
    refine cseq ?_
    refine cregion ?_
    refine sv rfl (opv_mv rfl) ?_
    refine sv rfl (opv_mv rfl) ?_
    refine sv rfl (opv_len_sl si25 rfl) ?_
    refine sv rfl (opv_ieql rfl rfl) ?_
    refine snil ?_
    refine ccond rfl (fun hc => ?_) (fun hc => ?_)
    · replace h := ite_t hc h
      clear hc
      refine cregion ?_
      refine sv rfl (opv_mv rfl) ?_
      refine sv rfl (opv_mv rfl) ?_
      obtain ⟨v4, hv4, h⟩ := bind_eq h
      refine scallB (x' := .s (.one (.ls 1 v4.length))) (M' := [.arr 22 1 0 (b3.flatMap (eL eU8)), .arr 5 1 0 (v4.flatMap eU8)]) [] rfl fn38 (.func _) (opnds_cons rfl opnds_nil) (m38_bytes_Cloneo_c hv4) rfl rfl (by decide) rfl rfl rfl ?_
      refine spub 51 rfl (by (repeat' first | exact PubA.nil _ | apply PubA.cons | apply PubV.one | apply PubV.agg | exact PubL.nil | exact PubL.ls _ _ _ _ _ _ rfl (flat_len (f := (eL eU8)) (fun _ => rfl) _).symm | exact PubL.ls _ _ _ _ _ _ rfl (flat_len (f := eU8) (fun _ => rfl) _).symm | exact PubL.id _ rfl | exact PubLs.nil _ | apply PubLs.cons)) ?_
      refine sbuild1 rfl Try.underlying25 ei22 rfl rfl (List.all_eq_true.1 rfl) (by decide) ?_
      refine smem [.arr 22 1 0 (b3.flatMap (eL eU8)), .arr 5 1 (v4.flatMap eU8).length (v4.flatMap eU8), .arr 22 1 0 ([v4].flatMap (eL eU8))] rfl ?_
      obtain ⟨hb5, h⟩ := chk_eq h
      refine sapp (f := (eL eU8)) (xs := b3) (us := [v4]) rfl Try.underlying25 ei22 ni25 (fun _ => rfl) rfl rfl (.one _ _ _ _ (.ls _ _ _ _ _ _ rfl (flat_len (f := (eL eU8)) (fun _ => rfl) [v4]).symm)) rfl rfl rfl (.sl _ _ _ (flat_len (f := (eL eU8)) (fun _ => rfl) _)) rfl rfl hb5 (by decide) ?_
      refine sv rfl (opv_as rfl) ?_
      refine snil ?_
      refine cseq ?_
      refine cregion ?_
      refine sv rfl (opv_mv rfl) ?_
      refine sv rfl (opv_as rfl) ?_
      refine snil ?_
      refine cret ?_
      obtain rfl := Option.some.inj h
      refine ⟨Or.inr rfl, _, _, _, (resVs_cons (ResV.tmp _ _ rfl) resVs_nil), (by (repeat' first | exact PubA.nil _ | apply PubA.cons | apply PubV.one | apply PubV.agg | exact PubL.nil | exact PubL.ls _ _ _ _ _ _ rfl (flat_len (f := (eL eU8)) (fun _ => rfl) _).symm | exact PubL.ls _ _ _ _ _ _ rfl (flat_len (f := eU8) (fun _ => rfl) _).symm | exact PubL.id _ rfl | exact PubLs.nil _ | apply PubLs.cons)), ?_⟩
      rfl
    · replace h := ite_f hc h
      clear hc
      refine cskip ?_
      refine then_normal ?_
      refine cseq ?_
      refine cregion ?_
      refine sv rfl (opv_mv rfl) ?_
      refine sv rfl (opv_as rfl) ?_
      refine snil ?_
      refine cret ?_
      obtain rfl := Option.some.inj h
      refine ⟨Or.inr rfl, _, _, _, (resVs_cons (ResV.tmp _ _ rfl) resVs_nil), (by (repeat' first | exact PubA.nil _ | apply PubA.cons | apply PubV.one | apply PubV.agg | exact PubL.nil | exact PubL.ls _ _ _ _ _ _ rfl (flat_len (f := (eL eU8)) (fun _ => rfl) _).symm | exact PubL.id _ rfl | exact PubLs.nil _ | apply PubLs.cons)), ?_⟩
      rfl
  · skip
    refine cblock ?_
    obtain ⟨x6, hx6, ho6⟩ := bind_eq h
    refine awc_loop (G := Nat × (Int × (List (List UInt8)))) (fun g => [(0, .s (.one (.sl a0.length (a0.flatMap (eL eU8))))), (1, .s (.one (.sl a1.length (a1.flatMap eU8)))), (5, .s (.one (.i .i64 v1.1))), (6, .s (.one (.b v1.2))), (7, .s (.one (.ls 0 g.2.2.length))), (20, .s (.one (.sl a0.length (a0.flatMap (eL eU8))))), (21, .s (.one (.i .i64 (a0.length : Int)))), (22, .s (.one (.i .i64 g.2.1)))]) (fun g => [.arr 22 1 0 (g.2.2.flatMap (eL eU8))]) (fun g => iterB (m19_keys_Insert_s6 a0 a1 v1) g.1 g.2 = some x6) (fun g => g.1) (fuel, (0, ([] : List (List UInt8)))) hx6 ⟨rfl, rfl, rfl, rfl, rfl, rfl, rfl, rfl, trivial⟩ [] rfl (fun _ _ => inbL_of rfl) (fun _ _ => blkinb_of rfl) (fun _ _ => Nat.le_of_ble_eq_true rfl) ?_
    clear hx6 h
    rintro ⟨n6, s6⟩ h
    obtain ⟨n6, y6, rfl, h, hk6⟩ := iterB_eq h
    unfold m19_keys_Insert_s6 at h
    refine cseq ?_
    refine cregion ?_
    refine sv rfl (opv_lss rfl rfl) ?_
    refine snil ?_
    refine cseq ?_
    refine ccond rfl (fun hc => ?_) (fun hc => ?_)
    · replace h := ite_t hc h
      clear hc
      refine cskip ?_
      refine then_normal ?_
      refine cseq ?_
      refine cblock ?_
      refine cseq ?_
      refine cregion ?_
      refine sv rfl (opv_mv rfl) ?_
      obtain ⟨u7, hu7, h⟩ := bind_eq h
      refine sv rfl (opv_ix (f := (eL eU8)) si25 (fun _ => rfl) rfl rfl rfl rfl hu7) ?_
      refine sv rfl (opv_load1 ti22 rfl (.cp _) rfl) ?_
      refine sv rfl (opv_as rfl) ?_
      refine sv rfl (opv_as rfl) ?_
      refine snil ?_
      refine cseq ?_
      refine cseq ?_
      refine cjoin3 ((List (List UInt8))) (fun b8 => [(0, .s (.one (.sl a0.length (a0.flatMap (eL eU8))))), (1, .s (.one (.sl a1.length (a1.flatMap eU8)))), (5, .s (.one (.i .i64 v1.1))), (6, .s (.one (.b v1.2))), (7, .s (.one (.ls 0 b8.length))), (9, .s (.one (.sl u7.length (u7.flatMap eU8)))), (20, .s (.one (.sl a0.length (a0.flatMap (eL eU8))))), (21, .s (.one (.i .i64 (a0.length : Int)))), (22, .s (.one (.i .i64 s6.1)))]) (fun b8 => [.arr 22 1 0 (b8.flatMap (eL eU8))]) (fun b8 => m19_keys_Insert_k8 s6 u7 b8 = some y6) (fun _ _ => inbL_of rfl) (fun _ _ => blkinb_of rfl) (fun _ _ => Nat.le_of_ble_eq_true rfl) (fun b8 h => ?_) ?_
      · unfold m19_keys_Insert_k8 at h
        refine cregion ?_
        refine sv rfl (opv_mv rfl) ?_
        refine sv rfl (opv_mv rfl) ?_
        obtain ⟨v9, hv9, h⟩ := bind_eq h
        refine scallB (x' := .s (.one (.ls 1 v9.length))) (M' := [.arr 22 1 0 (b8.flatMap (eL eU8)), .arr 5 1 0 (v9.flatMap eU8)]) [] rfl fn38 (.func _) (opnds_cons rfl opnds_nil) (m38_bytes_Cloneo_c hv9) rfl rfl (by decide) rfl rfl rfl ?_
        refine spub 41 rfl (by (repeat' first | exact PubA.nil _ | apply PubA.cons | apply PubV.one | apply PubV.agg | exact PubL.nil | exact PubL.ls _ _ _ _ _ _ rfl (flat_len (f := (eL eU8)) (fun _ => rfl) _).symm | exact PubL.ls _ _ _ _ _ _ rfl (flat_len (f := eU8) (fun _ => rfl) _).symm | exact PubL.id _ rfl | exact PubLs.nil _ | apply PubLs.cons)) ?_
        refine sbuild1 rfl Try.underlying25 ei22 rfl rfl (List.all_eq_true.1 rfl) (by decide) ?_
        refine smem [.arr 22 1 0 (b8.flatMap (eL eU8)), .arr 5 1 (v9.flatMap eU8).length (v9.flatMap eU8), .arr 22 1 0 ([v9].flatMap (eL eU8))] rfl ?_
        obtain ⟨hb10, h⟩ := chk_eq h
        refine sapp (f := (eL eU8)) (xs := b8) (us := [v9]) rfl Try.underlying25 ei22 ni25 (fun _ => rfl) rfl rfl (.one _ _ _ _ (.ls _ _ _ _ _ _ rfl (flat_len (f := (eL eU8)) (fun _ => rfl) [v9]).symm)) rfl rfl rfl (.sl _ _ _ (flat_len (f := (eL eU8)) (fun _ => rfl) _)) rfl rfl hb10 (by decide) ?_
        refine sv rfl (opv_as rfl) ?_
        refine snil0 ?_
        refine block_normal ?_
        refine then_normal ?_
        refine cregion ?_
        refine sv rfl (opv_add rfl rfl) ?_
        refine sv rfl (opv_mv rfl) ?_
        refine snil ?_
        obtain rfl := Option.some.inj h
        exact ⟨(n6, ((wI (s6.1 + 1)), (b8 ++ [v9]))), _, hk6, ⟨rfl, rfl, rfl, rfl, rfl, rfl, rfl, rfl, trivial⟩, rfl, Nat.lt_succ_self _⟩
      · skip
        refine cregion ?_
        refine sv rfl (opv_mv rfl) ?_
        refine sv rfl (opv_mv rfl) ?_
        refine sv rfl (opv_ieql rfl rfl) ?_
        refine sv rfl (opv_mv rfl) ?_
        refine ssplit 30 rfl (fun hc => ?_) (fun hc => ?_)
        · replace h := ite_t hc h
          clear hc
          refine son rfl rfl rfl ?_
          refine sv rfl (opv_mv rfl) ?_
          refine son rfl rfl rfl ?_
          refine sv rfl (opv_not rfl) ?_
          refine sv rfl (opv_pick_t rfl rfl) ?_
          refine snil ?_
          refine ccond rfl (fun hc => ?_) (fun hc => ?_)
          · replace h := ite_t hc h
            clear hc
            refine cregion ?_
            refine sv rfl (opv_mv rfl) ?_
            refine sv rfl (opv_mv rfl) ?_
            obtain ⟨v11, hv11, h⟩ := bind_eq h
            refine scallB (x' := .s (.one (.ls 1 v11.length))) (M' := [.arr 22 1 0 (s6.2.flatMap (eL eU8)), .arr 5 1 0 (v11.flatMap eU8)]) [] rfl fn38 (.func _) (opnds_cons rfl opnds_nil) (m38_bytes_Cloneo_c hv11) rfl rfl (by decide) rfl rfl rfl ?_
            refine spub 36 rfl (by (repeat' first | exact PubA.nil _ | apply PubA.cons | apply PubV.one | apply PubV.agg | exact PubL.nil | exact PubL.ls _ _ _ _ _ _ rfl (flat_len (f := (eL eU8)) (fun _ => rfl) _).symm | exact PubL.ls _ _ _ _ _ _ rfl (flat_len (f := eU8) (fun _ => rfl) _).symm | exact PubL.id _ rfl | exact PubLs.nil _ | apply PubLs.cons)) ?_
            refine sbuild1 rfl Try.underlying25 ei22 rfl rfl (List.all_eq_true.1 rfl) (by decide) ?_
            refine smem [.arr 22 1 0 (s6.2.flatMap (eL eU8)), .arr 5 1 (v11.flatMap eU8).length (v11.flatMap eU8), .arr 22 1 0 ([v11].flatMap (eL eU8))] rfl ?_
            obtain ⟨hb12, h⟩ := chk_eq h
            refine sapp (f := (eL eU8)) (xs := s6.2) (us := [v11]) rfl Try.underlying25 ei22 ni25 (fun _ => rfl) rfl rfl (.one _ _ _ _ (.ls _ _ _ _ _ _ rfl (flat_len (f := (eL eU8)) (fun _ => rfl) [v11]).symm)) rfl rfl rfl (.sl _ _ _ (flat_len (f := (eL eU8)) (fun _ => rfl) _)) rfl rfl hb12 (by decide) ?_
            refine sv rfl (opv_as rfl) ?_
            refine snil ?_
            exact ⟨(s6.2 ++ [v11]), _, h, ⟨rfl, rfl, rfl, rfl, rfl, rfl, rfl, rfl, rfl, trivial⟩, rfl⟩
          · replace h := ite_f hc h
            clear hc
            refine cskip ?_
            refine then_normal ?_
            exact ⟨s6.2, _, h, ⟨rfl, rfl, rfl, rfl, rfl, rfl, rfl, rfl, rfl, trivial⟩, rfl⟩
        · replace h := ite_f hc h
          clear hc
          refine soff rfl rfl rfl rfl ?_
          refine soff rfl rfl rfl rfl ?_
          refine sv rfl (opv_pick_f rfl rfl) ?_
          refine snil ?_
          refine ccond rfl (fun hx => Bool.noConfusion hx) (fun _ => ?_)
          refine cskip ?_
          refine then_normal ?_
          exact ⟨s6.2, _, h, ⟨rfl, rfl, rfl, rfl, rfl, rfl, rfl, rfl, rfl, trivial⟩, rfl⟩
    · replace h := ite_f hc h
      clear hc
      refine cexit ?_
      refine then_exit ?_
      refine then_exit ?_
      refine block_hit ?_
      refine then_normal ?_
      obtain rfl := Option.some.inj h
      obtain rfl : _ = x6 := hk6
      exact ⟨s6.2, _, ho6, ⟨rfl, rfl, rfl, rfl, trivial⟩, rfl⟩

def m20_r06_Insert (a0 : List (List UInt8)) (a1 : List UInt8) : Option (List (List UInt8)) :=
  (m16_r06_Find a0 a1).bind fun v1 => if v1.2 then (if (([] : List (List UInt8)).length + a0.length) * 24 ≤ 140737488355328 then (some (([] : List (List UInt8)) ++ a0)) else none) else ((cut a0 0 v1.1).bind fun c3 => if (([] : List (List UInt8)).length + c3.length) * 24 ≤ 140737488355328 then (if ((([] : List (List UInt8)) ++ c3).length + [a1].length) * 24 ≤ 140737488355328 then ((cut a0 v1.1 (a0.length : Int)).bind fun c6 => if (((([] : List (List UInt8)) ++ c3) ++ [a1]).length + c6.length) * 24 ≤ 140737488355328 then (some (((([] : List (List UInt8)) ++ c3) ++ [a1]) ++ c6)) else none) else none) else none)

set_option maxRecDepth 100000 in
theorem m20_r06_Insert_c {a0 : List (List UInt8)} {a1 : List UInt8} {r : (List (List UInt8))} (h : m20_r06_Insert a0 a1 = some r) : CallsA Try.prog 20 [.one (.sl a0.length (a0.flatMap (eL eU8))), .one (.sl a1.length (a1.flatMap eU8))] (· = .s (.one (.sl r.length (r.flatMap (eL eU8))))) := by
  unfold m20_r06_Insert at h
  refine callsA_of Try.func20 rfl (nt := 32) rfl (Nat.le_of_ble_eq_true rfl) ?_
  intro w0 S0
  refine cseq ?_
  refine cregion ?_
  refine sv rfl (opv_as rfl) ?_
  refine snil ?_
  refine cseq ?_
  refine cregion ?_
  refine sv rfl (opv_mv rfl) ?_
  refine sv rfl (opv_mv rfl) ?_
  obtain ⟨v1, hv1, h⟩ := bind_eq h
  refine scall1 rfl fn16 (opnds_cons rfl (opnds_cons rfl opnds_nil)) (pubA_id rfl) (m16_r06_Find_c hv1) ?_
  refine sv rfl (opv_mvt rfl) ?_
  refine sv rfl (opv_extract rfl rfl) ?_
  refine sv rfl (opv_extract rfl rfl) ?_
  refine sv rfl (opv_as rfl) ?_
  refine sv rfl (opv_as rfl) ?_
  refine snil ?_
  refine cseq ?_
  refine cseq ?_
  refine cregion ?_
  refine sv rfl (opv_mv rfl) ?_
  refine snil ?_
  refine ccond rfl (fun hc => ?_) (fun hc => ?_)
  · replace h := ite_t hc h
    clear hc
    refine cseq ?_
    refine cregion ?_
    refine sbuild0 rfl Try.underlying25 ei22 ?_
    refine sv rfl (opv_mv rfl) ?_
    obtain ⟨hb2, h⟩ := chk_eq h
    refine sapp (f := (eL eU8)) (xs := ([] : List (List UInt8))) (us := a0) rfl Try.underlying25 ei22 ni25 (fun _ => rfl) rfl rfl (.one _ _ _ _ (.id _ rfl)) rfl rfl rfl (.sl _ _ _ (flat_len (f := (eL eU8)) (fun _ => rfl) _)) rfl rfl hb2 (by decide) ?_
    refine sv rfl (opv_as rfl) ?_
    refine snil ?_
    refine cret ?_
    refine then_ret ?_
    obtain rfl := Option.some.inj h
    refine ⟨Or.inr rfl, _, _, _, (resVs_cons (ResV.tmp _ _ rfl) resVs_nil), (by (repeat' first | exact PubA.nil _ | apply PubA.cons | apply PubV.one | apply PubV.agg | exact PubL.nil | exact PubL.ls _ _ _ _ _ _ rfl (flat_len (f := (eL eU8)) (fun _ => rfl) _).symm | exact PubL.id _ rfl | exact PubLs.nil _ | apply PubLs.cons)), ?_⟩
    rfl
  · replace h := ite_f hc h
    clear hc
    refine cskip ?_
    refine then_normal ?_
    refine cseq ?_
    refine cregion ?_
    refine sv rfl (opv_as rfl) ?_
    refine snil ?_
    refine cseq ?_
    refine cregion ?_
    refine sv rfl (opv_mv rfl) ?_
    refine sv rfl (opv_mv rfl) ?_
    refine sv rfl (opv_mv rfl) ?_
    obtain ⟨c3, hc3, h⟩ := bind_eq h
    refine sv rfl (opv_cut (f := (eL eU8)) (lo := 0) (hi := v1.1) si25 (fun _ => rfl) rfl rfl rfl bound_none (bound_some rfl (Int.le_trans (cut_eq hc3).1.1 (cut_eq hc3).1.2.1)) hc3) ?_
    refine sadopt 22 1 18 (by decide) rfl ?_
    obtain ⟨hb4, h⟩ := chk_eq h
    refine sapp (f := (eL eU8)) (xs := ([] : List (List UInt8))) (us := c3) rfl Try.underlying25 ei22 ni25 (fun _ => rfl) rfl rfl (.one _ _ _ _ (.id _ rfl)) rfl rfl rfl (.sl _ _ _ (flat_len (f := (eL eU8)) (fun _ => rfl) _)) rfl rfl hb4 (by decide) ?_
    refine sv rfl (opv_as rfl) ?_
    refine snil ?_
    refine cseq ?_
    refine cregion ?_
    refine sv rfl (opv_mv rfl) ?_
    refine sv rfl (opv_mv rfl) ?_
    refine sbuild1 rfl Try.underlying25 ei22 rfl rfl (List.all_eq_true.1 rfl) (by decide) ?_
    refine smem [.arr 22 1 0 ((([] : List (List UInt8)) ++ c3).flatMap (eL eU8)), .arr 22 1 0 ([a1].flatMap (eL eU8))] rfl ?_
    obtain ⟨hb5, h⟩ := chk_eq h
    refine sapp (f := (eL eU8)) (xs := (([] : List (List UInt8)) ++ c3)) (us := [a1]) rfl Try.underlying25 ei22 ni25 (fun _ => rfl) rfl rfl (.one _ _ _ _ (.ls _ _ _ _ _ _ rfl (flat_len (f := (eL eU8)) (fun _ => rfl) [a1]).symm)) rfl rfl rfl (.sl _ _ _ (flat_len (f := (eL eU8)) (fun _ => rfl) _)) rfl rfl hb5 (by decide) ?_
    refine sv rfl (opv_as rfl) ?_
    refine snil ?_
    refine cseq ?_
    refine cregion ?_
    refine sv rfl (opv_mv rfl) ?_
    refine sv rfl (opv_mv rfl) ?_
    refine sv rfl (opv_mv rfl) ?_
    obtain ⟨c6, hc6, h⟩ := bind_eq h
    refine sv rfl (opv_cut (f := (eL eU8)) (lo := v1.1) (hi := (a0.length : Int)) si25 (fun _ => rfl) rfl rfl rfl (bound_some rfl (cut_eq hc6).1.1) (by exact rfl) hc6) ?_
    obtain ⟨hb7, h⟩ := chk_eq h
    refine sapp (f := (eL eU8)) (xs := ((([] : List (List UInt8)) ++ c3) ++ [a1])) (us := c6) rfl Try.underlying25 ei22 ni25 (fun _ => rfl) rfl rfl (.one _ _ _ _ (.id _ rfl)) rfl rfl rfl (.sl _ _ _ (flat_len (f := (eL eU8)) (fun _ => rfl) _)) rfl rfl hb7 (by decide) ?_
    refine sv rfl (opv_as rfl) ?_
    refine snil ?_
    refine cret ?_
    obtain rfl := Option.some.inj h
    refine ⟨Or.inr rfl, _, _, _, (resVs_cons (ResV.tmp _ _ rfl) resVs_nil), (by (repeat' first | exact PubA.nil _ | apply PubA.cons | apply PubV.one | apply PubV.agg | exact PubL.nil | exact PubL.ls _ _ _ _ _ _ rfl (flat_len (f := (eL eU8)) (fun _ => rfl) _).symm | exact PubL.id _ rfl | exact PubLs.nil _ | apply PubLs.cons)), ?_⟩
    rfl

def m18_r03_Lists_k1 (b1 : Unit) : Option Bool :=
  some true

def m18_r03_Lists_s2 (a0 : List (List UInt8)) (a1 : List (List UInt8)) (s2 : Int) : Option (LR (Int) (Unit) (Bool)) :=
  if (decide (s2 < (a0.length : Int))) then ((idx a0 s2).bind fun u3 => (idx a1 s2).bind fun u4 => if (!(u3 == u4)) then (some (.ret false)) else (some (.cont (wI (s2 + 1))))) else (some (.brk ()))
def m18_r03_Lists (a0 : List (List UInt8)) (a1 : List (List UInt8)) : Option Bool :=
  if (!decide ((a0.length : Int) = (a1.length : Int))) then (some false) else ((iter (m18_r03_Lists_s2 a0 a1) fuel 0).bind fun x => match x with | .inl r => some r | .inr e5 => m18_r03_Lists_k1 e5)

set_option maxRecDepth 100000 in
theorem m18_r03_Lists_c {a0 : List (List UInt8)} {a1 : List (List UInt8)} {r : Bool} (h : m18_r03_Lists a0 a1 = some r) : CallsA Try.prog 18 [.one (.sl a0.length (a0.flatMap (eL eU8))), .one (.sl a1.length (a1.flatMap (eL eU8)))] (· = .s (.one (.b r))) := by
  unfold m18_r03_Lists at h
  refine callsA_of Try.func18 rfl (nt := 28) rfl (Nat.le_of_ble_eq_true rfl) ?_
  intro w0 S0
  refine cseq ?_
  refine cregion ?_
  refine sv rfl (opv_as rfl) ?_
  refine snil ?_
  refine cseq ?_
  refine cseq ?_
  refine cregion ?_
  refine sv rfl (opv_mv rfl) ?_
  refine sv rfl (opv_len_sl si25 rfl) ?_
  refine sv rfl (opv_mv rfl) ?_
  refine sv rfl (opv_len_sl si25 rfl) ?_
  refine sv rfl (opv_ineq rfl rfl) ?_
  refine snil ?_
  refine ccond rfl (fun hc => ?_) (fun hc => ?_)
  · replace h := ite_t hc h
    clear hc
    refine cseq ?_
    refine cregion ?_
    refine sv rfl (opv_as rfl) ?_
    refine snil ?_
    refine cret ?_
    refine then_ret ?_
    obtain rfl := Option.some.inj h
    refine ⟨Or.inr rfl, _, _, _, (resVs_cons (ResV.tmp _ _ rfl) resVs_nil), (pubA_id rfl), ?_⟩
    rfl
  · replace h := ite_f hc h
    clear hc
    refine cskip ?_
    refine then_normal ?_
    refine cseq ?_
    refine cseq ?_
    refine cregion ?_
    refine sv rfl (opv_as rfl) ?_
    refine snil ?_
    refine cjoin (Unit) (fun b1 => []) (fun b1 => []) (fun b1 => m18_r03_Lists_k1 b1 = some r) (fun _ _ => inbL_of rfl) (fun _ _ => blkinb_of rfl) (fun _ _ => Nat.le_of_ble_eq_true rfl) (fun b1 h => ?_) ?_
    · unfold m18_r03_Lists_k1 at h
      refine cseq ?_
      refine cregion ?_
      refine sv rfl (opv_as rfl) ?_
      refine snil ?_
      refine cret ?_
      obtain rfl := Option.some.inj h
      refine ⟨Or.inr rfl, _, _, _, (resVs_cons (ResV.tmp _ _ rfl) resVs_nil), (pubA_id rfl), ?_⟩
      rfl
    · skip
      refine cblock ?_
      obtain ⟨x2, hx2, ho2⟩ := bind_eq h
      refine awc_loop (G := Nat × (Int)) (fun g => [(0, .s (.one (.sl a0.length (a0.flatMap (eL eU8))))), (1, .s (.one (.sl a1.length (a1.flatMap (eL eU8))))), (5, .s (.one (.i .i64 g.2)))]) (fun g => []) (fun g => iter (m18_r03_Lists_s2 a0 a1) g.1 g.2 = some x2) (fun g => g.1) (fuel, 0) hx2 ⟨rfl, rfl, rfl, trivial⟩ [] rfl (fun _ _ => inbL_of rfl) (fun _ _ => blkinb_of rfl) (fun _ _ => Nat.le_of_ble_eq_true rfl) ?_
      clear hx2 h
      rintro ⟨n2, s2⟩ h
      obtain ⟨n2, y2, rfl, h, hk2⟩ := iter_eq h
      unfold m18_r03_Lists_s2 at h
      refine cseq ?_
      refine cseq ?_
      refine cregion ?_
      refine sv rfl (opv_mv rfl) ?_
      refine sv rfl (opv_mv rfl) ?_
      refine sv rfl (opv_len_sl si25 rfl) ?_
      refine sv rfl (opv_lss rfl rfl) ?_
      refine snil ?_
      refine ccond rfl (fun hc => ?_) (fun hc => ?_)
      · replace h := ite_t hc h
        clear hc
        refine cskip ?_
        refine then_normal ?_
        refine cseq ?_
        refine cblock ?_
        refine cseq ?_
        refine cdraw mixed (by kernel_rfl) ?_
        refine dv rfl (opv_mv rfl) ?_
        refine dv rfl (opv_mv rfl) ?_
        obtain ⟨u3, hu3, h⟩ := bind_eq h
        refine dv rfl (opv_ix (f := (eL eU8)) si25 (fun _ => rfl) rfl rfl rfl rfl hu3) ?_
        refine dv rfl (opv_load1 ti22 rfl (.cp _) rfl) ?_
        refine dv rfl (opv_bs (l := u3) Try.underlying22 Try.underlying5 Try.underlying9 rfl rfl rfl) ?_
        refine dv rfl (opv_mv rfl) ?_
        refine dv rfl (opv_mv rfl) ?_
        obtain ⟨u4, hu4, h⟩ := bind_eq h
        refine dv rfl (opv_ix (f := (eL eU8)) si25 (fun _ => rfl) rfl rfl rfl rfl hu4) ?_
        refine dv rfl (opv_load1 ti22 rfl (.cp _) rfl) ?_
        refine dv rfl (opv_bs (l := u4) Try.underlying22 Try.underlying5 Try.underlying9 rfl rfl rfl) ?_
        refine dv rfl (opv_sneq' rfl rfl) ?_
        refine dnil ?_
        refine then_normal ?_
        refine ccond rfl (fun hc => ?_) (fun hc => ?_)
        · replace h := ite_t hc h
          clear hc
          refine cseq ?_
          refine cregion ?_
          refine sv rfl (opv_as rfl) ?_
          refine snil ?_
          refine cret ?_
          refine block_ret ?_
          refine then_ret ?_
          refine then_ret ?_
          refine block_ret ?_
          refine then_ret ?_
          obtain rfl := Option.some.inj h
          obtain rfl : Sum.inl _ = x2 := hk2
          replace ho2 : some _ = some _ := ho2
          obtain rfl := Option.some.inj ho2
          refine ⟨Or.inr rfl, _, _, _, (resVs_cons (ResV.tmp _ _ rfl) resVs_nil), (pubA_id rfl), ?_⟩
          rfl
        · replace h := ite_f hc h
          clear hc
          refine cskip ?_
          refine block_normal ?_
          refine then_normal ?_
          refine cregion ?_
          refine sv rfl (opv_mv rfl) ?_
          refine sv rfl (opv_add rfl rfl) ?_
          refine sv rfl (opv_as rfl) ?_
          refine snil ?_
          obtain rfl := Option.some.inj h
          exact ⟨(n2, (wI (s2 + 1))), _, hk2, ⟨rfl, rfl, rfl, trivial⟩, rfl, Nat.lt_succ_self _⟩
      · replace h := ite_f hc h
        clear hc
        refine cexit ?_
        refine then_exit ?_
        refine then_exit ?_
        refine block_hit ?_
        refine then_normal ?_
        obtain rfl := Option.some.inj h
        obtain rfl : _ = x2 := hk2
        exact ⟨(), _, ho2, trivial, rfl⟩

def m41_slices_Growo_k1 (a0 : Int) (b1 : Unit) : Option (List UInt8) :=
  if (decide (0 < (wI (a0 - (wI (0 - 0)))))) then (if 0 < (wI (a0 - (wI (0 - 0)))) ∧ (wI (a0 - (wI (0 - 0)))) * ((1 : Nat) : Int) ≤ 281474976710656 then (if (0 : Int) ≤ 0 ∧ 0 ≤ ((List.replicate (wI (a0 - (wI (0 - 0)))).toNat (0 : UInt8)).length : Int) then (some ((List.replicate (wI (a0 - (wI (0 - 0)))).toNat (0 : UInt8)).take (0 : Int).toNat)) else none) else none) else (some ([] : List UInt8))
def m41_slices_Growo (a0 : Int) : Option (List UInt8) :=
  if (decide (a0 < 0)) then none else (m41_slices_Growo_k1 a0 ())

set_option maxRecDepth 100000 in
theorem m41_slices_Growo_c {a0 : Int} {r : (List UInt8)} (h : m41_slices_Growo a0 = some r) : CallsB Try.prog 41 [] [.one (.raw (.slice none 0 0)), .one (.i .i64 a0)] (fun y m' => y = .s (.one (.ls 0 r.length)) ∧ m' = [.arr 5 1 0 (r.flatMap eU8)]) := by
  unfold m41_slices_Growo at h
  refine callsB_of Try.func41 rfl (nt := 27) rfl (Nat.le_of_ble_eq_true rfl) ?_
  intro w0 S0 X0 H0
  refine cseq ?_
  refine cregion ?_
  refine sv rfl (opv_as rfl) ?_
  refine snil ?_
  refine cseq ?_
  refine cseq ?_
  refine cregion ?_
  refine sv rfl (opv_mv rfl) ?_
  refine sv rfl (opv_lss rfl rfl) ?_
  refine snil ?_
  refine cjoin (Unit) (fun b1 => [(0, .s (.one (.raw (.slice none 0 0)))), (1, .s (.one (.i .i64 a0)))]) (fun b1 => []) (fun b1 => m41_slices_Growo_k1 a0 b1 = some r) (fun _ _ => inbL_of rfl) (fun _ _ => blkinb_of rfl) (fun _ _ => Nat.le_of_ble_eq_true rfl) (fun b1 h => ?_) ?_
  · unfold m41_slices_Growo_k1 at h
    refine cseq ?_
    refine cseq ?_
    refine cregion ?_
    refine sv rfl (opv_mv rfl) ?_
    refine sv rfl (opv_mv rfl) ?_
    refine sv rfl (opv_cap_nil si22 rfl) ?_
    refine sv rfl (opv_mv rfl) ?_
    refine sv rfl (opv_len_nil si22 rfl) ?_
    refine sv rfl (opv_sub rfl rfl) ?_
    refine sv rfl (opv_sub rfl rfl) ?_
    refine sv rfl (opv_as rfl) ?_
    refine snil ?_
    refine cseq ?_
    refine cregion ?_
    refine sv rfl (opv_mv rfl) ?_
    refine sv rfl (opv_gtr rfl rfl) ?_
    refine snil ?_
    refine ccond rfl (fun hc => ?_) (fun hc => ?_)
    · replace h := ite_t hc h
      clear hc
      refine cregion ?_
      refine sv rfl (opv_mv rfl) ?_
      refine sv rfl (opv_mv rfl) ?_
      refine sv rfl (opv_cap_nil si22 rfl) ?_
      refine sv rfl (opv_slice_nil si22 rfl rfl) ?_
      refine sv rfl (opv_mv rfl) ?_
      obtain ⟨hm2, h⟩ := chk_eq h
      refine sappz (f := eU8) (z := (0 : UInt8)) rfl Try.underlying22 ei5 Try.underlying3 (fun _ => rfl) rfl rfl rfl hm2 (by decide) ?_
      refine sv rfl (opv_mv rfl) ?_
      refine sv rfl (opv_len_nil si22 rfl) ?_
      obtain ⟨hs3, h⟩ := chk_eq h
      refine strunc (f := eU8) rfl si22 (fun _ => rfl) rfl rfl rfl rfl rfl hs3 ?_
      refine sv rfl (opv_as rfl) ?_
      refine snil ?_
      refine cseq ?_
      refine cregion ?_
      refine sv rfl (opv_mv rfl) ?_
      refine sv rfl (opv_as rfl) ?_
      refine snil ?_
      refine cret ?_
      obtain rfl := Option.some.inj h
      exact ⟨Or.inr rfl, _, [1], [.one (.ls 0 ((List.replicate (wI (a0 - (wI (0 - 0)))).toNat (0 : UInt8)).take (0 : Int).toNat).length)], [.arr 5 1 0 (((List.replicate (wI (a0 - (wI (0 - 0)))).toNat (0 : UInt8)).take (0 : Int).toNat).flatMap eU8)], (resVs_cons (ResV.tmp _ _ rfl) resVs_nil), rfl, rfl, ⟨by decide, by decide⟩, rfl, rfl, ⟨rfl, rfl⟩⟩
    · replace h := ite_f hc h
      clear hc
      refine cskip ?_
      refine then_normal ?_
      refine cseq ?_
      refine cregion ?_
      refine sv rfl (opv_mv rfl) ?_
      refine sv rfl (opv_as rfl) ?_
      refine snil ?_
      refine sadopt_c 5 1 4 (by decide) rfl ?_
      refine cret ?_
      obtain rfl := Option.some.inj h
      exact ⟨Or.inr rfl, _, [0], [.one (.ls 0 ([] : List UInt8).length)], [.arr 5 1 0 (([] : List UInt8).flatMap eU8)], (resVs_cons (ResV.tmp _ _ rfl) resVs_nil), rfl, rfl, ⟨by decide, by decide⟩, rfl, rfl, ⟨rfl, rfl⟩⟩
  · skip
    refine ccond rfl (fun hc => ?_) (fun hc => ?_)
    · replace h := ite_t hc h
      clear hc
      cases h
    · replace h := ite_f hc h
      clear hc
      refine cskip ?_
      refine then_normal ?_
      exact ⟨(), _, h, ⟨rfl, rfl, trivial⟩, rfl⟩

def m39_slices_Concato_k3 (b3 : (List UInt8)) : Option (List UInt8) :=
  some b3

def m39_slices_Concato_s4 (a0 : List (List UInt8)) (s4 : Int × (List UInt8)) : Option (LB (Int × (List UInt8)) ((List UInt8))) :=
  if (decide (s4.1 < (a0.length : Int))) then ((idx a0 s4.1).bind fun u5 => if (s4.2.length + u5.length) * 1 ≤ 140737488355328 then (some (.cont ((wI (s4.1 + 1)), (s4.2 ++ u5)))) else none) else (some (.brk s4.2))

def m39_slices_Concato_k1 (a0 : List (List UInt8)) (b1 : Int) : Option (List UInt8) :=
  (m41_slices_Growo b1).bind fun v2 => (iterB (m39_slices_Concato_s4 a0) fuel (0, v2)).bind fun e7 => m39_slices_Concato_k3 e7

def m39_slices_Concato_s8 (a0 : List (List UInt8)) (s8 : Int × Int) : Option (LB (Int × Int) (Int)) :=
  if (decide (s8.2 < (a0.length : Int))) then ((idx a0 s8.2).bind fun u9 => if (decide ((wI (s8.1 + (u9.length : Int))) < 0)) then none else (some (.cont ((wI (s8.1 + (u9.length : Int))), (wI (s8.2 + 1)))))) else (some (.brk s8.1))
def m39_slices_Concato (a0 : List (List UInt8)) : Option (List UInt8) :=
  (iterB (m39_slices_Concato_s8 a0) fuel (0, 0)).bind fun e10 => m39_slices_Concato_k1 a0 e10

set_option maxRecDepth 100000 in
theorem m39_slices_Concato_c {a0 : List (List UInt8)} {r : (List UInt8)} (h : m39_slices_Concato a0 = some r) : CallsB Try.prog 39 [] [.one (.sl a0.length (a0.flatMap (eL eU8)))] (fun y m' => y = .s (.one (.ls 0 r.length)) ∧ m' = [.arr 5 1 0 (r.flatMap eU8)]) := by
  unfold m39_slices_Concato at h
  refine callsB_of Try.func39 rfl (nt := 36) rfl (Nat.le_of_ble_eq_true rfl) ?_
  intro w0 S0 X0 H0
  refine cseq ?_
  refine cregion ?_
  refine sv rfl (opv_as rfl) ?_
  refine snil ?_
  refine cseq ?_
  refine cregion ?_
  refine sv rfl (opv_as rfl) ?_
  refine snil ?_
  refine cseq ?_
  refine cseq ?_
  refine cregion ?_
  refine sv rfl (opv_mv rfl) ?_
  refine sv rfl (opv_len_sl si25 rfl) ?_
  refine sv rfl (opv_mv rfl) ?_
  refine snil ?_
  refine cjoin (Int) (fun b1 => [(0, .s (.one (.sl a0.length (a0.flatMap (eL eU8))))), (3, .s (.one (.i .i64 b1)))]) (fun b1 => []) (fun b1 => m39_slices_Concato_k1 a0 b1 = some r) (fun _ _ => inbL_of rfl) (fun _ _ => blkinb_of rfl) (fun _ _ => Nat.le_of_ble_eq_true rfl) (fun b1 h => ?_) ?_
  · unfold m39_slices_Concato_k1 at h
    refine cseq ?_
    refine cregion ?_
    refine sv rfl (opv_mv rfl) ?_
    obtain ⟨v2, hv2, h⟩ := bind_eq h
    refine scallB (x' := .s (.one (.ls 0 v2.length))) (M' := [.arr 5 1 0 (v2.flatMap eU8)]) [] rfl fn41 (.func _) (opnds_cons rfl (opnds_cons rfl opnds_nil)) (m41_slices_Growo_c hv2) rfl rfl (by decide) rfl rfl rfl ?_
    refine sv rfl (opv_as rfl) ?_
    refine snil ?_
    refine cseq ?_
    refine cseq ?_
    refine cregion ?_
    refine sv rfl (opv_mv rfl) ?_
    refine sv rfl (opv_len_sl si25 rfl) ?_
    refine sv rfl (opv_mv rfl) ?_
    refine snil ?_
    refine cjoin ((List UInt8)) (fun b3 => [(6, .s (.one (.ls 0 b3.length)))]) (fun b3 => [.arr 5 1 0 (b3.flatMap eU8)]) (fun b3 => m39_slices_Concato_k3 b3 = some r) (fun _ _ => inbL_of rfl) (fun _ _ => blkinb_of rfl) (fun _ _ => Nat.le_of_ble_eq_true rfl) (fun b3 h => ?_) ?_
    · unfold m39_slices_Concato_k3 at h
      refine cseq ?_
      refine cregion ?_
      refine sv rfl (opv_mv rfl) ?_
      refine sv rfl (opv_as rfl) ?_
      refine snil ?_
      refine cret ?_
      obtain rfl := Option.some.inj h
      exact ⟨Or.inr rfl, _, [0], [.one (.ls 0 b3.length)], [.arr 5 1 0 (b3.flatMap eU8)], (resVs_cons (ResV.tmp _ _ rfl) resVs_nil), rfl, rfl, ⟨by decide, by decide⟩, rfl, rfl, ⟨rfl, rfl⟩⟩
    · skip
      refine cblock ?_
      obtain ⟨x4, hx4, ho4⟩ := bind_eq h
      refine awc_loop (G := Nat × (Int × (List UInt8))) (fun g => [(6, .s (.one (.ls 0 g.2.2.length))), (25, .s (.one (.sl a0.length (a0.flatMap (eL eU8))))), (26, .s (.one (.i .i64 (a0.length : Int)))), (27, .s (.one (.i .i64 g.2.1)))]) (fun g => [.arr 5 1 0 (g.2.2.flatMap eU8)]) (fun g => iterB (m39_slices_Concato_s4 a0) g.1 g.2 = some x4) (fun g => g.1) (fuel, (0, v2)) hx4 ⟨rfl, rfl, rfl, rfl, trivial⟩ [] rfl (fun _ _ => inbL_of rfl) (fun _ _ => blkinb_of rfl) (fun _ _ => Nat.le_of_ble_eq_true rfl) ?_
      clear hx4 h
      rintro ⟨n4, s4⟩ h
      obtain ⟨n4, y4, rfl, h, hk4⟩ := iterB_eq h
      unfold m39_slices_Concato_s4 at h
      refine cseq ?_
      refine cregion ?_
      refine sv rfl (opv_lss rfl rfl) ?_
      refine snil ?_
      refine cseq ?_
      refine ccond rfl (fun hc => ?_) (fun hc => ?_)
      · replace h := ite_t hc h
        clear hc
        refine cskip ?_
        refine then_normal ?_
        refine cseq ?_
        refine cblock ?_
        refine cseq ?_
        refine cregion ?_
        obtain ⟨u5, hu5, h⟩ := bind_eq h
        refine sv rfl (opv_ix (f := (eL eU8)) si25 (fun _ => rfl) rfl rfl rfl rfl hu5) ?_
        refine sv rfl (opv_load1 ti22 rfl (.cp _) rfl) ?_
        refine sv rfl (opv_as rfl) ?_
        refine snil ?_
        refine cregion ?_
        refine sv rfl (opv_mv rfl) ?_
        refine sv rfl (opv_mv rfl) ?_
        obtain ⟨hb6, h⟩ := chk_eq h
        refine sapp (f := eU8) (xs := s4.2) (us := u5) rfl Try.underlying22 ei5 ni22 (fun _ => rfl) rfl rfl (.one _ _ _ _ (.id _ rfl)) rfl rfl rfl (.sl _ _ _ (flat_len (f := eU8) (fun _ => rfl) _)) rfl rfl hb6 (by decide) ?_
        refine sv rfl (opv_as rfl) ?_
        refine snil0 ?_
        refine block_normal ?_
        refine then_normal ?_
        refine cregion ?_
        refine sv rfl (opv_add rfl rfl) ?_
        refine sv rfl (opv_mv rfl) ?_
        refine snil ?_
        obtain rfl := Option.some.inj h
        exact ⟨(n4, ((wI (s4.1 + 1)), (s4.2 ++ u5))), _, hk4, ⟨rfl, rfl, rfl, rfl, trivial⟩, rfl, Nat.lt_succ_self _⟩
      · replace h := ite_f hc h
        clear hc
        refine cexit ?_
        refine then_exit ?_
        refine then_exit ?_
        refine block_hit ?_
        refine then_normal ?_
        obtain rfl := Option.some.inj h
        obtain rfl : _ = x4 := hk4
        exact ⟨s4.2, _, ho4, ⟨rfl, trivial⟩, rfl⟩
  · skip
    refine cblock ?_
    obtain ⟨x8, hx8, ho8⟩ := bind_eq h
    refine awc_loop (G := Nat × (Int × Int)) (fun g => [(0, .s (.one (.sl a0.length (a0.flatMap (eL eU8))))), (3, .s (.one (.i .i64 g.2.1))), (9, .s (.one (.sl a0.length (a0.flatMap (eL eU8))))), (10, .s (.one (.i .i64 (a0.length : Int)))), (11, .s (.one (.i .i64 g.2.2)))]) (fun g => []) (fun g => iterB (m39_slices_Concato_s8 a0) g.1 g.2 = some x8) (fun g => g.1) (fuel, (0, 0)) hx8 ⟨rfl, rfl, rfl, rfl, rfl, trivial⟩ [] rfl (fun _ _ => inbL_of rfl) (fun _ _ => blkinb_of rfl) (fun _ _ => Nat.le_of_ble_eq_true rfl) ?_
    clear hx8 h
    rintro ⟨n8, s8⟩ h
    obtain ⟨n8, y8, rfl, h, hk8⟩ := iterB_eq h
    unfold m39_slices_Concato_s8 at h
    refine cseq ?_
    refine cregion ?_
    refine sv rfl (opv_lss rfl rfl) ?_
    refine snil ?_
    refine cseq ?_
    refine ccond rfl (fun hc => ?_) (fun hc => ?_)
    · replace h := ite_t hc h
      clear hc
      refine cskip ?_
      refine then_normal ?_
      refine cseq ?_
      refine cblock ?_
      refine cseq ?_
      refine cregion ?_
      obtain ⟨u9, hu9, h⟩ := bind_eq h
      refine sv rfl (opv_ix (f := (eL eU8)) si25 (fun _ => rfl) rfl rfl rfl rfl hu9) ?_
      refine sv rfl (opv_load1 ti22 rfl (.cp _) rfl) ?_
      refine sv rfl (opv_as rfl) ?_
      refine snil ?_
      refine cseq ?_
      refine cregion ?_
      refine sv rfl (opv_mv rfl) ?_
      refine sv rfl (opv_mv rfl) ?_
      refine sv rfl (opv_len_sl si22 rfl) ?_
      refine sv rfl (opv_add rfl rfl) ?_
      refine sv rfl (opv_as rfl) ?_
      refine snil ?_
      refine cseq ?_
      refine cregion ?_
      refine sv rfl (opv_mv rfl) ?_
      refine sv rfl (opv_lss rfl rfl) ?_
      refine snil ?_
      refine ccond rfl (fun hc => ?_) (fun hc => ?_)
      · replace h := ite_t hc h
        clear hc
        cases h
      · replace h := ite_f hc h
        clear hc
        refine cskip ?_
        refine block_normal ?_
        refine then_normal ?_
        refine cregion ?_
        refine sv rfl (opv_add rfl rfl) ?_
        refine sv rfl (opv_mv rfl) ?_
        refine snil ?_
        obtain rfl := Option.some.inj h
        exact ⟨(n8, ((wI (s8.1 + (u9.length : Int))), (wI (s8.2 + 1)))), _, hk8, ⟨rfl, rfl, rfl, rfl, rfl, trivial⟩, rfl, Nat.lt_succ_self _⟩
    · replace h := ite_f hc h
      clear hc
      refine cexit ?_
      refine then_exit ?_
      refine then_exit ?_
      refine block_hit ?_
      refine then_normal ?_
      obtain rfl := Option.some.inj h
      obtain rfl : _ = x8 := hk8
      exact ⟨s8.1, _, ho8, ⟨rfl, rfl, trivial⟩, rfl⟩

def m21_keys_One (a0 : List UInt8) : Option GApiRange :=
  (m39_slices_Concato [a0, [(UInt8.ofBitVec (0#8))]]).bind fun v1 => some (GApiRange.mk a0 v1 false)

set_option maxRecDepth 100000 in
theorem m21_keys_One_c {a0 : List UInt8} {r : GApiRange} (h : m21_keys_One a0 = some r) : CallsA Try.prog 21 [.one (.sl a0.length (a0.flatMap eU8))] (· = .s (.agg [.sl r.Lo.length (r.Lo.flatMap eU8), .sl r.Hi.length (r.Hi.flatMap eU8), .b r.Open])) := by
  unfold m21_keys_One at h
  refine callsA_of Try.func21 rfl (nt := 9) rfl (Nat.le_of_ble_eq_true rfl) ?_
  intro w0 S0
  refine cseq ?_
  refine cregion ?_
  refine salloc rfl zi24 ?_
  refine snil ?_
  refine cseq ?_
  refine cregion ?_
  refine sv rfl (opv_mv rfl) ?_
  refine sv rfl (opv_mv rfl) ?_
  refine sbuild1 rfl Try.underlying22 ei5 rfl rfl (List.all_eq_true.1 rfl) (by decide) ?_
  refine smem [.box [.raw (.slice none 0 0), .raw (.slice none 0 0), .b false], .arr 5 1 0 ([(UInt8.ofBitVec (0#8))].flatMap eU8)] rfl ?_
  refine spub 5 rfl (by (repeat' first | exact PubA.nil _ | apply PubA.cons | apply PubV.one | apply PubV.agg | exact PubL.nil | exact PubL.ls _ _ _ _ _ _ rfl (flat_len (f := eU8) (fun _ => rfl) ([(UInt8.ofBitVec (0#8))] : List UInt8)).symm | exact PubL.ls _ _ _ _ _ _ rfl (flat_len (f := eU8) (fun _ => rfl) _).symm | exact PubL.id _ rfl | exact PubLs.nil _ | apply PubLs.cons)) ?_
  refine sbuildN (out := ([a0, [(UInt8.ofBitVec (0#8))]] : List (List UInt8)).flatMap (eL eU8)) rfl Try.underlying25 ei22 (parts_cons rfl (parts_cons rfl parts_nil)) (.cons _ _ _ _ _ _ _ rfl rfl (Nat.le_of_ble_eq_true rfl) (.cons _ _ _ _ _ _ _ rfl rfl (Nat.le_of_ble_eq_true rfl) (.nil _))) rfl (by decide) ?_
  refine spub 6 rfl (by (repeat' first | exact PubA.nil _ | apply PubA.cons | apply PubV.one | apply PubV.agg | exact PubL.nil | exact PubL.ls _ _ _ _ _ _ rfl (flat_len (f := (eL eU8)) (fun _ => rfl) ([a0, [(UInt8.ofBitVec (0#8))]] : List (List UInt8))).symm | exact PubL.ls _ _ _ _ _ _ rfl (flat_len (f := (eL eU8)) (fun _ => rfl) _).symm | exact PubL.ls _ _ _ _ _ _ rfl (flat_len (f := eU8) (fun _ => rfl) _).symm | exact PubL.id _ rfl | exact PubLs.nil _ | apply PubLs.cons)) ?_
  obtain ⟨v1, hv1, h⟩ := bind_eq h
  refine scallB (x' := .s (.one (.ls 3 v1.length))) (M' := [.box [.raw (.slice none 0 0), .raw (.slice none 0 0), .b false], .arr 5 1 ([(UInt8.ofBitVec (0#8))].flatMap eU8).length ([(UInt8.ofBitVec (0#8))].flatMap eU8), .arr 22 1 ([a0, [(UInt8.ofBitVec (0#8))]].flatMap (eL eU8)).length ([a0, [(UInt8.ofBitVec (0#8))]].flatMap (eL eU8)), .arr 5 1 0 (v1.flatMap eU8)]) [] rfl fn39 (.func _) (opnds_cons rfl opnds_nil) (m39_slices_Concato_c hv1) rfl rfl (by decide) rfl rfl rfl ?_
  refine sv rfl (opv_build zi24 pi24 (parts_cons rfl (parts_cons rfl parts_nil)) (.cons _ _ _ _ _ _ _ rfl rfl (Nat.le_of_ble_eq_true rfl) (.cons _ _ _ _ _ _ _ rfl rfl (Nat.le_of_ble_eq_true rfl) (.nil _)))) ?_
  refine sstore sz24 rfl rfl rfl rfl (Nat.le_of_ble_eq_true rfl) ?_
  refine smem [.box [.sl a0.length (a0.flatMap eU8), .ls 3 v1.length, .b false], .arr 5 1 ([(UInt8.ofBitVec (0#8))].flatMap eU8).length ([(UInt8.ofBitVec (0#8))].flatMap eU8), .arr 22 1 ([a0, [(UInt8.ofBitVec (0#8))]].flatMap (eL eU8)).length ([a0, [(UInt8.ofBitVec (0#8))]].flatMap (eL eU8)), .arr 5 1 0 (v1.flatMap eU8)] rfl ?_
  refine snil ?_
  refine cret ?_
  obtain rfl := Option.some.inj h
  refine ⟨Or.inr rfl, _, _, _, (resVs_cons (ResV.agg _ _ _ _ _ ti24 rfl (.lp _ _ _ rfl) (Nat.le_of_ble_eq_true rfl)) resVs_nil), (by (repeat' first | exact PubA.nil _ | apply PubA.cons | apply PubV.one | apply PubV.agg | exact PubL.nil | exact PubL.ls _ _ _ _ _ _ rfl (flat_len (f := (eL eU8)) (fun _ => rfl) _).symm | exact PubL.ls _ _ _ _ _ _ rfl (flat_len (f := eU8) (fun _ => rfl) _).symm | exact PubL.id _ rfl | exact PubLs.nil _ | apply PubLs.cons)), ?_⟩
  rfl

def m22_r06_One (a0 : List UInt8) : Option GApiRange :=
  if (([] : List UInt8).length + a0.length) * 1 ≤ 140737488355328 then (if ((([] : List UInt8) ++ a0).length + [(UInt8.ofBitVec (0#8))].length) * 1 ≤ 140737488355328 then (some (GApiRange.mk a0 ((([] : List UInt8) ++ a0) ++ [(UInt8.ofBitVec (0#8))]) false)) else none) else none

set_option maxRecDepth 100000 in
theorem m22_r06_One_c {a0 : List UInt8} {r : GApiRange} (h : m22_r06_One a0 = some r) : CallsA Try.prog 22 [.one (.sl a0.length (a0.flatMap eU8))] (· = .s (.agg [.sl r.Lo.length (r.Lo.flatMap eU8), .sl r.Hi.length (r.Hi.flatMap eU8), .b r.Open])) := by
  unfold m22_r06_One at h
  refine callsA_of Try.func22 rfl (nt := 13) rfl (Nat.le_of_ble_eq_true rfl) ?_
  intro w0 S0
  refine cseq ?_
  refine cregion ?_
  refine salloc rfl zi24 ?_
  refine snil ?_
  refine cseq ?_
  refine cregion ?_
  refine sbuild0 rfl Try.underlying22 ei5 ?_
  refine sv rfl (opv_mv rfl) ?_
  obtain ⟨hb1, h⟩ := chk_eq h
  refine sapp (f := eU8) (xs := ([] : List UInt8)) (us := a0) rfl Try.underlying22 ei5 ni22 (fun _ => rfl) rfl rfl (.one _ _ _ _ (.id _ rfl)) rfl rfl rfl (.sl _ _ _ (flat_len (f := eU8) (fun _ => rfl) _)) rfl rfl hb1 (by decide) ?_
  refine sv rfl (opv_as rfl) ?_
  refine snil ?_
  refine cseq ?_
  refine cregion ?_
  refine sv rfl (opv_mv rfl) ?_
  refine sbuild1 rfl Try.underlying22 ei5 rfl rfl (List.all_eq_true.1 rfl) (by decide) ?_
  refine smem [.box [.raw (.slice none 0 0), .raw (.slice none 0 0), .b false], .arr 5 1 0 ((([] : List UInt8) ++ a0).flatMap eU8), .arr 5 1 0 ([(UInt8.ofBitVec (0#8))].flatMap eU8)] rfl ?_
  obtain ⟨hb2, h⟩ := chk_eq h
  refine sapp (f := eU8) (xs := (([] : List UInt8) ++ a0)) (us := [(UInt8.ofBitVec (0#8))]) rfl Try.underlying22 ei5 ni22 (fun _ => rfl) rfl rfl (.one _ _ _ _ (.ls _ _ _ _ _ _ rfl (flat_len (f := eU8) (fun _ => rfl) [(UInt8.ofBitVec (0#8))]).symm)) rfl rfl rfl (.sl _ _ _ (flat_len (f := eU8) (fun _ => rfl) _)) rfl rfl hb2 (by decide) ?_
  refine sv rfl (opv_as rfl) ?_
  refine snil ?_
  refine cseq ?_
  refine cregion ?_
  refine sv rfl (opv_mv rfl) ?_
  refine sv rfl (opv_mv rfl) ?_
  refine sv rfl (opv_build zi24 pi24 (parts_cons rfl (parts_cons rfl parts_nil)) (.cons _ _ _ _ _ _ _ rfl rfl (Nat.le_of_ble_eq_true rfl) (.cons _ _ _ _ _ _ _ rfl rfl (Nat.le_of_ble_eq_true rfl) (.nil _)))) ?_
  refine sstore sz24 rfl rfl rfl rfl (Nat.le_of_ble_eq_true rfl) ?_
  refine smem [.box [.sl a0.length (a0.flatMap eU8), .ls 1 ((([] : List UInt8) ++ a0) ++ [(UInt8.ofBitVec (0#8))]).length, .b false], .arr 5 1 0 (((([] : List UInt8) ++ a0) ++ [(UInt8.ofBitVec (0#8))]).flatMap eU8), .arr 5 1 ([(UInt8.ofBitVec (0#8))].flatMap eU8).length ([(UInt8.ofBitVec (0#8))].flatMap eU8)] rfl ?_
  refine snil ?_
  refine cret ?_
  obtain rfl := Option.some.inj h
  refine ⟨Or.inr rfl, _, _, _, (resVs_cons (ResV.agg _ _ _ _ _ ti24 rfl (.lp _ _ _ rfl) (Nat.le_of_ble_eq_true rfl)) resVs_nil), (by (repeat' first | exact PubA.nil _ | apply PubA.cons | apply PubV.one | apply PubV.agg | exact PubL.nil | exact PubL.ls _ _ _ _ _ _ rfl (flat_len (f := eU8) (fun _ => rfl) _).symm | exact PubL.id _ rfl | exact PubLs.nil _ | apply PubLs.cons)), ?_⟩
  rfl

def m26_r06_Sane (a0 : List UInt8) : Option Bool :=
  if (decide (1 ≤ (a0.length : Int))) then (some (decide ((a0.length : Int) ≤ 16))) else (some false)

set_option maxRecDepth 100000 in
theorem m26_r06_Sane_c {a0 : List UInt8} {r : Bool} (h : m26_r06_Sane a0 = some r) : CallsA Try.prog 26 [.one (.sl a0.length (a0.flatMap eU8))] (· = .s (.one (.b r))) := by
  unfold m26_r06_Sane at h
  refine callsA_of Try.func26 rfl (nt := 11) rfl (Nat.le_of_ble_eq_true rfl) ?_
  intro w0 S0
  refine cseq ?_
  refine cregion ?_
  refine sv rfl (opv_as rfl) ?_
  refine snil ?_
  refine cseq ?_
  refine cregion ?_
  refine sv rfl (opv_mv rfl) ?_
  refine sv rfl (opv_len_sl si22 rfl) ?_
  refine sv rfl (opv_geq rfl rfl) ?_
  refine sv rfl (opv_mv rfl) ?_
  refine ssplit 6 rfl (fun hc => ?_) (fun hc => ?_)
  · replace h := ite_t hc h
    clear hc
    refine son rfl rfl rfl ?_
    refine sv rfl (opv_mv rfl) ?_
    refine son rfl rfl rfl ?_
    refine sv rfl (opv_len_sl si22 rfl) ?_
    refine son rfl rfl rfl ?_
    refine sv rfl (opv_leq rfl rfl) ?_
    refine sv rfl (opv_pick_t rfl rfl) ?_
    refine sv rfl (opv_as rfl) ?_
    refine snil ?_
    refine cret ?_
    obtain rfl := Option.some.inj h
    refine ⟨Or.inr rfl, _, _, _, (resVs_cons (ResV.tmp _ _ rfl) resVs_nil), (pubA_id rfl), ?_⟩
    rfl
  · replace h := ite_f hc h
    clear hc
    refine soff rfl rfl rfl rfl ?_
    refine soff rfl rfl rfl rfl ?_
    refine soff rfl rfl rfl rfl ?_
    refine sv rfl (opv_pick_f rfl rfl) ?_
    refine sv rfl (opv_as rfl) ?_
    refine snil ?_
    refine cret ?_
    obtain rfl := Option.some.inj h
    refine ⟨Or.inr rfl, _, _, _, (resVs_cons (ResV.tmp _ _ rfl) resVs_nil), (pubA_id rfl), ?_⟩
    rfl

def m27_keys_SaneRange (a0 : GApiRange) : Option Bool :=
  if (decide ((a0.Lo.length : Int) ≤ 17)) then (if (decide ((a0.Hi.length : Int) ≤ 17)) then (if a0.Open then (some (!(decide (0 < (a0.Hi.length : Int))))) else (some true)) else (some false)) else (some false)

set_option maxRecDepth 100000 in
theorem m27_keys_SaneRange_c {a0 : GApiRange} {r : Bool} (h : m27_keys_SaneRange a0 = some r) : CallsA Try.prog 27 [.agg [.sl a0.Lo.length (a0.Lo.flatMap eU8), .sl a0.Hi.length (a0.Hi.flatMap eU8), .b a0.Open]] (· = .s (.one (.b r))) := by
  unfold m27_keys_SaneRange at h
  refine callsA_of Try.func27 rfl (nt := 24) rfl (Nat.le_of_ble_eq_true rfl) ?_
  intro w0 S0
  refine cseq ?_
  refine cregion ?_
  refine sbox rfl rfl ?_
  refine sv rfl (opv_as rfl) ?_
  refine snil ?_
  refine cseq ?_
  refine cregion ?_
  refine sv rfl (opv_fieldAddr_lp fi24_0 rfl) ?_
  refine sv rfl (opv_load1 ti22 rfl (.lp _ _ _ rfl) rfl) ?_
  refine sv rfl (opv_len_sl si22 rfl) ?_
  refine sv rfl (opv_leq rfl rfl) ?_
  refine sv rfl (opv_mv rfl) ?_
  refine ssplit 7 rfl (fun hc => ?_) (fun hc => ?_)
  · replace h := ite_t hc h
    clear hc
    refine son rfl rfl rfl ?_
    refine sv rfl (opv_fieldAddr_lp fi24_1 rfl) ?_
    refine son rfl rfl rfl ?_
    refine sv rfl (opv_load1 ti22 rfl (.lp _ _ _ rfl) rfl) ?_
    refine son rfl rfl rfl ?_
    refine sv rfl (opv_len_sl si22 rfl) ?_
    refine son rfl rfl rfl ?_
    refine sv rfl (opv_leq rfl rfl) ?_
    refine sv rfl (opv_pick_t rfl rfl) ?_
    refine sv rfl (opv_mv rfl) ?_
    refine ssplit 13 rfl (fun hc => ?_) (fun hc => ?_)
    · replace h := ite_t hc h
      clear hc
      refine son rfl rfl rfl ?_
      refine sv rfl (opv_fieldAddr_lp fi24_2 rfl) ?_
      refine son rfl rfl rfl ?_
      refine sv rfl (opv_load1 ti4 rfl (.lp _ _ _ rfl) rfl) ?_
      refine son rfl rfl rfl ?_
      refine sv rfl (opv_mv rfl) ?_
      refine ssplit 16 rfl (fun hc => ?_) (fun hc => ?_)
      · replace h := ite_t hc h
        clear hc
        refine son rfl rfl rfl ?_
        refine sv rfl (opv_fieldAddr_lp fi24_1 rfl) ?_
        refine son rfl rfl rfl ?_
        refine sv rfl (opv_load1 ti22 rfl (.lp _ _ _ rfl) rfl) ?_
        refine son rfl rfl rfl ?_
        refine sv rfl (opv_len_sl si22 rfl) ?_
        refine son rfl rfl rfl ?_
        refine sv rfl (opv_gtr rfl rfl) ?_
        refine son rfl rfl rfl ?_
        refine sv rfl (opv_pick_t rfl rfl) ?_
        refine son rfl rfl rfl ?_
        refine sv rfl (opv_not rfl) ?_
        refine sv rfl (opv_pick_t rfl rfl) ?_
        refine sv rfl (opv_as rfl) ?_
        refine snil ?_
        refine cret ?_
        obtain rfl := Option.some.inj h
        refine ⟨Or.inr rfl, _, _, _, (resVs_cons (ResV.tmp _ _ rfl) resVs_nil), (pubA_id rfl), ?_⟩
        rfl
      · replace h := ite_f hc h
        clear hc
        refine soff rfl rfl rfl rfl ?_
        refine soff rfl rfl rfl rfl ?_
        refine soff rfl rfl rfl rfl ?_
        refine soff rfl rfl rfl rfl ?_
        refine son rfl rfl rfl ?_
        refine sv rfl (opv_pick_f rfl rfl) ?_
        refine son rfl rfl rfl ?_
        refine sv rfl (opv_not rfl) ?_
        refine sv rfl (opv_pick_t rfl rfl) ?_
        refine sv rfl (opv_as rfl) ?_
        refine snil ?_
        refine cret ?_
        obtain rfl := Option.some.inj h
        refine ⟨Or.inr rfl, _, _, _, (resVs_cons (ResV.tmp _ _ rfl) resVs_nil), (pubA_id rfl), ?_⟩
        rfl
    · replace h := ite_f hc h
      clear hc
      refine soff rfl rfl rfl rfl ?_
      refine soff rfl rfl rfl rfl ?_
      refine soff rfl rfl rfl rfl ?_
      refine soffu rfl rfl rfl ?_
      refine soffu rfl rfl rfl ?_
      refine soffu rfl rfl rfl ?_
      refine soffu rfl rfl rfl ?_
      refine soff rfl rfl rfl rfl ?_
      refine soff rfl rfl rfl rfl ?_
      refine sv rfl (opv_pick_f rfl rfl) ?_
      refine sv rfl (opv_as rfl) ?_
      refine snil ?_
      refine cret ?_
      obtain rfl := Option.some.inj h
      refine ⟨Or.inr rfl, _, _, _, (resVs_cons (ResV.tmp _ _ rfl) resVs_nil), (pubA_id rfl), ?_⟩
      rfl
  · replace h := ite_f hc h
    clear hc
    refine soff rfl rfl rfl rfl ?_
    refine soff rfl rfl rfl rfl ?_
    refine soff rfl rfl rfl rfl ?_
    refine soff rfl rfl rfl rfl ?_
    refine sv rfl (opv_pick_f rfl rfl) ?_
    refine sv rfl (opv_mv rfl) ?_
    refine soff rfl rfl rfl rfl ?_
    refine soff rfl rfl rfl rfl ?_
    refine soff rfl rfl rfl rfl ?_
    refine soffu rfl rfl rfl ?_
    refine soffu rfl rfl rfl ?_
    refine soffu rfl rfl rfl ?_
    refine soffu rfl rfl rfl ?_
    refine soff rfl rfl rfl rfl ?_
    refine soff rfl rfl rfl rfl ?_
    refine sv rfl (opv_pick_f rfl rfl) ?_
    refine sv rfl (opv_as rfl) ?_
    refine snil ?_
    refine cret ?_
    obtain rfl := Option.some.inj h
    refine ⟨Or.inr rfl, _, _, _, (resVs_cons (ResV.tmp _ _ rfl) resVs_nil), (pubA_id rfl), ?_⟩
    rfl

def m28_r06_SaneRange (a0 : GApiRange) : Option Bool :=
  if (decide ((a0.Lo.length : Int) ≤ 17)) then (if (decide ((a0.Hi.length : Int) ≤ 17)) then (if (!a0.Open) then (some true) else (some (decide ((a0.Hi.length : Int) = 0)))) else (some false)) else (some false)

set_option maxRecDepth 100000 in
theorem m28_r06_SaneRange_c {a0 : GApiRange} {r : Bool} (h : m28_r06_SaneRange a0 = some r) : CallsA Try.prog 28 [.agg [.sl a0.Lo.length (a0.Lo.flatMap eU8), .sl a0.Hi.length (a0.Hi.flatMap eU8), .b a0.Open]] (· = .s (.one (.b r))) := by
  unfold m28_r06_SaneRange at h
  refine callsA_of Try.func28 rfl (nt := 24) rfl (Nat.le_of_ble_eq_true rfl) ?_
  intro w0 S0
  refine cseq ?_
  refine cregion ?_
  refine sbox rfl rfl ?_
  refine sv rfl (opv_as rfl) ?_
  refine snil ?_
  refine cseq ?_
  refine cregion ?_
  refine sv rfl (opv_fieldAddr_lp fi24_0 rfl) ?_
  refine sv rfl (opv_load1 ti22 rfl (.lp _ _ _ rfl) rfl) ?_
  refine sv rfl (opv_len_sl si22 rfl) ?_
  refine sv rfl (opv_leq rfl rfl) ?_
  refine sv rfl (opv_mv rfl) ?_
  refine ssplit 7 rfl (fun hc => ?_) (fun hc => ?_)
  · replace h := ite_t hc h
    clear hc
    refine son rfl rfl rfl ?_
    refine sv rfl (opv_fieldAddr_lp fi24_1 rfl) ?_
    refine son rfl rfl rfl ?_
    refine sv rfl (opv_load1 ti22 rfl (.lp _ _ _ rfl) rfl) ?_
    refine son rfl rfl rfl ?_
    refine sv rfl (opv_len_sl si22 rfl) ?_
    refine son rfl rfl rfl ?_
    refine sv rfl (opv_leq rfl rfl) ?_
    refine sv rfl (opv_pick_t rfl rfl) ?_
    refine sv rfl (opv_mv rfl) ?_
    refine ssplit 13 rfl (fun hc => ?_) (fun hc => ?_)
    · replace h := ite_t hc h
      clear hc
      refine son rfl rfl rfl ?_
      refine sv rfl (opv_fieldAddr_lp fi24_2 rfl) ?_
      refine son rfl rfl rfl ?_
      refine sv rfl (opv_load1 ti4 rfl (.lp _ _ _ rfl) rfl) ?_
      refine son rfl rfl rfl ?_
      refine sv rfl (opv_not rfl) ?_
      refine son rfl rfl rfl ?_
      refine sv rfl (opv_mv rfl) ?_
      refine ssplit 17 rfl (fun hc => ?_) (fun hc => ?_)
      · replace h := ite_t hc h
        clear hc
        refine soff rfl rfl rfl rfl ?_
        refine soff rfl rfl rfl rfl ?_
        refine soff rfl rfl rfl rfl ?_
        refine soff rfl rfl rfl rfl ?_
        refine son rfl rfl rfl ?_
        refine sv rfl (opv_pick_t rfl rfl) ?_
        refine sv rfl (opv_pick_t rfl rfl) ?_
        refine sv rfl (opv_as rfl) ?_
        refine snil ?_
        refine cret ?_
        obtain rfl := Option.some.inj h
        refine ⟨Or.inr rfl, _, _, _, (resVs_cons (ResV.tmp _ _ rfl) resVs_nil), (pubA_id rfl), ?_⟩
        rfl
      · replace h := ite_f hc h
        clear hc
        refine son rfl rfl rfl ?_
        refine sv rfl (opv_fieldAddr_lp fi24_1 rfl) ?_
        refine son rfl rfl rfl ?_
        refine sv rfl (opv_load1 ti22 rfl (.lp _ _ _ rfl) rfl) ?_
        refine son rfl rfl rfl ?_
        refine sv rfl (opv_len_sl si22 rfl) ?_
        refine son rfl rfl rfl ?_
        refine sv rfl (opv_ieql rfl rfl) ?_
        refine son rfl rfl rfl ?_
        refine sv rfl (opv_pick_f rfl rfl) ?_
        refine sv rfl (opv_pick_t rfl rfl) ?_
        refine sv rfl (opv_as rfl) ?_
        refine snil ?_
        refine cret ?_
        obtain rfl := Option.some.inj h
        refine ⟨Or.inr rfl, _, _, _, (resVs_cons (ResV.tmp _ _ rfl) resVs_nil), (pubA_id rfl), ?_⟩
        rfl
    · replace h := ite_f hc h
      clear hc
      refine soff rfl rfl rfl rfl ?_
      refine soff rfl rfl rfl rfl ?_
      refine soff rfl rfl rfl rfl ?_
      refine soff rfl rfl rfl rfl ?_
      refine soffu rfl rfl rfl ?_
      refine soffu rfl rfl rfl ?_
      refine soffu rfl rfl rfl ?_
      refine soffu rfl rfl rfl ?_
      refine soff rfl rfl rfl rfl ?_
      refine sv rfl (opv_pick_f rfl rfl) ?_
      refine sv rfl (opv_as rfl) ?_
      refine snil ?_
      refine cret ?_
      obtain rfl := Option.some.inj h
      refine ⟨Or.inr rfl, _, _, _, (resVs_cons (ResV.tmp _ _ rfl) resVs_nil), (pubA_id rfl), ?_⟩
      rfl
  · replace h := ite_f hc h
    clear hc
    refine soff rfl rfl rfl rfl ?_
    refine soff rfl rfl rfl rfl ?_
    refine soff rfl rfl rfl rfl ?_
    refine soff rfl rfl rfl rfl ?_
    refine sv rfl (opv_pick_f rfl rfl) ?_
    refine sv rfl (opv_mv rfl) ?_
    refine soff rfl rfl rfl rfl ?_
    refine soff rfl rfl rfl rfl ?_
    refine soff rfl rfl rfl rfl ?_
    refine soff rfl rfl rfl rfl ?_
    refine soffu rfl rfl rfl ?_
    refine soffu rfl rfl rfl ?_
    refine soffu rfl rfl rfl ?_
    refine soffu rfl rfl rfl ?_
    refine soff rfl rfl rfl rfl ?_
    refine sv rfl (opv_pick_f rfl rfl) ?_
    refine sv rfl (opv_as rfl) ?_
    refine snil ?_
    refine cret ?_
    obtain rfl := Option.some.inj h
    refine ⟨Or.inr rfl, _, _, _, (resVs_cons (ResV.tmp _ _ rfl) resVs_nil), (pubA_id rfl), ?_⟩
    rfl

def m30_r06_Has (a0 : GApiRange) (a1 : List UInt8) : Option Bool :=
  (m24_r06_Cmp a1 a0.Lo).bind fun v1 => if (decide (0 ≤ v1)) then (if a0.Open then (some true) else ((m24_r06_Cmp a1 a0.Hi).bind fun v2 => some (decide (v2 < 0)))) else (some false)

set_option maxRecDepth 100000 in
theorem m30_r06_Has_c {a0 : GApiRange} {a1 : List UInt8} {r : Bool} (h : m30_r06_Has a0 a1 = some r) : CallsA Try.prog 30 [.agg [.sl a0.Lo.length (a0.Lo.flatMap eU8), .sl a0.Hi.length (a0.Hi.flatMap eU8), .b a0.Open], .one (.sl a1.length (a1.flatMap eU8))] (· = .s (.one (.b r))) := by
  unfold m30_r06_Has at h
  refine callsA_of Try.func30 rfl (nt := 21) rfl (Nat.le_of_ble_eq_true rfl) ?_
  intro w0 S0
  refine cseq ?_
  refine cregion ?_
  refine sbox rfl rfl ?_
  refine sv rfl (opv_as rfl) ?_
  refine snil ?_
  refine cseq ?_
  refine cregion ?_
  refine sv rfl (opv_mv rfl) ?_
  refine sv rfl (opv_fieldAddr_lp fi24_0 rfl) ?_
  refine sv rfl (opv_load1 ti22 rfl (.lp _ _ _ rfl) rfl) ?_
  obtain ⟨v1, hv1, h⟩ := bind_eq h
  refine scall1 rfl fn24 (opnds_cons rfl (opnds_cons rfl opnds_nil)) (pubA_id rfl) (m24_r06_Cmp_c hv1) ?_
  refine sv rfl (opv_geq rfl rfl) ?_
  refine sv rfl (opv_mv rfl) ?_
  refine ssplit 10 rfl (fun hc => ?_) (fun hc => ?_)
  · replace h := ite_t hc h
    clear hc
    refine son rfl rfl rfl ?_
    refine sv rfl (opv_fieldAddr_lp fi24_2 rfl) ?_
    refine son rfl rfl rfl ?_
    refine sv rfl (opv_load1 ti4 rfl (.lp _ _ _ rfl) rfl) ?_
    refine son rfl rfl rfl ?_
    refine sv rfl (opv_mv rfl) ?_
    refine ssplit 13 rfl (fun hc => ?_) (fun hc => ?_)
    · replace h := ite_t hc h
      clear hc
      refine soff rfl rfl rfl rfl ?_
      refine soff rfl rfl rfl rfl ?_
      refine soff rfl rfl rfl rfl ?_
      refine soff rfl rfl rfl rfl ?_
      refine soff rfl rfl rfl rfl ?_
      refine son rfl rfl rfl ?_
      refine sv rfl (opv_pick_t rfl rfl) ?_
      refine sv rfl (opv_pick_t rfl rfl) ?_
      refine sv rfl (opv_as rfl) ?_
      refine snil ?_
      refine cret ?_
      obtain rfl := Option.some.inj h
      refine ⟨Or.inr rfl, _, _, _, (resVs_cons (ResV.tmp _ _ rfl) resVs_nil), (pubA_id rfl), ?_⟩
      rfl
    · replace h := ite_f hc h
      clear hc
      refine son rfl rfl rfl ?_
      refine sv rfl (opv_mv rfl) ?_
      refine son rfl rfl rfl ?_
      refine sv rfl (opv_fieldAddr_lp fi24_1 rfl) ?_
      refine son rfl rfl rfl ?_
      refine sv rfl (opv_load1 ti22 rfl (.lp _ _ _ rfl) rfl) ?_
      refine son rfl rfl rfl ?_
      obtain ⟨v2, hv2, h⟩ := bind_eq h
      refine scall1 rfl fn24 (opnds_cons rfl (opnds_cons rfl opnds_nil)) (pubA_id rfl) (m24_r06_Cmp_c hv2) ?_
      refine son rfl rfl rfl ?_
      refine sv rfl (opv_lss rfl rfl) ?_
      refine son rfl rfl rfl ?_
      refine sv rfl (opv_pick_f rfl rfl) ?_
      refine sv rfl (opv_pick_t rfl rfl) ?_
      refine sv rfl (opv_as rfl) ?_
      refine snil ?_
      refine cret ?_
      obtain rfl := Option.some.inj h
      refine ⟨Or.inr rfl, _, _, _, (resVs_cons (ResV.tmp _ _ rfl) resVs_nil), (pubA_id rfl), ?_⟩
      rfl
  · replace h := ite_f hc h
    clear hc
    refine soff rfl rfl rfl rfl ?_
    refine soff rfl rfl rfl rfl ?_
    refine soff rfl rfl rfl rfl ?_
    refine soffu rfl rfl rfl ?_
    refine soffu rfl rfl rfl ?_
    refine soffu rfl rfl rfl ?_
    refine soffu rfl rfl rfl ?_
    refine soffu rfl rfl rfl ?_
    refine soff rfl rfl rfl rfl ?_
    refine sv rfl (opv_pick_f rfl rfl) ?_
    refine sv rfl (opv_as rfl) ?_
    refine snil ?_
    refine cret ?_
    obtain rfl := Option.some.inj h
    refine ⟨Or.inr rfl, _, _, _, (resVs_cons (ResV.tmp _ _ rfl) resVs_nil), (pubA_id rfl), ?_⟩
    rfl

def m33_keys_Sorted_k1 (b1 : Unit) : Option Bool :=
  some true

def m33_keys_Sorted_s2 (a0 : List (List UInt8)) (s2 : Int) : Option (LR (Int) (Unit) (Bool)) :=
  if (decide (s2 < (a0.length : Int))) then ((idx a0 (wI (s2 - 1))).bind fun u3 => (idx a0 s2).bind fun u4 => (m23_keys_Cmp u3 u4).bind fun v5 => if (decide (0 ≤ v5)) then (some (.ret false)) else (some (.cont (wI (s2 + 1))))) else (some (.brk ()))
def m33_keys_Sorted (a0 : List (List UInt8)) : Option Bool :=
  (iter (m33_keys_Sorted_s2 a0) fuel 1).bind fun x => match x with | .inl r => some r | .inr e6 => m33_keys_Sorted_k1 e6

set_option maxRecDepth 100000 in
theorem m33_keys_Sorted_c {a0 : List (List UInt8)} {r : Bool} (h : m33_keys_Sorted a0 = some r) : CallsA Try.prog 33 [.one (.sl a0.length (a0.flatMap (eL eU8)))] (· = .s (.one (.b r))) := by
  unfold m33_keys_Sorted at h
  refine callsA_of Try.func33 rfl (nt := 21) rfl (Nat.le_of_ble_eq_true rfl) ?_
  intro w0 S0
  refine cseq ?_
  refine cregion ?_
  refine sv rfl (opv_as rfl) ?_
  refine snil ?_
  refine cseq ?_
  refine cseq ?_
  refine cregion ?_
  refine sv rfl (opv_as rfl) ?_
  refine snil ?_
  refine cjoin (Unit) (fun b1 => []) (fun b1 => []) (fun b1 => m33_keys_Sorted_k1 b1 = some r) (fun _ _ => inbL_of rfl) (fun _ _ => blkinb_of rfl) (fun _ _ => Nat.le_of_ble_eq_true rfl) (fun b1 h => ?_) ?_
  · unfold m33_keys_Sorted_k1 at h
    refine cseq ?_
    refine cregion ?_
    refine sv rfl (opv_as rfl) ?_
    refine snil ?_
    refine cret ?_
    obtain rfl := Option.some.inj h
    refine ⟨Or.inr rfl, _, _, _, (resVs_cons (ResV.tmp _ _ rfl) resVs_nil), (pubA_id rfl), ?_⟩
    rfl
  · skip
    refine cblock ?_
    obtain ⟨x2, hx2, ho2⟩ := bind_eq h
    refine awc_loop (G := Nat × (Int)) (fun g => [(0, .s (.one (.sl a0.length (a0.flatMap (eL eU8))))), (3, .s (.one (.i .i64 g.2)))]) (fun g => []) (fun g => iter (m33_keys_Sorted_s2 a0) g.1 g.2 = some x2) (fun g => g.1) (fuel, 1) hx2 ⟨rfl, rfl, trivial⟩ [] rfl (fun _ _ => inbL_of rfl) (fun _ _ => blkinb_of rfl) (fun _ _ => Nat.le_of_ble_eq_true rfl) ?_
    clear hx2 h
    rintro ⟨n2, s2⟩ h
    obtain ⟨n2, y2, rfl, h, hk2⟩ := iter_eq h
    unfold m33_keys_Sorted_s2 at h
    refine cseq ?_
    refine cseq ?_
    refine cregion ?_
    refine sv rfl (opv_mv rfl) ?_
    refine sv rfl (opv_mv rfl) ?_
    refine sv rfl (opv_len_sl si25 rfl) ?_
    refine sv rfl (opv_lss rfl rfl) ?_
    refine snil ?_
    refine ccond rfl (fun hc => ?_) (fun hc => ?_)
    · replace h := ite_t hc h
      clear hc
      refine cskip ?_
      refine then_normal ?_
      refine cseq ?_
      refine cblock ?_
      refine cseq ?_
      refine cdraw mixed (by kernel_rfl) ?_
      refine dv rfl (opv_mv rfl) ?_
      refine dv rfl (opv_mv rfl) ?_
      refine dv rfl (opv_sub rfl rfl) ?_
      obtain ⟨u3, hu3, h⟩ := bind_eq h
      refine dv rfl (opv_ix (f := (eL eU8)) si25 (fun _ => rfl) rfl rfl rfl rfl hu3) ?_
      refine dv rfl (opv_load1 ti22 rfl (.cp _) rfl) ?_
      refine dv rfl (opv_mv rfl) ?_
      refine dv rfl (opv_mv rfl) ?_
      obtain ⟨u4, hu4, h⟩ := bind_eq h
      refine dv rfl (opv_ix (f := (eL eU8)) si25 (fun _ => rfl) rfl rfl rfl rfl hu4) ?_
      refine dv rfl (opv_load1 ti22 rfl (.cp _) rfl) ?_
      obtain ⟨v5, hv5, h⟩ := bind_eq h
      refine dd rfl (opD_call fn23 (opnds_cons rfl (opnds_cons rfl opnds_nil)) rfl (m23_keys_Cmp_c hv5)) ?_
      refine dv rfl (opv_geq rfl rfl) ?_
      refine dnil ?_
      refine then_normal ?_
      refine ccond rfl (fun hc => ?_) (fun hc => ?_)
      · replace h := ite_t hc h
        clear hc
        refine cseq ?_
        refine cregion ?_
        refine sv rfl (opv_as rfl) ?_
        refine snil ?_
        refine cret ?_
        refine block_ret ?_
        refine then_ret ?_
        refine then_ret ?_
        refine block_ret ?_
        refine then_ret ?_
        obtain rfl := Option.some.inj h
        obtain rfl : Sum.inl _ = x2 := hk2
        replace ho2 : some _ = some _ := ho2
        obtain rfl := Option.some.inj ho2
        refine ⟨Or.inr rfl, _, _, _, (resVs_cons (ResV.tmp _ _ rfl) resVs_nil), (pubA_id rfl), ?_⟩
        rfl
      · replace h := ite_f hc h
        clear hc
        refine cskip ?_
        refine block_normal ?_
        refine then_normal ?_
        refine cregion ?_
        refine sv rfl (opv_mv rfl) ?_
        refine sv rfl (opv_add rfl rfl) ?_
        refine sv rfl (opv_as rfl) ?_
        refine snil ?_
        obtain rfl := Option.some.inj h
        exact ⟨(n2, (wI (s2 + 1))), _, hk2, ⟨rfl, rfl, trivial⟩, rfl, Nat.lt_succ_self _⟩
    · replace h := ite_f hc h
      clear hc
      refine cexit ?_
      refine then_exit ?_
      refine then_exit ?_
      refine block_hit ?_
      refine then_normal ?_
      obtain rfl := Option.some.inj h
      obtain rfl : _ = x2 := hk2
      exact ⟨(), _, ho2, trivial, rfl⟩

def m34_r06_Sorted_k1 (b1 : Unit) : Option Bool :=
  some true

def m34_r06_Sorted_s2 (a0 : List (List UInt8)) (s2 : Int) : Option (LR (Int) (Unit) (Bool)) :=
  if (decide (s2 < (a0.length : Int))) then ((idx a0 (wI (s2 - 1))).bind fun u3 => (idx a0 s2).bind fun u4 => (m24_r06_Cmp u3 u4).bind fun v5 => if (decide (0 ≤ v5)) then (some (.ret false)) else (some (.cont (wI (s2 + 1))))) else (some (.brk ()))
def m34_r06_Sorted (a0 : List (List UInt8)) : Option Bool :=
  (iter (m34_r06_Sorted_s2 a0) fuel 1).bind fun x => match x with | .inl r => some r | .inr e6 => m34_r06_Sorted_k1 e6

set_option maxRecDepth 100000 in
theorem m34_r06_Sorted_c {a0 : List (List UInt8)} {r : Bool} (h : m34_r06_Sorted a0 = some r) : CallsA Try.prog 34 [.one (.sl a0.length (a0.flatMap (eL eU8)))] (· = .s (.one (.b r))) := by
  unfold m34_r06_Sorted at h
  refine callsA_of Try.func34 rfl (nt := 21) rfl (Nat.le_of_ble_eq_true rfl) ?_
  intro w0 S0
  refine cseq ?_
  refine cregion ?_
  refine sv rfl (opv_as rfl) ?_
  refine snil ?_
  refine cseq ?_
  refine cseq ?_
  refine cregion ?_
  refine sv rfl (opv_as rfl) ?_
  refine snil ?_
  refine cjoin (Unit) (fun b1 => []) (fun b1 => []) (fun b1 => m34_r06_Sorted_k1 b1 = some r) (fun _ _ => inbL_of rfl) (fun _ _ => blkinb_of rfl) (fun _ _ => Nat.le_of_ble_eq_true rfl) (fun b1 h => ?_) ?_
  · unfold m34_r06_Sorted_k1 at h
    refine cseq ?_
    refine cregion ?_
    refine sv rfl (opv_as rfl) ?_
    refine snil ?_
    refine cret ?_
    obtain rfl := Option.some.inj h
    refine ⟨Or.inr rfl, _, _, _, (resVs_cons (ResV.tmp _ _ rfl) resVs_nil), (pubA_id rfl), ?_⟩
    rfl
  · skip
    refine cblock ?_
    obtain ⟨x2, hx2, ho2⟩ := bind_eq h
    refine awc_loop (G := Nat × (Int)) (fun g => [(0, .s (.one (.sl a0.length (a0.flatMap (eL eU8))))), (3, .s (.one (.i .i64 g.2)))]) (fun g => []) (fun g => iter (m34_r06_Sorted_s2 a0) g.1 g.2 = some x2) (fun g => g.1) (fuel, 1) hx2 ⟨rfl, rfl, trivial⟩ [] rfl (fun _ _ => inbL_of rfl) (fun _ _ => blkinb_of rfl) (fun _ _ => Nat.le_of_ble_eq_true rfl) ?_
    clear hx2 h
    rintro ⟨n2, s2⟩ h
    obtain ⟨n2, y2, rfl, h, hk2⟩ := iter_eq h
    unfold m34_r06_Sorted_s2 at h
    refine cseq ?_
    refine cseq ?_
    refine cregion ?_
    refine sv rfl (opv_mv rfl) ?_
    refine sv rfl (opv_mv rfl) ?_
    refine sv rfl (opv_len_sl si25 rfl) ?_
    refine sv rfl (opv_lss rfl rfl) ?_
    refine snil ?_
    refine ccond rfl (fun hc => ?_) (fun hc => ?_)
    · replace h := ite_t hc h
      clear hc
      refine cskip ?_
      refine then_normal ?_
      refine cseq ?_
      refine cblock ?_
      refine cseq ?_
      refine cdraw mixed (by kernel_rfl) ?_
      refine dv rfl (opv_mv rfl) ?_
      refine dv rfl (opv_mv rfl) ?_
      refine dv rfl (opv_sub rfl rfl) ?_
      obtain ⟨u3, hu3, h⟩ := bind_eq h
      refine dv rfl (opv_ix (f := (eL eU8)) si25 (fun _ => rfl) rfl rfl rfl rfl hu3) ?_
      refine dv rfl (opv_load1 ti22 rfl (.cp _) rfl) ?_
      refine dv rfl (opv_mv rfl) ?_
      refine dv rfl (opv_mv rfl) ?_
      obtain ⟨u4, hu4, h⟩ := bind_eq h
      refine dv rfl (opv_ix (f := (eL eU8)) si25 (fun _ => rfl) rfl rfl rfl rfl hu4) ?_
      refine dv rfl (opv_load1 ti22 rfl (.cp _) rfl) ?_
      obtain ⟨v5, hv5, h⟩ := bind_eq h
      refine dd rfl (opD_call fn24 (opnds_cons rfl (opnds_cons rfl opnds_nil)) rfl (m24_r06_Cmp_c hv5)) ?_
      refine dv rfl (opv_geq rfl rfl) ?_
      refine dnil ?_
      refine then_normal ?_
      refine ccond rfl (fun hc => ?_) (fun hc => ?_)
      · replace h := ite_t hc h
        clear hc
        refine cseq ?_
        refine cregion ?_
        refine sv rfl (opv_as rfl) ?_
        refine snil ?_
        refine cret ?_
        refine block_ret ?_
        refine then_ret ?_
        refine then_ret ?_
        refine block_ret ?_
        refine then_ret ?_
        obtain rfl := Option.some.inj h
        obtain rfl : Sum.inl _ = x2 := hk2
        replace ho2 : some _ = some _ := ho2
        obtain rfl := Option.some.inj ho2
        refine ⟨Or.inr rfl, _, _, _, (resVs_cons (ResV.tmp _ _ rfl) resVs_nil), (pubA_id rfl), ?_⟩
        rfl
      · replace h := ite_f hc h
        clear hc
        refine cskip ?_
        refine block_normal ?_
        refine then_normal ?_
        refine cregion ?_
        refine sv rfl (opv_mv rfl) ?_
        refine sv rfl (opv_add rfl rfl) ?_
        refine sv rfl (opv_as rfl) ?_
        refine snil ?_
        obtain rfl := Option.some.inj h
        exact ⟨(n2, (wI (s2 + 1))), _, hk2, ⟨rfl, rfl, trivial⟩, rfl, Nat.lt_succ_self _⟩
    · replace h := ite_f hc h
      clear hc
      refine cexit ?_
      refine then_exit ?_
      refine then_exit ?_
      refine block_hit ?_
      refine then_normal ?_
      obtain rfl := Option.some.inj h
      obtain rfl : _ = x2 := hk2
      exact ⟨(), _, ho2, trivial, rfl⟩

def m3_l06_KeysIs_k7 (a0 : List UInt8) (a1 : List UInt8) (a2 : GApiRange) (a4 : List (List UInt8)) (v1 : Bool) (b7 : Unit) : Option Bool :=
  if v1 then ((m23_keys_Cmp a0 a1).bind fun v8 => (m24_r06_Cmp a0 a1).bind fun v9 => if (decide (v8 = v9)) then ((m25_keys_Sane a0).bind fun v10 => (m26_r06_Sane a0).bind fun v11 => if (v10 == v11) then ((m27_keys_SaneRange a2).bind fun v12 => (m28_r06_SaneRange a2).bind fun v13 => if (v12 == v13) then ((m29_keys_Has a2 a0).bind fun v14 => (m30_r06_Has a2 a0).bind fun v15 => if (v14 == v15) then ((m31_keys_Empty a2).bind fun v16 => (m32_r06_Empty a2).bind fun v17 => if (v16 == v17) then ((m33_keys_Sorted a4).bind fun v18 => (m34_r06_Sorted a4).bind fun v19 => some (v18 == v19)) else (some false)) else (some false)) else (some false)) else (some false)) else (some false)) else (some false)

def m3_l06_KeysIs_k2 (a0 : List UInt8) (a1 : List UInt8) (a2 : GApiRange) (a3 : GApiRange) (a4 : List (List UInt8)) (v1 : Bool) (b2 : Unit) : Option Bool :=
  (m13_keys_Meet a2 a3).bind fun v3 => (m14_r06_Meet a2 a3).bind fun v4 => (m15_keys_Find a4 a0).bind fun v5 => (m16_r06_Find a4 a0).bind fun v6 => (m17_r06_SameRange v3.1 v4.1).bind fun v20 => if (!v20) then (some false) else (if (!(v3.2 == v4.2)) then (some false) else (if (!decide (v5.1 = v6.1)) then (some false) else (if (!(v5.2 == v6.2)) then (some false) else ((m19_keys_Insert a4 a0).bind fun v21 => (m20_r06_Insert a4 a0).bind fun v22 => (m18_r03_Lists v21 v22).bind fun v23 => if (!v23) then (some false) else ((m21_keys_One a0).bind fun v24 => (m22_r06_One a0).bind fun v25 => (m17_r06_SameRange v24 v25).bind fun v26 => if (!v26) then (some false) else (m3_l06_KeysIs_k7 a0 a1 a2 a4 v1 ()))))))
def m3_l06_KeysIs (a0 : List UInt8) (a1 : List UInt8) (a2 : GApiRange) (a3 : GApiRange) (a4 : List (List UInt8)) : Option Bool :=
  (m10_l06_awake).bind fun v1 => if (decide (100 < (a0.length : Int))) then (some v1) else (if (decide (100 < (a1.length : Int))) then (some v1) else ((m11_r06_Short a2).bind fun v27 => if (!v27) then (some v1) else ((m11_r06_Short a3).bind fun v28 => if (!v28) then (some v1) else ((m12_r03_Few a4 50).bind fun v29 => if (!v29) then (some v1) else (m3_l06_KeysIs_k2 a0 a1 a2 a3 a4 v1 ())))))

set_option maxRecDepth 100000 in
theorem m3_l06_KeysIs_c {a0 : List UInt8} {a1 : List UInt8} {a2 : GApiRange} {a3 : GApiRange} {a4 : List (List UInt8)} {r : Bool} (h : m3_l06_KeysIs a0 a1 a2 a3 a4 = some r) : CallsA Try.prog 3 [.one (.sl a0.length (a0.flatMap eU8)), .one (.sl a1.length (a1.flatMap eU8)), .agg [.sl a2.Lo.length (a2.Lo.flatMap eU8), .sl a2.Hi.length (a2.Hi.flatMap eU8), .b a2.Open], .agg [.sl a3.Lo.length (a3.Lo.flatMap eU8), .sl a3.Hi.length (a3.Hi.flatMap eU8), .b a3.Open], .one (.sl a4.length (a4.flatMap (eL eU8)))] (· = .s (.one (.b r))) := by
  unfold m3_l06_KeysIs at h
  refine callsA_of Try.func3 rfl (nt := 153) rfl (Nat.le_of_ble_eq_true rfl) ?_
  intro w0 S0
  refine cseq ?_
  refine cregion ?_
  refine sbox rfl rfl ?_
  refine sbox rfl rfl ?_
  refine sv rfl (opv_as rfl) ?_
  refine snil ?_
  refine cseq ?_
  refine cregion ?_
  obtain ⟨v1, hv1, h⟩ := bind_eq h
  refine scall1 rfl fn10 opnds_nil (pubA_id rfl) (m10_l06_awake_c hv1) ?_
  refine sv rfl (opv_as rfl) ?_
  refine snil ?_
  refine cseq ?_
  refine cseq ?_
  refine cjoin3 (Unit) (fun b2 => [(0, .s (.one (.sl a0.length (a0.flatMap eU8)))), (1, .s (.one (.sl a1.length (a1.flatMap eU8)))), (4, .s (.one (.sl a4.length (a4.flatMap (eL eU8))))), (7, .s (.one (.lp 0 0))), (8, .s (.one (.lp 1 0))), (11, .s (.one (.b v1)))]) (fun b2 => [.box [.sl a2.Lo.length (a2.Lo.flatMap eU8), .sl a2.Hi.length (a2.Hi.flatMap eU8), .b a2.Open], .box [.sl a3.Lo.length (a3.Lo.flatMap eU8), .sl a3.Hi.length (a3.Hi.flatMap eU8), .b a3.Open]]) (fun b2 => m3_l06_KeysIs_k2 a0 a1 a2 a3 a4 v1 b2 = some r) (fun _ _ => inbL_of rfl) (fun _ _ => blkinb_of rfl) (fun _ _ => Nat.le_of_ble_eq_true rfl) (fun b2 h => ?_) ?_
  · unfold m3_l06_KeysIs_k2 at h
    refine cseq ?_
    refine cregion ?_
    refine sv rfl (opv_loadN ti24 rfl (.lp _ _ _ rfl) (Nat.le_of_ble_eq_true rfl)) ?_
    refine sv rfl (opv_loadN ti24 rfl (.lp _ _ _ rfl) (Nat.le_of_ble_eq_true rfl)) ?_
    obtain ⟨v3, hv3, h⟩ := bind_eq h
    refine scall1 rfl fn13 (opnds_cons rfl (opnds_cons rfl opnds_nil)) (pubA_id rfl) (m13_keys_Meet_c hv3) ?_
    refine sv rfl (opv_mvt rfl) ?_
    refine sv rfl (opv_extract rfl rfl) ?_
    refine sv rfl (opv_extract rfl rfl) ?_
    refine salloc rfl zi24 ?_
    refine sstore sz24 rfl rfl rfl rfl (Nat.le_of_ble_eq_true rfl) ?_
    refine smem [.box [.sl a2.Lo.length (a2.Lo.flatMap eU8), .sl a2.Hi.length (a2.Hi.flatMap eU8), .b a2.Open], .box [.sl a3.Lo.length (a3.Lo.flatMap eU8), .sl a3.Hi.length (a3.Hi.flatMap eU8), .b a3.Open], .box [.sl v3.1.Lo.length (v3.1.Lo.flatMap eU8), .sl v3.1.Hi.length (v3.1.Hi.flatMap eU8), .b v3.1.Open]] rfl ?_
    refine sv rfl (opv_as rfl) ?_
    refine snil ?_
    refine cseq ?_
    refine cregion ?_
    refine sv rfl (opv_loadN ti24 rfl (.lp _ _ _ rfl) (Nat.le_of_ble_eq_true rfl)) ?_
    refine sv rfl (opv_loadN ti24 rfl (.lp _ _ _ rfl) (Nat.le_of_ble_eq_true rfl)) ?_
    obtain ⟨v4, hv4, h⟩ := bind_eq h
    refine scall1 rfl fn14 (opnds_cons rfl (opnds_cons rfl opnds_nil)) (pubA_id rfl) (m14_r06_Meet_c hv4) ?_
    refine sv rfl (opv_mvt rfl) ?_
    refine sv rfl (opv_extract rfl rfl) ?_
    refine sv rfl (opv_extract rfl rfl) ?_
    refine salloc rfl zi24 ?_
    refine sstore sz24 rfl rfl rfl rfl (Nat.le_of_ble_eq_true rfl) ?_
    refine smem [.box [.sl a2.Lo.length (a2.Lo.flatMap eU8), .sl a2.Hi.length (a2.Hi.flatMap eU8), .b a2.Open], .box [.sl a3.Lo.length (a3.Lo.flatMap eU8), .sl a3.Hi.length (a3.Hi.flatMap eU8), .b a3.Open], .box [.sl v3.1.Lo.length (v3.1.Lo.flatMap eU8), .sl v3.1.Hi.length (v3.1.Hi.flatMap eU8), .b v3.1.Open], .box [.sl v4.1.Lo.length (v4.1.Lo.flatMap eU8), .sl v4.1.Hi.length (v4.1.Hi.flatMap eU8), .b v4.1.Open]] rfl ?_
    refine sv rfl (opv_as rfl) ?_
    refine snil ?_
    refine cseq ?_
    refine cregion ?_
    refine sv rfl (opv_mv rfl) ?_
    refine sv rfl (opv_mv rfl) ?_
    obtain ⟨v5, hv5, h⟩ := bind_eq h
    refine scall1 rfl fn15 (opnds_cons rfl (opnds_cons rfl opnds_nil)) (pubA_id rfl) (m15_keys_Find_c hv5) ?_
    refine sv rfl (opv_mvt rfl) ?_
    refine sv rfl (opv_extract rfl rfl) ?_
    refine sv rfl (opv_extract rfl rfl) ?_
    refine sv rfl (opv_as rfl) ?_
    refine sv rfl (opv_as rfl) ?_
    refine snil ?_
    refine cseq ?_
    refine cregion ?_
    refine sv rfl (opv_mv rfl) ?_
    refine sv rfl (opv_mv rfl) ?_
    obtain ⟨v6, hv6, h⟩ := bind_eq h
    refine scall1 rfl fn16 (opnds_cons rfl (opnds_cons rfl opnds_nil)) (pubA_id rfl) (m16_r06_Find_c hv6) ?_
    refine sv rfl (opv_mvt rfl) ?_
    refine sv rfl (opv_extract rfl rfl) ?_
    refine sv rfl (opv_extract rfl rfl) ?_
    refine sv rfl (opv_as rfl) ?_
    refine sv rfl (opv_as rfl) ?_
    refine snil ?_
    refine cseq ?_
    refine cseq ?_
    refine cjoin3 (Unit) (fun b7 => [(0, .s (.one (.sl a0.length (a0.flatMap eU8)))), (1, .s (.one (.sl a1.length (a1.flatMap eU8)))), (4, .s (.one (.sl a4.length (a4.flatMap (eL eU8))))), (7, .s (.one (.lp 0 0))), (11, .s (.one (.b v1)))]) (fun b7 => [.box [.sl a2.Lo.length (a2.Lo.flatMap eU8), .sl a2.Hi.length (a2.Hi.flatMap eU8), .b a2.Open], .box [.sl a3.Lo.length (a3.Lo.flatMap eU8), .sl a3.Hi.length (a3.Hi.flatMap eU8), .b a3.Open], .box [.sl v3.1.Lo.length (v3.1.Lo.flatMap eU8), .sl v3.1.Hi.length (v3.1.Hi.flatMap eU8), .b v3.1.Open], .box [.sl v4.1.Lo.length (v4.1.Lo.flatMap eU8), .sl v4.1.Hi.length (v4.1.Hi.flatMap eU8), .b v4.1.Open]]) (fun b7 => m3_l06_KeysIs_k7 a0 a1 a2 a4 v1 b7 = some r) (fun _ _ => inbL_of rfl) (fun _ _ => blkinb_of rfl) (fun _ _ => Nat.le_of_ble_eq_true rfl) (fun b7 h => ?_) ?_
    · unfold m3_l06_KeysIs_k7 at h
      refine cseq ?_
      refine cdraw mixed (by kernel_rfl) ?_
      refine dv rfl (opv_mv rfl) ?_
      refine dv rfl (opv_mv rfl) ?_
      refine dsplit 107 rfl (fun hc => ?_) (fun hc => ?_)
      · replace h := ite_t hc h
        clear hc
        refine dvg rfl rfl rfl (opv_mv rfl) ?_
        refine dvg rfl rfl rfl (opv_mv rfl) ?_
        obtain ⟨v8, hv8, h⟩ := bind_eq h
        refine ddg rfl rfl rfl (opD_call fn23 (opnds_cons rfl (opnds_cons rfl opnds_nil)) rfl (m23_keys_Cmp_c hv8)) ?_
        refine dvg rfl rfl rfl (opv_mv rfl) ?_
        refine dvg rfl rfl rfl (opv_mv rfl) ?_
        obtain ⟨v9, hv9, h⟩ := bind_eq h
        refine ddg rfl rfl rfl (opD_call fn24 (opnds_cons rfl (opnds_cons rfl opnds_nil)) rfl (m24_r06_Cmp_c hv9)) ?_
        refine dvg rfl rfl rfl (opv_ieql rfl rfl) ?_
        refine dv rfl (opv_pick_t rfl rfl) ?_
        refine dv rfl (opv_mv rfl) ?_
        refine dsplit 116 rfl (fun hc => ?_) (fun hc => ?_)
        · replace h := ite_t hc h
          clear hc
          refine dvg rfl rfl rfl (opv_mv rfl) ?_
          obtain ⟨v10, hv10, h⟩ := bind_eq h
          refine ddg rfl rfl rfl (opD_call fn25 (opnds_cons rfl opnds_nil) rfl (m25_keys_Sane_c hv10)) ?_
          refine dvg rfl rfl rfl (opv_mv rfl) ?_
          obtain ⟨v11, hv11, h⟩ := bind_eq h
          refine ddg rfl rfl rfl (opD_call fn26 (opnds_cons rfl opnds_nil) rfl (m26_r06_Sane_c hv11)) ?_
          refine dvg rfl rfl rfl (opv_beql Try.underlying4 rfl rfl) ?_
          refine dv rfl (opv_pick_t rfl rfl) ?_
          refine dv rfl (opv_mv rfl) ?_
          refine dsplit 123 rfl (fun hc => ?_) (fun hc => ?_)
          · replace h := ite_t hc h
            clear hc
            refine dvg rfl rfl rfl (opv_loadN ti24 rfl (.lp _ _ _ rfl) (Nat.le_of_ble_eq_true rfl)) ?_
            obtain ⟨v12, hv12, h⟩ := bind_eq h
            refine ddg rfl rfl rfl (opD_call fn27 (opnds_cons rfl opnds_nil) rfl (m27_keys_SaneRange_c hv12)) ?_
            refine dvg rfl rfl rfl (opv_loadN ti24 rfl (.lp _ _ _ rfl) (Nat.le_of_ble_eq_true rfl)) ?_
            obtain ⟨v13, hv13, h⟩ := bind_eq h
            refine ddg rfl rfl rfl (opD_call fn28 (opnds_cons rfl opnds_nil) rfl (m28_r06_SaneRange_c hv13)) ?_
            refine dvg rfl rfl rfl (opv_beql Try.underlying4 rfl rfl) ?_
            refine dv rfl (opv_pick_t rfl rfl) ?_
            refine dv rfl (opv_mv rfl) ?_
            refine dsplit 130 rfl (fun hc => ?_) (fun hc => ?_)
            · replace h := ite_t hc h
              clear hc
              refine dvg rfl rfl rfl (opv_loadN ti24 rfl (.lp _ _ _ rfl) (Nat.le_of_ble_eq_true rfl)) ?_
              refine dvg rfl rfl rfl (opv_mv rfl) ?_
              obtain ⟨v14, hv14, h⟩ := bind_eq h
              refine ddg rfl rfl rfl (opD_call fn29 (opnds_cons rfl (opnds_cons rfl opnds_nil)) rfl (m29_keys_Has_c hv14)) ?_
              refine dvg rfl rfl rfl (opv_loadN ti24 rfl (.lp _ _ _ rfl) (Nat.le_of_ble_eq_true rfl)) ?_
              refine dvg rfl rfl rfl (opv_mv rfl) ?_
              obtain ⟨v15, hv15, h⟩ := bind_eq h
              refine ddg rfl rfl rfl (opD_call fn30 (opnds_cons rfl (opnds_cons rfl opnds_nil)) rfl (m30_r06_Has_c hv15)) ?_
              refine dvg rfl rfl rfl (opv_beql Try.underlying4 rfl rfl) ?_
              refine dv rfl (opv_pick_t rfl rfl) ?_
              refine dv rfl (opv_mv rfl) ?_
              refine dsplit 139 rfl (fun hc => ?_) (fun hc => ?_)
              · replace h := ite_t hc h
                clear hc
                refine dvg rfl rfl rfl (opv_loadN ti24 rfl (.lp _ _ _ rfl) (Nat.le_of_ble_eq_true rfl)) ?_
                obtain ⟨v16, hv16, h⟩ := bind_eq h
                refine ddg rfl rfl rfl (opD_call fn31 (opnds_cons rfl opnds_nil) rfl (m31_keys_Empty_c hv16)) ?_
                refine dvg rfl rfl rfl (opv_loadN ti24 rfl (.lp _ _ _ rfl) (Nat.le_of_ble_eq_true rfl)) ?_
                obtain ⟨v17, hv17, h⟩ := bind_eq h
                refine ddg rfl rfl rfl (opD_call fn32 (opnds_cons rfl opnds_nil) rfl (m32_r06_Empty_c hv17)) ?_
                refine dvg rfl rfl rfl (opv_beql Try.underlying4 rfl rfl) ?_
                refine dv rfl (opv_pick_t rfl rfl) ?_
                refine dv rfl (opv_mv rfl) ?_
                refine dsplit 146 rfl (fun hc => ?_) (fun hc => ?_)
                · replace h := ite_t hc h
                  clear hc
                  refine dvg rfl rfl rfl (opv_mv rfl) ?_
                  obtain ⟨v18, hv18, h⟩ := bind_eq h
                  refine ddg rfl rfl rfl (opD_call fn33 (opnds_cons rfl opnds_nil) rfl (m33_keys_Sorted_c hv18)) ?_
                  refine dvg rfl rfl rfl (opv_mv rfl) ?_
                  obtain ⟨v19, hv19, h⟩ := bind_eq h
                  refine ddg rfl rfl rfl (opD_call fn34 (opnds_cons rfl opnds_nil) rfl (m34_r06_Sorted_c hv19)) ?_
                  refine dvg rfl rfl rfl (opv_beql Try.underlying4 rfl rfl) ?_
                  refine dv rfl (opv_pick_t rfl rfl) ?_
                  refine dv rfl (opv_as rfl) ?_
                  refine dnil ?_
                  refine then_normal ?_
                  refine cret ?_
                  obtain rfl := Option.some.inj h
                  refine ⟨Or.inr rfl, _, _, _, (resVs_cons (ResV.tmp _ _ rfl) resVs_nil), (pubA_id rfl), ?_⟩
                  rfl
                · replace h := ite_f hc h
                  clear hc
                  refine doff rfl rfl rfl rfl ?_
                  refine doff rfl rfl rfl rfl ?_
                  refine doff rfl rfl rfl rfl ?_
                  refine doff rfl rfl rfl rfl ?_
                  refine doff rfl rfl rfl rfl ?_
                  refine dv rfl (opv_pick_f rfl rfl) ?_
                  refine dv rfl (opv_as rfl) ?_
                  refine dnil ?_
                  refine then_normal ?_
                  refine cret ?_
                  obtain rfl := Option.some.inj h
                  refine ⟨Or.inr rfl, _, _, _, (resVs_cons (ResV.tmp _ _ rfl) resVs_nil), (pubA_id rfl), ?_⟩
                  rfl
              · replace h := ite_f hc h
                clear hc
                refine doff rfl rfl rfl rfl ?_
                refine doff rfl rfl rfl rfl ?_
                refine doff rfl rfl rfl rfl ?_
                refine doff rfl rfl rfl rfl ?_
                refine doff rfl rfl rfl rfl ?_
                refine dv rfl (opv_pick_f rfl rfl) ?_
                refine dv rfl (opv_mv rfl) ?_
                refine doff rfl rfl rfl rfl ?_
                refine doff rfl rfl rfl rfl ?_
                refine doff rfl rfl rfl rfl ?_
                refine doff rfl rfl rfl rfl ?_
                refine doff rfl rfl rfl rfl ?_
                refine dv rfl (opv_pick_f rfl rfl) ?_
                refine dv rfl (opv_as rfl) ?_
                refine dnil ?_
                refine then_normal ?_
                refine cret ?_
                obtain rfl := Option.some.inj h
                refine ⟨Or.inr rfl, _, _, _, (resVs_cons (ResV.tmp _ _ rfl) resVs_nil), (pubA_id rfl), ?_⟩
                rfl
            · replace h := ite_f hc h
              clear hc
              refine doff rfl rfl rfl rfl ?_
              refine doff rfl rfl rfl rfl ?_
              refine doff rfl rfl rfl rfl ?_
              refine doff rfl rfl rfl rfl ?_
              refine doff rfl rfl rfl rfl ?_
              refine doff rfl rfl rfl rfl ?_
              refine doff rfl rfl rfl rfl ?_
              refine dv rfl (opv_pick_f rfl rfl) ?_
              refine dv rfl (opv_mv rfl) ?_
              refine doff rfl rfl rfl rfl ?_
              refine doff rfl rfl rfl rfl ?_
              refine doff rfl rfl rfl rfl ?_
              refine doff rfl rfl rfl rfl ?_
              refine doff rfl rfl rfl rfl ?_
              refine dv rfl (opv_pick_f rfl rfl) ?_
              refine dv rfl (opv_mv rfl) ?_
              refine doff rfl rfl rfl rfl ?_
              refine doff rfl rfl rfl rfl ?_
              refine doff rfl rfl rfl rfl ?_
              refine doff rfl rfl rfl rfl ?_
              refine doff rfl rfl rfl rfl ?_
              refine dv rfl (opv_pick_f rfl rfl) ?_
              refine dv rfl (opv_as rfl) ?_
              refine dnil ?_
              refine then_normal ?_
              refine cret ?_
              obtain rfl := Option.some.inj h
              refine ⟨Or.inr rfl, _, _, _, (resVs_cons (ResV.tmp _ _ rfl) resVs_nil), (pubA_id rfl), ?_⟩
              rfl
          · replace h := ite_f hc h
            clear hc
            refine doff rfl rfl rfl rfl ?_
            refine doff rfl rfl rfl rfl ?_
            refine doff rfl rfl rfl rfl ?_
            refine doff rfl rfl rfl rfl ?_
            refine doff rfl rfl rfl rfl ?_
            refine dv rfl (opv_pick_f rfl rfl) ?_
            refine dv rfl (opv_mv rfl) ?_
            refine doff rfl rfl rfl rfl ?_
            refine doff rfl rfl rfl rfl ?_
            refine doff rfl rfl rfl rfl ?_
            refine doff rfl rfl rfl rfl ?_
            refine doff rfl rfl rfl rfl ?_
            refine doff rfl rfl rfl rfl ?_
            refine doff rfl rfl rfl rfl ?_
            refine dv rfl (opv_pick_f rfl rfl) ?_
            refine dv rfl (opv_mv rfl) ?_
            refine doff rfl rfl rfl rfl ?_
            refine doff rfl rfl rfl rfl ?_
            refine doff rfl rfl rfl rfl ?_
            refine doff rfl rfl rfl rfl ?_
            refine doff rfl rfl rfl rfl ?_
            refine dv rfl (opv_pick_f rfl rfl) ?_
            refine dv rfl (opv_mv rfl) ?_
            refine doff rfl rfl rfl rfl ?_
            refine doff rfl rfl rfl rfl ?_
            refine doff rfl rfl rfl rfl ?_
            refine doff rfl rfl rfl rfl ?_
            refine doff rfl rfl rfl rfl ?_
            refine dv rfl (opv_pick_f rfl rfl) ?_
            refine dv rfl (opv_as rfl) ?_
            refine dnil ?_
            refine then_normal ?_
            refine cret ?_
            obtain rfl := Option.some.inj h
            refine ⟨Or.inr rfl, _, _, _, (resVs_cons (ResV.tmp _ _ rfl) resVs_nil), (pubA_id rfl), ?_⟩
            rfl
        · replace h := ite_f hc h
          clear hc
          refine doff rfl rfl rfl rfl ?_
          refine doff rfl rfl rfl rfl ?_
          refine doff rfl rfl rfl rfl ?_
          refine doff rfl rfl rfl rfl ?_
          refine doff rfl rfl rfl rfl ?_
          refine dv rfl (opv_pick_f rfl rfl) ?_
          refine dv rfl (opv_mv rfl) ?_
          refine doff rfl rfl rfl rfl ?_
          refine doff rfl rfl rfl rfl ?_
          refine doff rfl rfl rfl rfl ?_
          refine doff rfl rfl rfl rfl ?_
          refine doff rfl rfl rfl rfl ?_
          refine dv rfl (opv_pick_f rfl rfl) ?_
          refine dv rfl (opv_mv rfl) ?_
          refine doff rfl rfl rfl rfl ?_
          refine doff rfl rfl rfl rfl ?_
          refine doff rfl rfl rfl rfl ?_
          refine doff rfl rfl rfl rfl ?_
          refine doff rfl rfl rfl rfl ?_
          refine doff rfl rfl rfl rfl ?_
          refine doff rfl rfl rfl rfl ?_
          refine dv rfl (opv_pick_f rfl rfl) ?_
          refine dv rfl (opv_mv rfl) ?_
          refine doff rfl rfl rfl rfl ?_
          refine doff rfl rfl rfl rfl ?_
          refine doff rfl rfl rfl rfl ?_
          refine doff rfl rfl rfl rfl ?_
          refine doff rfl rfl rfl rfl ?_
          refine dv rfl (opv_pick_f rfl rfl) ?_
          refine dv rfl (opv_mv rfl) ?_
          refine doff rfl rfl rfl rfl ?_
          refine doff rfl rfl rfl rfl ?_
          refine doff rfl rfl rfl rfl ?_
          refine doff rfl rfl rfl rfl ?_
          refine doff rfl rfl rfl rfl ?_
          refine dv rfl (opv_pick_f rfl rfl) ?_
          refine dv rfl (opv_as rfl) ?_
          refine dnil ?_
          refine then_normal ?_
          refine cret ?_
          obtain rfl := Option.some.inj h
          refine ⟨Or.inr rfl, _, _, _, (resVs_cons (ResV.tmp _ _ rfl) resVs_nil), (pubA_id rfl), ?_⟩
          rfl
      · replace h := ite_f hc h
        clear hc
        refine doff rfl rfl rfl rfl ?_
        refine doff rfl rfl rfl rfl ?_
        refine doff rfl rfl rfl rfl ?_
        refine doff rfl rfl rfl rfl ?_
        refine doff rfl rfl rfl rfl ?_
        refine doff rfl rfl rfl rfl ?_
        refine doff rfl rfl rfl rfl ?_
        refine dv rfl (opv_pick_f rfl rfl) ?_
        refine dv rfl (opv_mv rfl) ?_
        refine doff rfl rfl rfl rfl ?_
        refine doff rfl rfl rfl rfl ?_
        refine doff rfl rfl rfl rfl ?_
        refine doff rfl rfl rfl rfl ?_
        refine doff rfl rfl rfl rfl ?_
        refine dv rfl (opv_pick_f rfl rfl) ?_
        refine dv rfl (opv_mv rfl) ?_
        refine doff rfl rfl rfl rfl ?_
        refine doff rfl rfl rfl rfl ?_
        refine doff rfl rfl rfl rfl ?_
        refine doff rfl rfl rfl rfl ?_
        refine doff rfl rfl rfl rfl ?_
        refine dv rfl (opv_pick_f rfl rfl) ?_
        refine dv rfl (opv_mv rfl) ?_
        refine doff rfl rfl rfl rfl ?_
        refine doff rfl rfl rfl rfl ?_
        refine doff rfl rfl rfl rfl ?_
        refine doff rfl rfl rfl rfl ?_
        refine doff rfl rfl rfl rfl ?_
        refine doff rfl rfl rfl rfl ?_
        refine doff rfl rfl rfl rfl ?_
        refine dv rfl (opv_pick_f rfl rfl) ?_
        refine dv rfl (opv_mv rfl) ?_
        refine doff rfl rfl rfl rfl ?_
        refine doff rfl rfl rfl rfl ?_
        refine doff rfl rfl rfl rfl ?_
        refine doff rfl rfl rfl rfl ?_
        refine doff rfl rfl rfl rfl ?_
        refine dv rfl (opv_pick_f rfl rfl) ?_
        refine dv rfl (opv_mv rfl) ?_
        refine doff rfl rfl rfl rfl ?_
        refine doff rfl rfl rfl rfl ?_
        refine doff rfl rfl rfl rfl ?_
        refine doff rfl rfl rfl rfl ?_
        refine doff rfl rfl rfl rfl ?_
        refine dv rfl (opv_pick_f rfl rfl) ?_
        refine dv rfl (opv_as rfl) ?_
        refine dnil ?_
        refine then_normal ?_
        refine cret ?_
        obtain rfl := Option.some.inj h
        refine ⟨Or.inr rfl, _, _, _, (resVs_cons (ResV.tmp _ _ rfl) resVs_nil), (pubA_id rfl), ?_⟩
        rfl
    · skip
      refine cregion ?_
      refine sv rfl (opv_loadN ti24 rfl (.lp _ _ _ rfl) (Nat.le_of_ble_eq_true rfl)) ?_
      refine sv rfl (opv_loadN ti24 rfl (.lp _ _ _ rfl) (Nat.le_of_ble_eq_true rfl)) ?_
      obtain ⟨v20, hv20, h⟩ := bind_eq h
      refine scall1 rfl fn17 (opnds_cons rfl (opnds_cons rfl opnds_nil)) (pubA_id rfl) (m17_r06_SameRange_c hv20) ?_
      refine sv rfl (opv_not rfl) ?_
      refine sv rfl (opv_mv rfl) ?_
      refine ssplit 73 rfl (fun hc => ?_) (fun hc => ?_)
      · replace h := ite_t hc h
        clear hc
        refine soff rfl rfl rfl rfl ?_
        refine soff rfl rfl rfl rfl ?_
        refine soff rfl rfl rfl rfl ?_
        refine sv rfl (opv_pick_t rfl rfl) ?_
        refine sv rfl (opv_mv rfl) ?_
        refine soff rfl rfl rfl rfl ?_
        refine soff rfl rfl rfl rfl ?_
        refine soff rfl rfl rfl rfl ?_
        refine sv rfl (opv_pick_t rfl rfl) ?_
        refine sv rfl (opv_mv rfl) ?_
        refine soff rfl rfl rfl rfl ?_
        refine soff rfl rfl rfl rfl ?_
        refine soff rfl rfl rfl rfl ?_
        refine sv rfl (opv_pick_t rfl rfl) ?_
        refine sv rfl (opv_mv rfl) ?_
        refine soff rfl rfl rfl rfl ?_
        refine soff rfl rfl rfl rfl ?_
        refine soff rfl rfl rfl rfl ?_
        refine soff rfl rfl rfl rfl ?_
        refine soff rfl rfl rfl rfl ?_
        refine soff rfl rfl rfl rfl ?_
        refine soff rfl rfl rfl rfl ?_
        refine soff rfl rfl rfl rfl ?_
        refine sv rfl (opv_pick_t rfl rfl) ?_
        refine sv rfl (opv_mv rfl) ?_
        refine soff rfl rfl rfl rfl ?_
        refine soff rfl rfl rfl rfl ?_
        refine soff rfl rfl rfl rfl ?_
        refine soff rfl rfl rfl rfl ?_
        refine soff rfl rfl rfl rfl ?_
        refine soff rfl rfl rfl rfl ?_
        refine sv rfl (opv_pick_t rfl rfl) ?_
        refine snil ?_
        refine ccond rfl (fun _ => ?_) (fun hx => Bool.noConfusion hx)
        refine cseq ?_
        refine cregion ?_
        refine sv rfl (opv_as rfl) ?_
        refine snil ?_
        refine cret ?_
        refine then_ret ?_
        obtain rfl := Option.some.inj h
        refine ⟨Or.inr rfl, _, _, _, (resVs_cons (ResV.tmp _ _ rfl) resVs_nil), (pubA_id rfl), ?_⟩
        rfl
      · replace h := ite_f hc h
        clear hc
        refine son rfl rfl rfl ?_
        refine sv rfl (opv_mv rfl) ?_
        refine son rfl rfl rfl ?_
        refine sv rfl (opv_mv rfl) ?_
        refine son rfl rfl rfl ?_
        refine sv rfl (opv_bneq Try.underlying4 rfl rfl) ?_
        refine sv rfl (opv_pick_f rfl rfl) ?_
        refine sv rfl (opv_mv rfl) ?_
        refine ssplit 78 rfl (fun hc => ?_) (fun hc => ?_)
        · replace h := ite_t hc h
          clear hc
          refine soff rfl rfl rfl rfl ?_
          refine soff rfl rfl rfl rfl ?_
          refine soff rfl rfl rfl rfl ?_
          refine sv rfl (opv_pick_t rfl rfl) ?_
          refine sv rfl (opv_mv rfl) ?_
          refine soff rfl rfl rfl rfl ?_
          refine soff rfl rfl rfl rfl ?_
          refine soff rfl rfl rfl rfl ?_
          refine sv rfl (opv_pick_t rfl rfl) ?_
          refine sv rfl (opv_mv rfl) ?_
          refine soff rfl rfl rfl rfl ?_
          refine soff rfl rfl rfl rfl ?_
          refine soff rfl rfl rfl rfl ?_
          refine soff rfl rfl rfl rfl ?_
          refine soff rfl rfl rfl rfl ?_
          refine soff rfl rfl rfl rfl ?_
          refine soff rfl rfl rfl rfl ?_
          refine soff rfl rfl rfl rfl ?_
          refine sv rfl (opv_pick_t rfl rfl) ?_
          refine sv rfl (opv_mv rfl) ?_
          refine soff rfl rfl rfl rfl ?_
          refine soff rfl rfl rfl rfl ?_
          refine soff rfl rfl rfl rfl ?_
          refine soff rfl rfl rfl rfl ?_
          refine soff rfl rfl rfl rfl ?_
          refine soff rfl rfl rfl rfl ?_
          refine sv rfl (opv_pick_t rfl rfl) ?_
          refine snil ?_
          refine ccond rfl (fun _ => ?_) (fun hx => Bool.noConfusion hx)
          refine cseq ?_
          refine cregion ?_
          refine sv rfl (opv_as rfl) ?_
          refine snil ?_
          refine cret ?_
          refine then_ret ?_
          obtain rfl := Option.some.inj h
          refine ⟨Or.inr rfl, _, _, _, (resVs_cons (ResV.tmp _ _ rfl) resVs_nil), (pubA_id rfl), ?_⟩
          rfl
        · replace h := ite_f hc h
          clear hc
          refine son rfl rfl rfl ?_
          refine sv rfl (opv_mv rfl) ?_
          refine son rfl rfl rfl ?_
          refine sv rfl (opv_mv rfl) ?_
          refine son rfl rfl rfl ?_
          refine sv rfl (opv_ineq rfl rfl) ?_
          refine sv rfl (opv_pick_f rfl rfl) ?_
          refine sv rfl (opv_mv rfl) ?_
          refine ssplit 83 rfl (fun hc => ?_) (fun hc => ?_)
          · replace h := ite_t hc h
            clear hc
            refine soff rfl rfl rfl rfl ?_
            refine soff rfl rfl rfl rfl ?_
            refine soff rfl rfl rfl rfl ?_
            refine sv rfl (opv_pick_t rfl rfl) ?_
            refine sv rfl (opv_mv rfl) ?_
            refine soff rfl rfl rfl rfl ?_
            refine soff rfl rfl rfl rfl ?_
            refine soff rfl rfl rfl rfl ?_
            refine soff rfl rfl rfl rfl ?_
            refine soff rfl rfl rfl rfl ?_
            refine soff rfl rfl rfl rfl ?_
            refine soff rfl rfl rfl rfl ?_
            refine soff rfl rfl rfl rfl ?_
            refine sv rfl (opv_pick_t rfl rfl) ?_
            refine sv rfl (opv_mv rfl) ?_
            refine soff rfl rfl rfl rfl ?_
            refine soff rfl rfl rfl rfl ?_
            refine soff rfl rfl rfl rfl ?_
            refine soff rfl rfl rfl rfl ?_
            refine soff rfl rfl rfl rfl ?_
            refine soff rfl rfl rfl rfl ?_
            refine sv rfl (opv_pick_t rfl rfl) ?_
            refine snil ?_
            refine ccond rfl (fun _ => ?_) (fun hx => Bool.noConfusion hx)
            refine cseq ?_
            refine cregion ?_
            refine sv rfl (opv_as rfl) ?_
            refine snil ?_
            refine cret ?_
            refine then_ret ?_
            obtain rfl := Option.some.inj h
            refine ⟨Or.inr rfl, _, _, _, (resVs_cons (ResV.tmp _ _ rfl) resVs_nil), (pubA_id rfl), ?_⟩
            rfl
          · replace h := ite_f hc h
            clear hc
            refine son rfl rfl rfl ?_
            refine sv rfl (opv_mv rfl) ?_
            refine son rfl rfl rfl ?_
            refine sv rfl (opv_mv rfl) ?_
            refine son rfl rfl rfl ?_
            refine sv rfl (opv_bneq Try.underlying4 rfl rfl) ?_
            refine sv rfl (opv_pick_f rfl rfl) ?_
            refine sv rfl (opv_mv rfl) ?_
            refine ssplit 88 rfl (fun hc => ?_) (fun hc => ?_)
            · replace h := ite_t hc h
              clear hc
              refine soff rfl rfl rfl rfl ?_
              refine soff rfl rfl rfl rfl ?_
              refine soff rfl rfl rfl rfl ?_
              refine soff rfl rfl rfl rfl ?_
              refine soff rfl rfl rfl rfl ?_
              refine soff rfl rfl rfl rfl ?_
              refine soff rfl rfl rfl rfl ?_
              refine soff rfl rfl rfl rfl ?_
              refine sv rfl (opv_pick_t rfl rfl) ?_
              refine sv rfl (opv_mv rfl) ?_
              refine soff rfl rfl rfl rfl ?_
              refine soff rfl rfl rfl rfl ?_
              refine soff rfl rfl rfl rfl ?_
              refine soff rfl rfl rfl rfl ?_
              refine soff rfl rfl rfl rfl ?_
              refine soff rfl rfl rfl rfl ?_
              refine sv rfl (opv_pick_t rfl rfl) ?_
              refine snil ?_
              refine ccond rfl (fun _ => ?_) (fun hx => Bool.noConfusion hx)
              refine cseq ?_
              refine cregion ?_
              refine sv rfl (opv_as rfl) ?_
              refine snil ?_
              refine cret ?_
              refine then_ret ?_
              obtain rfl := Option.some.inj h
              refine ⟨Or.inr rfl, _, _, _, (resVs_cons (ResV.tmp _ _ rfl) resVs_nil), (pubA_id rfl), ?_⟩
              rfl
            · replace h := ite_f hc h
              clear hc
              refine son rfl rfl rfl ?_
              refine sv rfl (opv_mv rfl) ?_
              refine son rfl rfl rfl ?_
              refine sv rfl (opv_mv rfl) ?_
              refine son rfl rfl rfl ?_
              obtain ⟨v21, hv21, h⟩ := bind_eq h
              refine scall1 rfl fn19 (opnds_cons rfl (opnds_cons rfl opnds_nil)) (pubA_id rfl) (m19_keys_Insert_c hv21) ?_
              refine son rfl rfl rfl ?_
              refine sv rfl (opv_mv rfl) ?_
              refine son rfl rfl rfl ?_
              refine sv rfl (opv_mv rfl) ?_
              refine son rfl rfl rfl ?_
              obtain ⟨v22, hv22, h⟩ := bind_eq h
              refine scall1 rfl fn20 (opnds_cons rfl (opnds_cons rfl opnds_nil)) (pubA_id rfl) (m20_r06_Insert_c hv22) ?_
              refine son rfl rfl rfl ?_
              obtain ⟨v23, hv23, h⟩ := bind_eq h
              refine scall1 rfl fn18 (opnds_cons rfl (opnds_cons rfl opnds_nil)) (pubA_id rfl) (m18_r03_Lists_c hv23) ?_
              refine son rfl rfl rfl ?_
              refine sv rfl (opv_not rfl) ?_
              refine sv rfl (opv_pick_f rfl rfl) ?_
              refine sv rfl (opv_mv rfl) ?_
              refine ssplit 98 rfl (fun hc => ?_) (fun hc => ?_)
              · replace h := ite_t hc h
                clear hc
                refine soff rfl rfl rfl rfl ?_
                refine soff rfl rfl rfl rfl ?_
                refine soff rfl rfl rfl rfl ?_
                refine soff rfl rfl rfl rfl ?_
                refine soff rfl rfl rfl rfl ?_
                refine soff rfl rfl rfl rfl ?_
                refine sv rfl (opv_pick_t rfl rfl) ?_
                refine snil ?_
                refine ccond rfl (fun _ => ?_) (fun hx => Bool.noConfusion hx)
                refine cseq ?_
                refine cregion ?_
                refine sv rfl (opv_as rfl) ?_
                refine snil ?_
                refine cret ?_
                refine then_ret ?_
                obtain rfl := Option.some.inj h
                refine ⟨Or.inr rfl, _, _, _, (resVs_cons (ResV.tmp _ _ rfl) resVs_nil), (pubA_id rfl), ?_⟩
                rfl
              · replace h := ite_f hc h
                clear hc
                refine son rfl rfl rfl ?_
                refine sv rfl (opv_mv rfl) ?_
                refine son rfl rfl rfl ?_
                obtain ⟨v24, hv24, h⟩ := bind_eq h
                refine scall1 rfl fn21 (opnds_cons rfl opnds_nil) (pubA_id rfl) (m21_keys_One_c hv24) ?_
                refine son rfl rfl rfl ?_
                refine sv rfl (opv_mv rfl) ?_
                refine son rfl rfl rfl ?_
                obtain ⟨v25, hv25, h⟩ := bind_eq h
                refine scall1 rfl fn22 (opnds_cons rfl opnds_nil) (pubA_id rfl) (m22_r06_One_c hv25) ?_
                refine son rfl rfl rfl ?_
                obtain ⟨v26, hv26, h⟩ := bind_eq h
                refine scall1 rfl fn17 (opnds_cons rfl (opnds_cons rfl opnds_nil)) (pubA_id rfl) (m17_r06_SameRange_c hv26) ?_
                refine son rfl rfl rfl ?_
                refine sv rfl (opv_not rfl) ?_
                refine sv rfl (opv_pick_f rfl rfl) ?_
                refine snil ?_
                refine ccond rfl (fun hc => ?_) (fun hc => ?_)
                · replace h := ite_t hc h
                  clear hc
                  refine cseq ?_
                  refine cregion ?_
                  refine sv rfl (opv_as rfl) ?_
                  refine snil ?_
                  refine cret ?_
                  refine then_ret ?_
                  obtain rfl := Option.some.inj h
                  refine ⟨Or.inr rfl, _, _, _, (resVs_cons (ResV.tmp _ _ rfl) resVs_nil), (pubA_id rfl), ?_⟩
                  rfl
                · replace h := ite_f hc h
                  clear hc
                  refine cskip ?_
                  refine then_normal ?_
                  exact ⟨(), _, h, ⟨rfl, rfl, rfl, rfl, rfl, trivial⟩, rfl⟩
  · skip
    refine cregion ?_
    refine sv rfl (opv_mv rfl) ?_
    refine sv rfl (opv_len_sl si22 rfl) ?_
    refine sv rfl (opv_gtr rfl rfl) ?_
    refine sv rfl (opv_mv rfl) ?_
    refine ssplit 24 rfl (fun hc => ?_) (fun hc => ?_)
    · replace h := ite_t hc h
      clear hc
      refine soff rfl rfl rfl rfl ?_
      refine soff rfl rfl rfl rfl ?_
      refine soff rfl rfl rfl rfl ?_
      refine sv rfl (opv_pick_t rfl rfl) ?_
      refine sv rfl (opv_mv rfl) ?_
      refine soff rfl rfl rfl rfl ?_
      refine soff rfl rfl rfl rfl ?_
      refine soff rfl rfl rfl rfl ?_
      refine sv rfl (opv_pick_t rfl rfl) ?_
      refine sv rfl (opv_mv rfl) ?_
      refine soff rfl rfl rfl rfl ?_
      refine soff rfl rfl rfl rfl ?_
      refine soff rfl rfl rfl rfl ?_
      refine sv rfl (opv_pick_t rfl rfl) ?_
      refine sv rfl (opv_mv rfl) ?_
      refine soff rfl rfl rfl rfl ?_
      refine soff rfl rfl rfl rfl ?_
      refine soff rfl rfl rfl rfl ?_
      refine sv rfl (opv_pick_t rfl rfl) ?_
      refine snil ?_
      refine ccond rfl (fun _ => ?_) (fun hx => Bool.noConfusion hx)
      refine cseq ?_
      refine cregion ?_
      refine sv rfl (opv_mv rfl) ?_
      refine sv rfl (opv_as rfl) ?_
      refine snil ?_
      refine cret ?_
      refine then_ret ?_
      obtain rfl := Option.some.inj h
      refine ⟨Or.inr rfl, _, _, _, (resVs_cons (ResV.tmp _ _ rfl) resVs_nil), (pubA_id rfl), ?_⟩
      rfl
    · replace h := ite_f hc h
      clear hc
      refine son rfl rfl rfl ?_
      refine sv rfl (opv_mv rfl) ?_
      refine son rfl rfl rfl ?_
      refine sv rfl (opv_len_sl si22 rfl) ?_
      refine son rfl rfl rfl ?_
      refine sv rfl (opv_gtr rfl rfl) ?_
      refine sv rfl (opv_pick_f rfl rfl) ?_
      refine sv rfl (opv_mv rfl) ?_
      refine ssplit 29 rfl (fun hc => ?_) (fun hc => ?_)
      · replace h := ite_t hc h
        clear hc
        refine soff rfl rfl rfl rfl ?_
        refine soff rfl rfl rfl rfl ?_
        refine soff rfl rfl rfl rfl ?_
        refine sv rfl (opv_pick_t rfl rfl) ?_
        refine sv rfl (opv_mv rfl) ?_
        refine soff rfl rfl rfl rfl ?_
        refine soff rfl rfl rfl rfl ?_
        refine soff rfl rfl rfl rfl ?_
        refine sv rfl (opv_pick_t rfl rfl) ?_
        refine sv rfl (opv_mv rfl) ?_
        refine soff rfl rfl rfl rfl ?_
        refine soff rfl rfl rfl rfl ?_
        refine soff rfl rfl rfl rfl ?_
        refine sv rfl (opv_pick_t rfl rfl) ?_
        refine snil ?_
        refine ccond rfl (fun _ => ?_) (fun hx => Bool.noConfusion hx)
        refine cseq ?_
        refine cregion ?_
        refine sv rfl (opv_mv rfl) ?_
        refine sv rfl (opv_as rfl) ?_
        refine snil ?_
        refine cret ?_
        refine then_ret ?_
        obtain rfl := Option.some.inj h
        refine ⟨Or.inr rfl, _, _, _, (resVs_cons (ResV.tmp _ _ rfl) resVs_nil), (pubA_id rfl), ?_⟩
        rfl
      · replace h := ite_f hc h
        clear hc
        refine son rfl rfl rfl ?_
        refine sv rfl (opv_loadN ti24 rfl (.lp _ _ _ rfl) (Nat.le_of_ble_eq_true rfl)) ?_
        refine son rfl rfl rfl ?_
        obtain ⟨v27, hv27, h⟩ := bind_eq h
        refine scall1 rfl fn11 (opnds_cons rfl opnds_nil) (pubA_id rfl) (m11_r06_Short_c hv27) ?_
        refine son rfl rfl rfl ?_
        refine sv rfl (opv_not rfl) ?_
        refine sv rfl (opv_pick_f rfl rfl) ?_
        refine sv rfl (opv_mv rfl) ?_
        refine ssplit 34 rfl (fun hc => ?_) (fun hc => ?_)
        · replace h := ite_t hc h
          clear hc
          refine soff rfl rfl rfl rfl ?_
          refine soff rfl rfl rfl rfl ?_
          refine soff rfl rfl rfl rfl ?_
          refine sv rfl (opv_pick_t rfl rfl) ?_
          refine sv rfl (opv_mv rfl) ?_
          refine soff rfl rfl rfl rfl ?_
          refine soff rfl rfl rfl rfl ?_
          refine soff rfl rfl rfl rfl ?_
          refine sv rfl (opv_pick_t rfl rfl) ?_
          refine snil ?_
          refine ccond rfl (fun _ => ?_) (fun hx => Bool.noConfusion hx)
          refine cseq ?_
          refine cregion ?_
          refine sv rfl (opv_mv rfl) ?_
          refine sv rfl (opv_as rfl) ?_
          refine snil ?_
          refine cret ?_
          refine then_ret ?_
          obtain rfl := Option.some.inj h
          refine ⟨Or.inr rfl, _, _, _, (resVs_cons (ResV.tmp _ _ rfl) resVs_nil), (pubA_id rfl), ?_⟩
          rfl
        · replace h := ite_f hc h
          clear hc
          refine son rfl rfl rfl ?_
          refine sv rfl (opv_loadN ti24 rfl (.lp _ _ _ rfl) (Nat.le_of_ble_eq_true rfl)) ?_
          refine son rfl rfl rfl ?_
          obtain ⟨v28, hv28, h⟩ := bind_eq h
          refine scall1 rfl fn11 (opnds_cons rfl opnds_nil) (pubA_id rfl) (m11_r06_Short_c hv28) ?_
          refine son rfl rfl rfl ?_
          refine sv rfl (opv_not rfl) ?_
          refine sv rfl (opv_pick_f rfl rfl) ?_
          refine sv rfl (opv_mv rfl) ?_
          refine ssplit 39 rfl (fun hc => ?_) (fun hc => ?_)
          · replace h := ite_t hc h
            clear hc
            refine soff rfl rfl rfl rfl ?_
            refine soff rfl rfl rfl rfl ?_
            refine soff rfl rfl rfl rfl ?_
            refine sv rfl (opv_pick_t rfl rfl) ?_
            refine snil ?_
            refine ccond rfl (fun _ => ?_) (fun hx => Bool.noConfusion hx)
            refine cseq ?_
            refine cregion ?_
            refine sv rfl (opv_mv rfl) ?_
            refine sv rfl (opv_as rfl) ?_
            refine snil ?_
            refine cret ?_
            refine then_ret ?_
            obtain rfl := Option.some.inj h
            refine ⟨Or.inr rfl, _, _, _, (resVs_cons (ResV.tmp _ _ rfl) resVs_nil), (pubA_id rfl), ?_⟩
            rfl
          · replace h := ite_f hc h
            clear hc
            refine son rfl rfl rfl ?_
            refine sv rfl (opv_mv rfl) ?_
            refine son rfl rfl rfl ?_
            obtain ⟨v29, hv29, h⟩ := bind_eq h
            refine scall1 rfl fn12 (opnds_cons rfl (opnds_cons rfl opnds_nil)) (pubA_id rfl) (m12_r03_Few_c hv29) ?_
            refine son rfl rfl rfl ?_
            refine sv rfl (opv_not rfl) ?_
            refine sv rfl (opv_pick_f rfl rfl) ?_
            refine snil ?_
            refine ccond rfl (fun hc => ?_) (fun hc => ?_)
            · replace h := ite_t hc h
              clear hc
              refine cseq ?_
              refine cregion ?_
              refine sv rfl (opv_mv rfl) ?_
              refine sv rfl (opv_as rfl) ?_
              refine snil ?_
              refine cret ?_
              refine then_ret ?_
              obtain rfl := Option.some.inj h
              refine ⟨Or.inr rfl, _, _, _, (resVs_cons (ResV.tmp _ _ rfl) resVs_nil), (pubA_id rfl), ?_⟩
              rfl
            · replace h := ite_f hc h
              clear hc
              refine cskip ?_
              refine then_normal ?_
              exact ⟨(), _, h, ⟨rfl, rfl, rfl, rfl, rfl, rfl, trivial⟩, rfl⟩

def m4_l06_KeysOrder_k5 (a0 : List UInt8) (v1 : Bool) (b5 : Unit) : Option Bool :=
  if v1 then (if (([] : List UInt8).length + a0.length) * 1 ≤ 140737488355328 then (if ((([] : List UInt8) ++ a0).length + [(UInt8.ofBitVec (0#8))].length) * 1 ≤ 140737488355328 then ((m23_keys_Cmp a0 ((([] : List UInt8) ++ a0) ++ [(UInt8.ofBitVec (0#8))])).bind fun v8 => some (decide (v8 = (-1)))) else none) else none) else (some false)

def m4_l06_KeysOrder_k4 (a0 : List UInt8) (a1 : List UInt8) (a2 : List UInt8) (v1 : Bool) (b4 : Unit) : Option Bool :=
  (m23_keys_Cmp a0 a1).bind fun v9 => if (decide (v9 < 0)) then ((m23_keys_Cmp a1 a2).bind fun v10 => if (decide (v10 < 0)) then ((m23_keys_Cmp a0 a2).bind fun v11 => if (decide (0 ≤ v11)) then (some false) else (m4_l06_KeysOrder_k5 a0 v1 ())) else (m4_l06_KeysOrder_k5 a0 v1 ())) else (m4_l06_KeysOrder_k5 a0 v1 ())

def m4_l06_KeysOrder_k2 (a0 : List UInt8) (a1 : List UInt8) (a2 : List UInt8) (v1 : Bool) (b2 : Unit) : Option Bool :=
  (m23_keys_Cmp a0 a1).bind fun v3 => (m23_keys_Cmp a1 a0).bind fun v12 => if (!decide (v3 = (wI (-v12)))) then (some false) else (if (!((decide (v3 = 0)) == (a0 == a1))) then (some false) else (if (decide (v3 < (-1))) then (some false) else (if (decide (1 < v3)) then (some false) else (m4_l06_KeysOrder_k4 a0 a1 a2 v1 ()))))
def m4_l06_KeysOrder (a0 : List UInt8) (a1 : List UInt8) (a2 : List UInt8) : Option Bool :=
  (m10_l06_awake).bind fun v1 => if (decide (100 < (a0.length : Int))) then (some v1) else (if (decide (100 < (a1.length : Int))) then (some v1) else (if (decide (100 < (a2.length : Int))) then (some v1) else (m4_l06_KeysOrder_k2 a0 a1 a2 v1 ())))

set_option maxRecDepth 100000 in
theorem m4_l06_KeysOrder_c {a0 : List UInt8} {a1 : List UInt8} {a2 : List UInt8} {r : Bool} (h : m4_l06_KeysOrder a0 a1 a2 = some r) : CallsA Try.prog 4 [.one (.sl a0.length (a0.flatMap eU8)), .one (.sl a1.length (a1.flatMap eU8)), .one (.sl a2.length (a2.flatMap eU8))] (· = .s (.one (.b r))) := by
  unfold m4_l06_KeysOrder at h
  refine callsA_of Try.func4 rfl (nt := 78) rfl (Nat.le_of_ble_eq_true rfl) ?_
  intro w0 S0
  refine cseq ?_
  refine cregion ?_
  refine sv rfl (opv_as rfl) ?_
  refine snil ?_
  refine cseq ?_
  refine cregion ?_
  obtain ⟨v1, hv1, h⟩ := bind_eq h
  refine scall1 rfl fn10 opnds_nil (pubA_id rfl) (m10_l06_awake_c hv1) ?_
  refine sv rfl (opv_as rfl) ?_
  refine snil ?_
  refine cseq ?_
  refine cseq ?_
  refine cjoin3 (Unit) (fun b2 => [(0, .s (.one (.sl a0.length (a0.flatMap eU8)))), (1, .s (.one (.sl a1.length (a1.flatMap eU8)))), (2, .s (.one (.sl a2.length (a2.flatMap eU8)))), (7, .s (.one (.b v1)))]) (fun b2 => []) (fun b2 => m4_l06_KeysOrder_k2 a0 a1 a2 v1 b2 = some r) (fun _ _ => inbL_of rfl) (fun _ _ => blkinb_of rfl) (fun _ _ => Nat.le_of_ble_eq_true rfl) (fun b2 h => ?_) ?_
  · unfold m4_l06_KeysOrder_k2 at h
    refine cseq ?_
    refine cregion ?_
    refine sv rfl (opv_mv rfl) ?_
    refine sv rfl (opv_mv rfl) ?_
    obtain ⟨v3, hv3, h⟩ := bind_eq h
    refine scall1 rfl fn23 (opnds_cons rfl (opnds_cons rfl opnds_nil)) (pubA_id rfl) (m23_keys_Cmp_c hv3) ?_
    refine sv rfl (opv_as rfl) ?_
    refine snil ?_
    refine cseq ?_
    refine cseq ?_
    refine cjoin3 (Unit) (fun b4 => [(0, .s (.one (.sl a0.length (a0.flatMap eU8)))), (1, .s (.one (.sl a1.length (a1.flatMap eU8)))), (2, .s (.one (.sl a2.length (a2.flatMap eU8)))), (7, .s (.one (.b v1)))]) (fun b4 => []) (fun b4 => m4_l06_KeysOrder_k4 a0 a1 a2 v1 b4 = some r) (fun _ _ => inbL_of rfl) (fun _ _ => blkinb_of rfl) (fun _ _ => Nat.le_of_ble_eq_true rfl) (fun b4 h => ?_) ?_
    · unfold m4_l06_KeysOrder_k4 at h
      refine cseq ?_
      refine cseq ?_
      refine cjoin3 (Unit) (fun b5 => [(0, .s (.one (.sl a0.length (a0.flatMap eU8)))), (7, .s (.one (.b v1)))]) (fun b5 => []) (fun b5 => m4_l06_KeysOrder_k5 a0 v1 b5 = some r) (fun _ _ => inbL_of rfl) (fun _ _ => blkinb_of rfl) (fun _ _ => Nat.le_of_ble_eq_true rfl) (fun b5 h => ?_) ?_
      · unfold m4_l06_KeysOrder_k5 at h
        refine cseq ?_
        refine cregion ?_
        refine sv rfl (opv_mv rfl) ?_
        refine sv rfl (opv_mv rfl) ?_
        refine ssplit 68 rfl (fun hc => ?_) (fun hc => ?_)
        · replace h := ite_t hc h
          clear hc
          refine son rfl rfl rfl ?_
          refine sv rfl (opv_mv rfl) ?_
          refine son rfl rfl rfl ?_
          refine sbuild0 rfl Try.underlying22 ei5 ?_
          refine son rfl rfl rfl ?_
          refine sv rfl (opv_mv rfl) ?_
          refine son rfl rfl rfl ?_
          obtain ⟨hb6, h⟩ := chk_eq h
          refine sapp (f := eU8) (xs := ([] : List UInt8)) (us := a0) rfl Try.underlying22 ei5 ni22 (fun _ => rfl) rfl rfl (.one _ _ _ _ (.id _ rfl)) rfl rfl rfl (.sl _ _ _ (flat_len (f := eU8) (fun _ => rfl) _)) rfl rfl hb6 (by decide) ?_
          refine son rfl rfl rfl ?_
          refine sbuild1 rfl Try.underlying22 ei5 rfl rfl (List.all_eq_true.1 rfl) (by decide) ?_
          refine smem [.arr 5 1 0 ((([] : List UInt8) ++ a0).flatMap eU8), .arr 5 1 0 ([(UInt8.ofBitVec (0#8))].flatMap eU8)] rfl ?_
          refine son rfl rfl rfl ?_
          obtain ⟨hb7, h⟩ := chk_eq h
          refine sapp (f := eU8) (xs := (([] : List UInt8) ++ a0)) (us := [(UInt8.ofBitVec (0#8))]) rfl Try.underlying22 ei5 ni22 (fun _ => rfl) rfl rfl (.one _ _ _ _ (.ls _ _ _ _ _ _ rfl (flat_len (f := eU8) (fun _ => rfl) [(UInt8.ofBitVec (0#8))]).symm)) rfl rfl rfl (.sl _ _ _ (flat_len (f := eU8) (fun _ => rfl) _)) rfl rfl hb7 (by decide) ?_
          refine son rfl rfl rfl ?_
          refine spub 74 rfl (by (repeat' first | exact PubA.nil _ | apply PubA.cons | apply PubV.one | apply PubV.agg | exact PubL.nil | exact PubL.ls _ _ _ _ _ _ rfl (flat_len (f := eU8) (fun _ => rfl) _).symm | exact PubL.id _ rfl | exact PubLs.nil _ | apply PubLs.cons)) ?_
          obtain ⟨v8, hv8, h⟩ := bind_eq h
          refine scall1 rfl fn23 (opnds_cons rfl (opnds_cons rfl opnds_nil)) (pubA_id rfl) (m23_keys_Cmp_c hv8) ?_
          refine son rfl rfl rfl ?_
          refine sv rfl (opv_ieql rfl rfl) ?_
          refine sv rfl (opv_pick_t rfl rfl) ?_
          refine sv rfl (opv_as rfl) ?_
          refine snil ?_
          refine cret ?_
          obtain rfl := Option.some.inj h
          refine ⟨Or.inr rfl, _, _, _, (resVs_cons (ResV.tmp _ _ rfl) resVs_nil), (pubA_id rfl), ?_⟩
          rfl
        · replace h := ite_f hc h
          clear hc
          refine soff rfl rfl rfl rfl ?_
          refine soff rfl rfl rfl rfl ?_
          refine soff rfl rfl rfl rfl ?_
          refine soff rfl rfl rfl rfl ?_
          refine soff rfl rfl rfl rfl ?_
          refine soff rfl rfl rfl rfl ?_
          refine soff rfl rfl rfl rfl ?_
          refine soff rfl rfl rfl rfl ?_
          refine sv rfl (opv_pick_f rfl rfl) ?_
          refine sv rfl (opv_as rfl) ?_
          refine snil ?_
          refine cret ?_
          obtain rfl := Option.some.inj h
          refine ⟨Or.inr rfl, _, _, _, (resVs_cons (ResV.tmp _ _ rfl) resVs_nil), (pubA_id rfl), ?_⟩
          rfl
      · skip
        refine cregion ?_
        refine sv rfl (opv_mv rfl) ?_
        refine sv rfl (opv_mv rfl) ?_
        obtain ⟨v9, hv9, h⟩ := bind_eq h
        refine scall1 rfl fn23 (opnds_cons rfl (opnds_cons rfl opnds_nil)) (pubA_id rfl) (m23_keys_Cmp_c hv9) ?_
        refine sv rfl (opv_lss rfl rfl) ?_
        refine sv rfl (opv_mv rfl) ?_
        refine ssplit 55 rfl (fun hc => ?_) (fun hc => ?_)
        · replace h := ite_t hc h
          clear hc
          refine son rfl rfl rfl ?_
          refine sv rfl (opv_mv rfl) ?_
          refine son rfl rfl rfl ?_
          refine sv rfl (opv_mv rfl) ?_
          refine son rfl rfl rfl ?_
          obtain ⟨v10, hv10, h⟩ := bind_eq h
          refine scall1 rfl fn23 (opnds_cons rfl (opnds_cons rfl opnds_nil)) (pubA_id rfl) (m23_keys_Cmp_c hv10) ?_
          refine son rfl rfl rfl ?_
          refine sv rfl (opv_lss rfl rfl) ?_
          refine sv rfl (opv_pick_t rfl rfl) ?_
          refine sv rfl (opv_mv rfl) ?_
          refine ssplit 61 rfl (fun hc => ?_) (fun hc => ?_)
          · replace h := ite_t hc h
            clear hc
            refine son rfl rfl rfl ?_
            refine sv rfl (opv_mv rfl) ?_
            refine son rfl rfl rfl ?_
            refine sv rfl (opv_mv rfl) ?_
            refine son rfl rfl rfl ?_
            obtain ⟨v11, hv11, h⟩ := bind_eq h
            refine scall1 rfl fn23 (opnds_cons rfl (opnds_cons rfl opnds_nil)) (pubA_id rfl) (m23_keys_Cmp_c hv11) ?_
            refine son rfl rfl rfl ?_
            refine sv rfl (opv_geq rfl rfl) ?_
            refine sv rfl (opv_pick_t rfl rfl) ?_
            refine snil ?_
            refine ccond rfl (fun hc => ?_) (fun hc => ?_)
            · replace h := ite_t hc h
              clear hc
              refine cseq ?_
              refine cregion ?_
              refine sv rfl (opv_as rfl) ?_
              refine snil ?_
              refine cret ?_
              refine then_ret ?_
              obtain rfl := Option.some.inj h
              refine ⟨Or.inr rfl, _, _, _, (resVs_cons (ResV.tmp _ _ rfl) resVs_nil), (pubA_id rfl), ?_⟩
              rfl
            · replace h := ite_f hc h
              clear hc
              refine cskip ?_
              refine then_normal ?_
              exact ⟨(), _, h, ⟨rfl, rfl, trivial⟩, rfl⟩
          · replace h := ite_f hc h
            clear hc
            refine soff rfl rfl rfl rfl ?_
            refine soff rfl rfl rfl rfl ?_
            refine soff rfl rfl rfl rfl ?_
            refine soff rfl rfl rfl rfl ?_
            refine sv rfl (opv_pick_f rfl rfl) ?_
            refine snil ?_
            refine ccond rfl (fun hx => Bool.noConfusion hx) (fun _ => ?_)
            refine cskip ?_
            refine then_normal ?_
            exact ⟨(), _, h, ⟨rfl, rfl, trivial⟩, rfl⟩
        · replace h := ite_f hc h
          clear hc
          refine soff rfl rfl rfl rfl ?_
          refine soff rfl rfl rfl rfl ?_
          refine soff rfl rfl rfl rfl ?_
          refine soff rfl rfl rfl rfl ?_
          refine sv rfl (opv_pick_f rfl rfl) ?_
          refine sv rfl (opv_mv rfl) ?_
          refine soff rfl rfl rfl rfl ?_
          refine soff rfl rfl rfl rfl ?_
          refine soff rfl rfl rfl rfl ?_
          refine soff rfl rfl rfl rfl ?_
          refine sv rfl (opv_pick_f rfl rfl) ?_
          refine snil ?_
          refine ccond rfl (fun hx => Bool.noConfusion hx) (fun _ => ?_)
          refine cskip ?_
          refine then_normal ?_
          exact ⟨(), _, h, ⟨rfl, rfl, trivial⟩, rfl⟩
    · skip
      refine cregion ?_
      refine sv rfl (opv_mv rfl) ?_
      refine sv rfl (opv_mv rfl) ?_
      refine sv rfl (opv_mv rfl) ?_
      obtain ⟨v12, hv12, h⟩ := bind_eq h
      refine scall1 rfl fn23 (opnds_cons rfl (opnds_cons rfl opnds_nil)) (pubA_id rfl) (m23_keys_Cmp_c hv12) ?_
      refine sv rfl (opv_neg rfl) ?_
      refine sv rfl (opv_ineq rfl rfl) ?_
      refine sv rfl (opv_mv rfl) ?_
      refine ssplit 33 rfl (fun hc => ?_) (fun hc => ?_)
      · replace h := ite_t hc h
        clear hc
        refine soff rfl rfl rfl rfl ?_
        refine soff rfl rfl rfl rfl ?_
        refine soff rfl rfl rfl rfl ?_
        refine soff rfl rfl rfl rfl ?_
        refine soff rfl rfl rfl rfl ?_
        refine soff rfl rfl rfl rfl ?_
        refine soff rfl rfl rfl rfl ?_
        refine soff rfl rfl rfl rfl ?_
        refine sv rfl (opv_pick_t rfl rfl) ?_
        refine sv rfl (opv_mv rfl) ?_
        refine soff rfl rfl rfl rfl ?_
        refine soff rfl rfl rfl rfl ?_
        refine sv rfl (opv_pick_t rfl rfl) ?_
        refine sv rfl (opv_mv rfl) ?_
        refine soff rfl rfl rfl rfl ?_
        refine soff rfl rfl rfl rfl ?_
        refine sv rfl (opv_pick_t rfl rfl) ?_
        refine snil ?_
        refine ccond rfl (fun _ => ?_) (fun hx => Bool.noConfusion hx)
        refine cseq ?_
        refine cregion ?_
        refine sv rfl (opv_as rfl) ?_
        refine snil ?_
        refine cret ?_
        refine then_ret ?_
        obtain rfl := Option.some.inj h
        refine ⟨Or.inr rfl, _, _, _, (resVs_cons (ResV.tmp _ _ rfl) resVs_nil), (pubA_id rfl), ?_⟩
        rfl
      · replace h := ite_f hc h
        clear hc
        refine son rfl rfl rfl ?_
        refine sv rfl (opv_mv rfl) ?_
        refine son rfl rfl rfl ?_
        refine sv rfl (opv_ieql rfl rfl) ?_
        refine son rfl rfl rfl ?_
        refine sv rfl (opv_mv rfl) ?_
        refine son rfl rfl rfl ?_
        refine sv rfl (opv_bs (l := a0) Try.underlying22 Try.underlying5 Try.underlying9 rfl rfl rfl) ?_
        refine son rfl rfl rfl ?_
        refine sv rfl (opv_mv rfl) ?_
        refine son rfl rfl rfl ?_
        refine sv rfl (opv_bs (l := a1) Try.underlying22 Try.underlying5 Try.underlying9 rfl rfl rfl) ?_
        refine son rfl rfl rfl ?_
        refine sv rfl (opv_seql' rfl rfl) ?_
        refine son rfl rfl rfl ?_
        refine sv rfl (opv_bneq Try.underlying4 rfl rfl) ?_
        refine sv rfl (opv_pick_f rfl rfl) ?_
        refine sv rfl (opv_mv rfl) ?_
        refine ssplit 43 rfl (fun hc => ?_) (fun hc => ?_)
        · replace h := ite_t hc h
          clear hc
          refine soff rfl rfl rfl rfl ?_
          refine soff rfl rfl rfl rfl ?_
          refine sv rfl (opv_pick_t rfl rfl) ?_
          refine sv rfl (opv_mv rfl) ?_
          refine soff rfl rfl rfl rfl ?_
          refine soff rfl rfl rfl rfl ?_
          refine sv rfl (opv_pick_t rfl rfl) ?_
          refine snil ?_
          refine ccond rfl (fun _ => ?_) (fun hx => Bool.noConfusion hx)
          refine cseq ?_
          refine cregion ?_
          refine sv rfl (opv_as rfl) ?_
          refine snil ?_
          refine cret ?_
          refine then_ret ?_
          obtain rfl := Option.some.inj h
          refine ⟨Or.inr rfl, _, _, _, (resVs_cons (ResV.tmp _ _ rfl) resVs_nil), (pubA_id rfl), ?_⟩
          rfl
        · replace h := ite_f hc h
          clear hc
          refine son rfl rfl rfl ?_
          refine sv rfl (opv_mv rfl) ?_
          refine son rfl rfl rfl ?_
          refine sv rfl (opv_lss rfl rfl) ?_
          refine sv rfl (opv_pick_f rfl rfl) ?_
          refine sv rfl (opv_mv rfl) ?_
          refine ssplit 47 rfl (fun hc => ?_) (fun hc => ?_)
          · replace h := ite_t hc h
            clear hc
            refine soff rfl rfl rfl rfl ?_
            refine soff rfl rfl rfl rfl ?_
            refine sv rfl (opv_pick_t rfl rfl) ?_
            refine snil ?_
            refine ccond rfl (fun _ => ?_) (fun hx => Bool.noConfusion hx)
            refine cseq ?_
            refine cregion ?_
            refine sv rfl (opv_as rfl) ?_
            refine snil ?_
            refine cret ?_
            refine then_ret ?_
            obtain rfl := Option.some.inj h
            refine ⟨Or.inr rfl, _, _, _, (resVs_cons (ResV.tmp _ _ rfl) resVs_nil), (pubA_id rfl), ?_⟩
            rfl
          · replace h := ite_f hc h
            clear hc
            refine son rfl rfl rfl ?_
            refine sv rfl (opv_mv rfl) ?_
            refine son rfl rfl rfl ?_
            refine sv rfl (opv_gtr rfl rfl) ?_
            refine sv rfl (opv_pick_f rfl rfl) ?_
            refine snil ?_
            refine ccond rfl (fun hc => ?_) (fun hc => ?_)
            · replace h := ite_t hc h
              clear hc
              refine cseq ?_
              refine cregion ?_
              refine sv rfl (opv_as rfl) ?_
              refine snil ?_
              refine cret ?_
              refine then_ret ?_
              obtain rfl := Option.some.inj h
              refine ⟨Or.inr rfl, _, _, _, (resVs_cons (ResV.tmp _ _ rfl) resVs_nil), (pubA_id rfl), ?_⟩
              rfl
            · replace h := ite_f hc h
              clear hc
              refine cskip ?_
              refine then_normal ?_
              exact ⟨(), _, h, ⟨rfl, rfl, rfl, rfl, trivial⟩, rfl⟩
  · skip
    refine cregion ?_
    refine sv rfl (opv_mv rfl) ?_
    refine sv rfl (opv_len_sl si22 rfl) ?_
    refine sv rfl (opv_gtr rfl rfl) ?_
    refine sv rfl (opv_mv rfl) ?_
    refine ssplit 13 rfl (fun hc => ?_) (fun hc => ?_)
    · replace h := ite_t hc h
      clear hc
      refine soff rfl rfl rfl rfl ?_
      refine soff rfl rfl rfl rfl ?_
      refine soff rfl rfl rfl rfl ?_
      refine sv rfl (opv_pick_t rfl rfl) ?_
      refine sv rfl (opv_mv rfl) ?_
      refine soff rfl rfl rfl rfl ?_
      refine soff rfl rfl rfl rfl ?_
      refine soff rfl rfl rfl rfl ?_
      refine sv rfl (opv_pick_t rfl rfl) ?_
      refine snil ?_
      refine ccond rfl (fun _ => ?_) (fun hx => Bool.noConfusion hx)
      refine cseq ?_
      refine cregion ?_
      refine sv rfl (opv_mv rfl) ?_
      refine sv rfl (opv_as rfl) ?_
      refine snil ?_
      refine cret ?_
      refine then_ret ?_
      obtain rfl := Option.some.inj h
      refine ⟨Or.inr rfl, _, _, _, (resVs_cons (ResV.tmp _ _ rfl) resVs_nil), (pubA_id rfl), ?_⟩
      rfl
    · replace h := ite_f hc h
      clear hc
      refine son rfl rfl rfl ?_
      refine sv rfl (opv_mv rfl) ?_
      refine son rfl rfl rfl ?_
      refine sv rfl (opv_len_sl si22 rfl) ?_
      refine son rfl rfl rfl ?_
      refine sv rfl (opv_gtr rfl rfl) ?_
      refine sv rfl (opv_pick_f rfl rfl) ?_
      refine sv rfl (opv_mv rfl) ?_
      refine ssplit 18 rfl (fun hc => ?_) (fun hc => ?_)
      · replace h := ite_t hc h
        clear hc
        refine soff rfl rfl rfl rfl ?_
        refine soff rfl rfl rfl rfl ?_
        refine soff rfl rfl rfl rfl ?_
        refine sv rfl (opv_pick_t rfl rfl) ?_
        refine snil ?_
        refine ccond rfl (fun _ => ?_) (fun hx => Bool.noConfusion hx)
        refine cseq ?_
        refine cregion ?_
        refine sv rfl (opv_mv rfl) ?_
        refine sv rfl (opv_as rfl) ?_
        refine snil ?_
        refine cret ?_
        refine then_ret ?_
        obtain rfl := Option.some.inj h
        refine ⟨Or.inr rfl, _, _, _, (resVs_cons (ResV.tmp _ _ rfl) resVs_nil), (pubA_id rfl), ?_⟩
        rfl
      · replace h := ite_f hc h
        clear hc
        refine son rfl rfl rfl ?_
        refine sv rfl (opv_mv rfl) ?_
        refine son rfl rfl rfl ?_
        refine sv rfl (opv_len_sl si22 rfl) ?_
        refine son rfl rfl rfl ?_
        refine sv rfl (opv_gtr rfl rfl) ?_
        refine sv rfl (opv_pick_f rfl rfl) ?_
        refine snil ?_
        refine ccond rfl (fun hc => ?_) (fun hc => ?_)
        · replace h := ite_t hc h
          clear hc
          refine cseq ?_
          refine cregion ?_
          refine sv rfl (opv_mv rfl) ?_
          refine sv rfl (opv_as rfl) ?_
          refine snil ?_
          refine cret ?_
          refine then_ret ?_
          obtain rfl := Option.some.inj h
          refine ⟨Or.inr rfl, _, _, _, (resVs_cons (ResV.tmp _ _ rfl) resVs_nil), (pubA_id rfl), ?_⟩
          rfl
        · replace h := ite_f hc h
          clear hc
          refine cskip ?_
          refine then_normal ?_
          exact ⟨(), _, h, ⟨rfl, rfl, rfl, rfl, trivial⟩, rfl⟩

def m5_l06_KeysMeet_k7 (a0 : GApiRange) (a2 : List UInt8) (v1 : Bool) (v5 : GApiRange × Bool) (b7 : Unit) : Option Bool :=
  if v1 then ((m31_keys_Empty a0).bind fun v8 => if (v5.2 == (!v8)) then (if (!v5.2) then ((m31_keys_Empty a0).bind fun v9 => if (!v9) then (some true) else ((m29_keys_Has a0 a2).bind fun v10 => some (!v10))) else ((m29_keys_Has v5.1 a2).bind fun v11 => (m29_keys_Has a0 a2).bind fun v12 => if (v11 == v12) then ((m31_keys_Empty a0).bind fun v13 => if (!v13) then (some true) else ((m29_keys_Has a0 a2).bind fun v14 => some (!v14))) else (some false))) else (some false)) else (some false)

def m5_l06_KeysMeet_k6 (a0 : GApiRange) (a2 : List UInt8) (v1 : Bool) (v3 : GApiRange × Bool) (v4 : GApiRange × Bool) (v5 : GApiRange × Bool) (b6 : Bool) : Option Bool :=
  if (!(v3.2 == v4.2)) then (some false) else (if v3.2 then ((m29_keys_Has v3.1 a2).bind fun v15 => if (!(v15 == b6)) then (some false) else ((m29_keys_Has v4.1 a2).bind fun v16 => if (!(v16 == b6)) then (some false) else ((m31_keys_Empty v3.1).bind fun v17 => if v17 then (some false) else (if (!v3.2) then (if b6 then (some false) else (m5_l06_KeysMeet_k7 a0 a2 v1 v5 ())) else (m5_l06_KeysMeet_k7 a0 a2 v1 v5 ()))))) else (if (!v3.2) then (if b6 then (some false) else (m5_l06_KeysMeet_k7 a0 a2 v1 v5 ())) else (m5_l06_KeysMeet_k7 a0 a2 v1 v5 ())))

def m5_l06_KeysMeet_k2 (a0 : GApiRange) (a1 : GApiRange) (a2 : List UInt8) (v1 : Bool) (b2 : Unit) : Option Bool :=
  (m13_keys_Meet a0 a1).bind fun v3 => (m13_keys_Meet a1 a0).bind fun v4 => (m13_keys_Meet a0 a0).bind fun v5 => (m29_keys_Has a0 a2).bind fun v18 => if v18 then ((m29_keys_Has a1 a2).bind fun v19 => m5_l06_KeysMeet_k6 a0 a2 v1 v3 v4 v5 v19) else (m5_l06_KeysMeet_k6 a0 a2 v1 v3 v4 v5 false)
end Go.Proofs.Ytiadgkkebmclgaa.Abs
