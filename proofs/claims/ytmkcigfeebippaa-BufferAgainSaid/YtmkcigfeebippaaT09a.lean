/-
  t
-/
import Derived.Test.YtmkcigfeebippaaAbsD
import Derived.Test.YtmkcigfeebippaaProg
namespace Go.Proofs.Ytmkcigfeebippaa.Abs
open Go.RowKit Go.Proofs
structure GApiWrite where
  Key : List UInt8
  Val : List UInt8
  Del : Bool
def eGApiWrite (x : GApiWrite) : List Lf := [.sl x.Key.length (x.Key.flatMap eU8), .sl x.Val.length (x.Val.flatMap eU8), .b x.Del]

structure GBufferBuf where
  L : List GApiWrite
def eGBufferBuf (x : GBufferBuf) : List Lf := [.sl x.L.length (x.L.flatMap eGApiWrite)]

structure GApiKV where
  Key : List UInt8
  Val : List UInt8
def eGApiKV (x : GApiKV) : List Lf := [.sl x.Key.length (x.Key.flatMap eU8), .sl x.Val.length (x.Val.flatMap eU8)]

structure GApiRange where
  Lo : List UInt8
  Hi : List UInt8
  Open : Bool
def eGApiRange (x : GApiRange) : List Lf := [.sl x.Lo.length (x.Lo.flatMap eU8), .sl x.Hi.length (x.Hi.flatMap eU8), .b x.Open]

theorem fi27_0 : FI Try.prog 27 0 0 := ⟨⟨_, _, 1, Try.underlying27, rfl, rfl, by kernel_rfl, by decide⟩⟩
theorem ti22 : TI Try.prog 22 false 1 := ⟨⟨_, Try.underlying22, rfl⟩, by kernel_rfl⟩
theorem si22 : SI Try.prog 22 29 3 := ⟨Try.underlying22, by kernel_rfl, by decide⟩
theorem ti29 : TI Try.prog 29 true 3 := ⟨⟨_, Try.underlying29, rfl⟩, by kernel_rfl⟩
theorem zi29 : ZI Try.prog 29 ([.raw (.slice none 0 0), .raw (.slice none 0 0), .b false]) := zi_of (by kernel_rfl)
theorem sz29 : (Try.prog.info? 29).map (·.size) = some 3 := by kernel_rfl
theorem fi29_0 : FI Try.prog 29 0 0 := ⟨⟨_, _, 1, Try.underlying29, rfl, rfl, by kernel_rfl, by decide⟩⟩
theorem ti23 : TI Try.prog 23 false 1 := ⟨⟨_, Try.underlying23, rfl⟩, by kernel_rfl⟩
theorem si23 : SI Try.prog 23 5 1 := ⟨Try.underlying23, by kernel_rfl, by decide⟩
theorem fn35 : FnI Try.prog 35 := ⟨⟨_, Try.func35, by kernel_rfl, by kernel_rfl⟩⟩
theorem fi29_1 : FI Try.prog 29 1 1 := ⟨⟨_, _, 1, Try.underlying29, rfl, rfl, by kernel_rfl, by decide⟩⟩
theorem fi29_2 : FI Try.prog 29 2 2 := ⟨⟨_, _, 1, Try.underlying29, rfl, rfl, by kernel_rfl, by decide⟩⟩
theorem ti4 : TI Try.prog 4 false 1 := ⟨⟨_, Try.underlying4, rfl⟩, by kernel_rfl⟩
theorem fn23 : FnI Try.prog 23 := ⟨⟨_, Try.func23, by kernel_rfl, by kernel_rfl⟩⟩
theorem ti27 : TI Try.prog 27 true 1 := ⟨⟨_, Try.underlying27, rfl⟩, by kernel_rfl⟩
theorem ei23 : EI Try.prog 23 1 24 [.raw (.slice none 0 0)] := ei_of (by kernel_rfl) (by decide)
theorem ni57 : NI Try.prog 57 := ⟨.inl ⟨_, Try.underlying57⟩⟩
theorem fn25 : FnI Try.prog 25 := ⟨⟨_, Try.func25, by kernel_rfl, by kernel_rfl⟩⟩
theorem si57 : SI Try.prog 57 23 1 := ⟨Try.underlying57, by kernel_rfl, by decide⟩
theorem mixed : Try.prog.follows .mixedOrders = true := by kernel_rfl
theorem xi56 : XI Try.prog 56 Extern.BytealgCompare.compare := ⟨⟨Try.f56, Try.func56, by kernel_rfl, by kernel_rfl, by kernel_rfl, by kernel_rfl⟩⟩
theorem fn44 : FnI Try.prog 44 := ⟨⟨_, Try.func44, by kernel_rfl, by kernel_rfl⟩⟩
theorem fn40 : FnI Try.prog 40 := ⟨⟨_, Try.func40, by kernel_rfl, by kernel_rfl⟩⟩
theorem fn29 : FnI Try.prog 29 := ⟨⟨_, Try.func29, by kernel_rfl, by kernel_rfl⟩⟩
theorem si38 : SI Try.prog 38 46 2 := ⟨Try.underlying38, by kernel_rfl, by decide⟩
theorem ti46 : TI Try.prog 46 true 2 := ⟨⟨_, Try.underlying46, rfl⟩, by kernel_rfl⟩
theorem zi46 : ZI Try.prog 46 ([.raw (.slice none 0 0), .raw (.slice none 0 0)]) := zi_of (by kernel_rfl)
theorem sz46 : (Try.prog.info? 46).map (·.size) = some 2 := by kernel_rfl
theorem fi46_0 : FI Try.prog 46 0 0 := ⟨⟨_, _, 1, Try.underlying46, rfl, rfl, by kernel_rfl, by decide⟩⟩
theorem fi40_0 : FI Try.prog 40 0 0 := ⟨⟨_, _, 1, Try.underlying40, rfl, rfl, by kernel_rfl, by decide⟩⟩
theorem fi40_2 : FI Try.prog 40 2 2 := ⟨⟨_, _, 1, Try.underlying40, rfl, rfl, by kernel_rfl, by decide⟩⟩
theorem fi40_1 : FI Try.prog 40 1 1 := ⟨⟨_, _, 1, Try.underlying40, rfl, rfl, by kernel_rfl, by decide⟩⟩
theorem sz27 : (Try.prog.info? 27).map (·.size) = some 1 := by kernel_rfl
theorem ti40 : TI Try.prog 40 true 3 := ⟨⟨_, Try.underlying40, rfl⟩, by kernel_rfl⟩
theorem sz40 : (Try.prog.info? 40).map (·.size) = some 3 := by kernel_rfl
theorem ei46 : EI Try.prog 46 2 48 [.raw (.slice none 0 0), .raw (.slice none 0 0)] := ei_of (by kernel_rfl) (by decide)
theorem ni38 : NI Try.prog 38 := ⟨.inl ⟨_, Try.underlying38⟩⟩
theorem fi46_1 : FI Try.prog 46 1 1 := ⟨⟨_, _, 1, Try.underlying46, rfl, rfl, by kernel_rfl, by decide⟩⟩
theorem pi46 : PI Try.prog 46 [(0, 1), (1, 1)] := pi_of Try.underlying46 (by kernel_rfl) (by kernel_rfl)
theorem fn13 : FnI Try.prog 13 := ⟨⟨_, Try.func13, by kernel_rfl, by kernel_rfl⟩⟩
theorem fn31 : FnI Try.prog 31 := ⟨⟨_, Try.func31, by kernel_rfl, by kernel_rfl⟩⟩
theorem fn32 : FnI Try.prog 32 := ⟨⟨_, Try.func32, by kernel_rfl, by kernel_rfl⟩⟩
theorem fn33 : FnI Try.prog 33 := ⟨⟨_, Try.func33, by kernel_rfl, by kernel_rfl⟩⟩
theorem zi27 : ZI Try.prog 27 ([.raw (.slice none 0 0)]) := zi_of (by kernel_rfl)
theorem pi27 : PI Try.prog 27 [(0, 1)] := pi_of Try.underlying27 (by kernel_rfl) (by kernel_rfl)
theorem ei5 : EI Try.prog 5 1 1 [.i .u8 0] := ei_of (by kernel_rfl) (by decide)
theorem pi29 : PI Try.prog 29 [(0, 1), (1, 1), (2, 1)] := pi_of Try.underlying29 (by kernel_rfl) (by kernel_rfl)
theorem fn37 : FnI Try.prog 37 := ⟨⟨_, Try.func37, by kernel_rfl, by kernel_rfl⟩⟩
theorem fn36 : FnI Try.prog 36 := ⟨⟨_, Try.func36, by kernel_rfl, by kernel_rfl⟩⟩
theorem fn28 : FnI Try.prog 28 := ⟨⟨_, Try.func28, by kernel_rfl, by kernel_rfl⟩⟩
theorem fn24 : FnI Try.prog 24 := ⟨⟨_, Try.func24, by kernel_rfl, by kernel_rfl⟩⟩
theorem ei29 : EI Try.prog 29 3 56 [.raw (.slice none 0 0), .raw (.slice none 0 0), .b false] := ei_of (by kernel_rfl) (by decide)
theorem ni22 : NI Try.prog 22 := ⟨.inl ⟨_, Try.underlying22⟩⟩
theorem fn26 : FnI Try.prog 26 := ⟨⟨_, Try.func26, by kernel_rfl, by kernel_rfl⟩⟩
theorem fn27 : FnI Try.prog 27 := ⟨⟨_, Try.func27, by kernel_rfl, by kernel_rfl⟩⟩
theorem fn10 : FnI Try.prog 10 := ⟨⟨_, Try.func10, by kernel_rfl, by kernel_rfl⟩⟩
theorem zi40 : ZI Try.prog 40 ([.raw (.slice none 0 0), .raw (.slice none 0 0), .b false]) := zi_of (by kernel_rfl)
theorem pi40 : PI Try.prog 40 [(0, 1), (1, 1), (2, 1)] := pi_of Try.underlying40 (by kernel_rfl) (by kernel_rfl)
theorem fn18 : FnI Try.prog 18 := ⟨⟨_, Try.func18, by kernel_rfl, by kernel_rfl⟩⟩
theorem fn8 : FnI Try.prog 8 := ⟨⟨_, Try.func8, by kernel_rfl, by kernel_rfl⟩⟩
theorem fn9 : FnI Try.prog 9 := ⟨⟨_, Try.func9, by kernel_rfl, by kernel_rfl⟩⟩
theorem fn11 : FnI Try.prog 11 := ⟨⟨_, Try.func11, by kernel_rfl, by kernel_rfl⟩⟩
theorem fn12 : FnI Try.prog 12 := ⟨⟨_, Try.func12, by kernel_rfl, by kernel_rfl⟩⟩
theorem fn14 : FnI Try.prog 14 := ⟨⟨_, Try.func14, by kernel_rfl, by kernel_rfl⟩⟩
theorem fn15 : FnI Try.prog 15 := ⟨⟨_, Try.func15, by kernel_rfl, by kernel_rfl⟩⟩
theorem ti5 : TI Try.prog 5 false 1 := ⟨⟨_, Try.underlying5, rfl⟩, by kernel_rfl⟩
theorem fn30 : FnI Try.prog 30 := ⟨⟨_, Try.func30, by kernel_rfl, by kernel_rfl⟩⟩
theorem fn16 : FnI Try.prog 16 := ⟨⟨_, Try.func16, by kernel_rfl, by kernel_rfl⟩⟩
theorem fn17 : FnI Try.prog 17 := ⟨⟨_, Try.func17, by kernel_rfl, by kernel_rfl⟩⟩
theorem fn19 : FnI Try.prog 19 := ⟨⟨_, Try.func19, by kernel_rfl, by kernel_rfl⟩⟩
theorem fn20 : FnI Try.prog 20 := ⟨⟨_, Try.func20, by kernel_rfl, by kernel_rfl⟩⟩
theorem fn21 : FnI Try.prog 21 := ⟨⟨_, Try.func21, by kernel_rfl, by kernel_rfl⟩⟩
theorem fn22 : FnI Try.prog 22 := ⟨⟨_, Try.func22, by kernel_rfl, by kernel_rfl⟩⟩

def m35_keys_Sane (a0 : List UInt8) : Option Bool :=
  if (decide (1 ≤ (a0.length : Int))) then (some (decide ((a0.length : Int) ≤ 16))) else (some false)

set_option maxRecDepth 100000 in
theorem m35_keys_Sane_c {a0 : List UInt8} {r : Bool} (h : m35_keys_Sane a0 = some r) : CallsA Try.prog 35 [.one (.sl a0.length (a0.flatMap eU8))] (· = .s (.one (.b r))) := by
  unfold m35_keys_Sane at h
  refine callsA_of Try.func35 rfl (nt := 11) rfl (Nat.le_of_ble_eq_true rfl) ?_
  intro w0 S0
  refine cseq ?_
  refine cregion ?_
  refine sv rfl (opv_as rfl) ?_
  refine snil ?_
  refine cseq ?_
  refine cregion ?_
  refine sv rfl (opv_mv rfl) ?_
  refine sv rfl (opv_len_sl si23 rfl) ?_
  refine sv rfl (opv_geq rfl rfl) ?_
  refine sv rfl (opv_mv rfl) ?_
  refine ssplit 6 rfl (fun hc => ?_) (fun hc => ?_)
  · replace h := ite_t hc h
    clear hc
    refine son rfl rfl rfl ?_
    refine sv rfl (opv_mv rfl) ?_
    refine son rfl rfl rfl ?_
    refine sv rfl (opv_len_sl si23 rfl) ?_
    refine son rfl rfl rfl ?_
    refine sv rfl (opv_leq rfl rfl) ?_
    refine sv rfl (opv_pick_t rfl rfl) ?_
    refine sv rfl (opv_as rfl) ?_
    refine snil ?_
    refine cret ?_
    obtain rfl := Option.some.inj h
    refine ⟨Or.inr rfl, _, _, _, (resVs_cons (ResV.tmp _ _ rfl) resVs_nil), (pubA_id rfl), ?_⟩
    rfl
  · replace h := ite_f hc h
    clear hc
    refine soff rfl rfl rfl rfl ?_
    refine soff rfl rfl rfl rfl ?_
    refine soff rfl rfl rfl rfl ?_
    refine sv rfl (opv_pick_f rfl rfl) ?_
    refine sv rfl (opv_as rfl) ?_
    refine snil ?_
    refine cret ?_
    obtain rfl := Option.some.inj h
    refine ⟨Or.inr rfl, _, _, _, (resVs_cons (ResV.tmp _ _ rfl) resVs_nil), (pubA_id rfl), ?_⟩
    rfl

def m23_buffer_saneWrite (a0 : GApiWrite) : Option Bool :=
  (m35_keys_Sane a0.Key).bind fun v1 => if v1 then (if (decide ((a0.Val.length : Int) ≤ 32)) then (if a0.Del then (some (!(decide (0 < (a0.Val.length : Int))))) else (some true)) else (some false)) else (some false)

set_option maxRecDepth 100000 in
theorem m23_buffer_saneWrite_c {a0 : GApiWrite} {r : Bool} (h : m23_buffer_saneWrite a0 = some r) : CallsA Try.prog 23 [.agg [.sl a0.Key.length (a0.Key.flatMap eU8), .sl a0.Val.length (a0.Val.flatMap eU8), .b a0.Del]] (· = .s (.one (.b r))) := by
  unfold m23_buffer_saneWrite at h
  refine callsA_of Try.func23 rfl (nt := 23) rfl (Nat.le_of_ble_eq_true rfl) ?_
  intro w0 S0
  refine cseq ?_
  refine cregion ?_
  refine sbox rfl rfl ?_
  refine sv rfl (opv_as rfl) ?_
  refine snil ?_
  refine cseq ?_
  refine cregion ?_
  refine sv rfl (opv_fieldAddr_lp fi29_0 rfl) ?_
  refine sv rfl (opv_load1 ti23 rfl (.lp _ _ _ rfl) rfl) ?_
  obtain ⟨v1, hv1, h⟩ := bind_eq h
  refine scall1 rfl fn35 (opnds_cons rfl opnds_nil) (pubA_id rfl) (m35_keys_Sane_c hv1) ?_
  refine sv rfl (opv_mv rfl) ?_
  refine ssplit 6 rfl (fun hc => ?_) (fun hc => ?_)
  · replace h := ite_t hc h
    clear hc
    refine son rfl rfl rfl ?_
    refine sv rfl (opv_fieldAddr_lp fi29_1 rfl) ?_
    refine son rfl rfl rfl ?_
    refine sv rfl (opv_load1 ti23 rfl (.lp _ _ _ rfl) rfl) ?_
    refine son rfl rfl rfl ?_
    refine sv rfl (opv_len_sl si23 rfl) ?_
    refine son rfl rfl rfl ?_
    refine sv rfl (opv_leq rfl rfl) ?_
    refine sv rfl (opv_pick_t rfl rfl) ?_
    refine sv rfl (opv_mv rfl) ?_
    refine ssplit 12 rfl (fun hc => ?_) (fun hc => ?_)
    · replace h := ite_t hc h
      clear hc
      refine son rfl rfl rfl ?_
      refine sv rfl (opv_fieldAddr_lp fi29_2 rfl) ?_
      refine son rfl rfl rfl ?_
      refine sv rfl (opv_load1 ti4 rfl (.lp _ _ _ rfl) rfl) ?_
      refine son rfl rfl rfl ?_
      refine sv rfl (opv_mv rfl) ?_
      refine ssplit 15 rfl (fun hc => ?_) (fun hc => ?_)
      · replace h := ite_t hc h
        clear hc
        refine son rfl rfl rfl ?_
        refine sv rfl (opv_fieldAddr_lp fi29_1 rfl) ?_
        refine son rfl rfl rfl ?_
        refine sv rfl (opv_load1 ti23 rfl (.lp _ _ _ rfl) rfl) ?_
        refine son rfl rfl rfl ?_
        refine sv rfl (opv_len_sl si23 rfl) ?_
        refine son rfl rfl rfl ?_
        refine sv rfl (opv_gtr rfl rfl) ?_
        refine son rfl rfl rfl ?_
        refine sv rfl (opv_pick_t rfl rfl) ?_
        refine son rfl rfl rfl ?_
        refine sv rfl (opv_not rfl) ?_
        refine sv rfl (opv_pick_t rfl rfl) ?_
        refine sv rfl (opv_as rfl) ?_
        refine snil ?_
        refine cret ?_
        obtain rfl := Option.some.inj h
        refine ⟨Or.inr rfl, _, _, _, (resVs_cons (ResV.tmp _ _ rfl) resVs_nil), (pubA_id rfl), ?_⟩
        rfl
      · replace h := ite_f hc h
        clear hc
        refine soff rfl rfl rfl rfl ?_
        refine soff rfl rfl rfl rfl ?_
        refine soff rfl rfl rfl rfl ?_
        refine soff rfl rfl rfl rfl ?_
        refine son rfl rfl rfl ?_
        refine sv rfl (opv_pick_f rfl rfl) ?_
        refine son rfl rfl rfl ?_
        refine sv rfl (opv_not rfl) ?_
        refine sv rfl (opv_pick_t rfl rfl) ?_
        refine sv rfl (opv_as rfl) ?_
        refine snil ?_
        refine cret ?_
        obtain rfl := Option.some.inj h
        refine ⟨Or.inr rfl, _, _, _, (resVs_cons (ResV.tmp _ _ rfl) resVs_nil), (pubA_id rfl), ?_⟩
        rfl
    · replace h := ite_f hc h
      clear hc
      refine soff rfl rfl rfl rfl ?_
      refine soff rfl rfl rfl rfl ?_
      refine soff rfl rfl rfl rfl ?_
      refine soffu rfl rfl rfl ?_
      refine soffu rfl rfl rfl ?_
      refine soffu rfl rfl rfl ?_
      refine soffu rfl rfl rfl ?_
      refine soff rfl rfl rfl rfl ?_
      refine soff rfl rfl rfl rfl ?_
      refine sv rfl (opv_pick_f rfl rfl) ?_
      refine sv rfl (opv_as rfl) ?_
      refine snil ?_
      refine cret ?_
      obtain rfl := Option.some.inj h
      refine ⟨Or.inr rfl, _, _, _, (resVs_cons (ResV.tmp _ _ rfl) resVs_nil), (pubA_id rfl), ?_⟩
      rfl
  · replace h := ite_f hc h
    clear hc
    refine soff rfl rfl rfl rfl ?_
    refine soff rfl rfl rfl rfl ?_
    refine soff rfl rfl rfl rfl ?_
    refine soff rfl rfl rfl rfl ?_
    refine sv rfl (opv_pick_f rfl rfl) ?_
    refine sv rfl (opv_mv rfl) ?_
    refine soff rfl rfl rfl rfl ?_
    refine soff rfl rfl rfl rfl ?_
    refine soff rfl rfl rfl rfl ?_
    refine soffu rfl rfl rfl ?_
    refine soffu rfl rfl rfl ?_
    refine soffu rfl rfl rfl ?_
    refine soffu rfl rfl rfl ?_
    refine soff rfl rfl rfl rfl ?_
    refine soff rfl rfl rfl rfl ?_
    refine sv rfl (opv_pick_f rfl rfl) ?_
    refine sv rfl (opv_as rfl) ?_
    refine snil ?_
    refine cret ?_
    obtain rfl := Option.some.inj h
    refine ⟨Or.inr rfl, _, _, _, (resVs_cons (ResV.tmp _ _ rfl) resVs_nil), (pubA_id rfl), ?_⟩
    rfl

def m25_buffer_keysOf_k1 (b1 : (List (List UInt8))) : Option (List (List UInt8)) :=
  some b1

def m25_buffer_keysOf_s2 (a0 : GBufferBuf) (s2 : Int × (List (List UInt8))) : Option (LB (Int × (List (List UInt8))) ((List (List UInt8)))) :=
  if (decide (s2.1 < (a0.L.length : Int))) then ((idx a0.L s2.1).bind fun u3 => if (s2.2.length + [u3.Key].length) * 24 ≤ 140737488355328 then (some (.cont ((wI (s2.1 + 1)), (s2.2 ++ [u3.Key])))) else none) else (some (.brk s2.2))
def m25_buffer_keysOf (a0 : GBufferBuf) : Option (List (List UInt8)) :=
  (iterB (m25_buffer_keysOf_s2 a0) fuel (0, ([] : List (List UInt8)))).bind fun e5 => m25_buffer_keysOf_k1 e5

set_option maxRecDepth 100000 in
theorem m25_buffer_keysOf_c {a0 : GBufferBuf} {r : (List (List UInt8))} (h : m25_buffer_keysOf a0 = some r) : CallsA Try.prog 25 [.agg [.sl a0.L.length (a0.L.flatMap eGApiWrite)]] (· = .s (.one (.sl r.length (r.flatMap (eL eU8))))) := by
  unfold m25_buffer_keysOf at h
  refine callsA_of Try.func25 rfl (nt := 20) rfl (Nat.le_of_ble_eq_true rfl) ?_
  intro w0 S0
  refine cseq ?_
  refine cregion ?_
  refine sbox rfl rfl ?_
  refine sv rfl (opv_as rfl) ?_
  refine snil ?_
  refine cseq ?_
  refine cregion ?_
  refine sv rfl (opv_as rfl) ?_
  refine snil ?_
  refine cseq ?_
  refine cseq ?_
  refine cregion ?_
  refine sv rfl (opv_fieldAddr_lp fi27_0 rfl) ?_
  refine sv rfl (opv_load1 ti22 rfl (.lp _ _ _ rfl) rfl) ?_
  refine sv rfl (opv_len_sl si22 rfl) ?_
  refine sv rfl (opv_mv rfl) ?_
  refine snil ?_
  refine sadopt_c 23 1 3 (by decide) rfl ?_
  refine cjoin ((List (List UInt8))) (fun b1 => [(3, .s (.one (.ls 1 b1.length)))]) (fun b1 => [.box [.sl a0.L.length (a0.L.flatMap eGApiWrite)], .arr 23 1 0 (b1.flatMap (eL eU8))]) (fun b1 => m25_buffer_keysOf_k1 b1 = some r) (fun _ _ => inbL_of rfl) (fun _ _ => blkinb_of rfl) (fun _ _ => Nat.le_of_ble_eq_true rfl) (fun b1 h => ?_) ?_
  · unfold m25_buffer_keysOf_k1 at h
    refine cseq ?_
    refine cregion ?_
    refine sv rfl (opv_mv rfl) ?_
    refine sv rfl (opv_as rfl) ?_
    refine snil ?_
    refine cret ?_
    obtain rfl := Option.some.inj h
    refine ⟨Or.inr rfl, _, _, _, (resVs_cons (ResV.tmp _ _ rfl) resVs_nil), (by (repeat' first | exact PubA.nil _ | apply PubA.cons | apply PubV.one | apply PubV.agg | exact PubL.nil | exact PubL.ls _ _ _ _ _ _ rfl (flat_len (f := (eL eU8)) (fun _ => rfl) _).symm | exact PubL.id _ rfl | exact PubLs.nil _ | apply PubLs.cons)), ?_⟩
    rfl
  · skip
    refine cblock ?_
    obtain ⟨x2, hx2, ho2⟩ := bind_eq h
    refine awc_loop (G := Nat × (Int × (List (List UInt8)))) (fun g => [(3, .s (.one (.ls 1 g.2.2.length))), (7, .s (.one (.sl a0.L.length (a0.L.flatMap eGApiWrite)))), (8, .s (.one (.i .i64 (a0.L.length : Int)))), (9, .s (.one (.i .i64 g.2.1)))]) (fun g => [.box [.sl a0.L.length (a0.L.flatMap eGApiWrite)], .arr 23 1 0 (g.2.2.flatMap (eL eU8))]) (fun g => iterB (m25_buffer_keysOf_s2 a0) g.1 g.2 = some x2) (fun g => g.1) (fuel, (0, ([] : List (List UInt8)))) hx2 ⟨rfl, rfl, rfl, rfl, trivial⟩ [] rfl (fun _ _ => inbL_of rfl) (fun _ _ => blkinb_of rfl) (fun _ _ => Nat.le_of_ble_eq_true rfl) ?_
    clear hx2 h
    rintro ⟨n2, s2⟩ h
    obtain ⟨n2, y2, rfl, h, hk2⟩ := iterB_eq h
    unfold m25_buffer_keysOf_s2 at h
    refine cseq ?_
    refine cregion ?_
    refine sv rfl (opv_lss rfl rfl) ?_
    refine snil ?_
    refine cseq ?_
    refine ccond rfl (fun hc => ?_) (fun hc => ?_)
    · replace h := ite_t hc h
      clear hc
      refine cskip ?_
      refine then_normal ?_
      refine cseq ?_
      refine cblock ?_
      refine cseq ?_
      refine cregion ?_
      obtain ⟨u3, hu3, h⟩ := bind_eq h
      refine sv rfl (opv_ix (f := eGApiWrite) si22 (fun _ => rfl) rfl rfl rfl rfl hu3) ?_
      refine sv rfl (opv_loadNe (ys := [.sl u3.Key.length (u3.Key.flatMap eU8), .sl u3.Val.length (u3.Val.flatMap eU8), .b u3.Del]) ti29 rfl (.cp _) rfl rfl) ?_
      refine salloc rfl zi29 ?_
      refine sstore sz29 rfl rfl rfl rfl (Nat.le_of_ble_eq_true rfl) ?_
      refine smem [.box [.sl a0.L.length (a0.L.flatMap eGApiWrite)], .arr 23 1 0 (s2.2.flatMap (eL eU8)), .box [.sl u3.Key.length (u3.Key.flatMap eU8), .sl u3.Val.length (u3.Val.flatMap eU8), .b u3.Del]] rfl ?_
      refine snil ?_
      refine cregion ?_
      refine sv rfl (opv_mv rfl) ?_
      refine sv rfl (opv_fieldAddr_lp fi29_0 rfl) ?_
      refine sv rfl (opv_load1 ti23 rfl (.lp _ _ _ rfl) rfl) ?_
      refine sbuild1 rfl Try.underlying57 ei23 rfl rfl (List.all_eq_true.1 rfl) (by decide) ?_
      refine smem [.box [.sl a0.L.length (a0.L.flatMap eGApiWrite)], .arr 23 1 0 (s2.2.flatMap (eL eU8)), .box [.sl u3.Key.length (u3.Key.flatMap eU8), .sl u3.Val.length (u3.Val.flatMap eU8), .b u3.Del], .arr 23 1 0 ([u3.Key].flatMap (eL eU8))] rfl ?_
      obtain ⟨hb4, h⟩ := chk_eq h
      refine sapp (f := (eL eU8)) (xs := s2.2) (us := [u3.Key]) rfl Try.underlying57 ei23 ni57 (fun _ => rfl) rfl rfl (.one _ _ _ _ (.ls _ _ _ _ _ _ rfl (flat_len (f := (eL eU8)) (fun _ => rfl) [u3.Key]).symm)) rfl rfl rfl (.sl _ _ _ (flat_len (f := (eL eU8)) (fun _ => rfl) _)) rfl rfl hb4 (by decide) ?_
      refine sv rfl (opv_as rfl) ?_
      refine snil0 ?_
      refine block_normal ?_
      refine then_normal ?_
      refine cregion ?_
      refine sv rfl (opv_add rfl rfl) ?_
      refine sv rfl (opv_mv rfl) ?_
      refine snil ?_
      obtain rfl := Option.some.inj h
      exact ⟨(n2, ((wI (s2.1 + 1)), (s2.2 ++ [u3.Key]))), _, hk2, ⟨rfl, rfl, rfl, rfl, trivial⟩, rfl, Nat.lt_succ_self _⟩
    · replace h := ite_f hc h
      clear hc
      refine cexit ?_
      refine then_exit ?_
      refine then_exit ?_
      refine block_hit ?_
      refine then_normal ?_
      obtain rfl := Option.some.inj h
      obtain rfl : _ = x2 := hk2
      exact ⟨s2.2, _, ho2, ⟨rfl, trivial⟩, rfl⟩

def m44_bytes_Compare (a0 : List UInt8) (a1 : List UInt8) : Option Int :=
  some (cmpL a0 a1)

set_option maxRecDepth 100000 in
theorem m44_bytes_Compare_c {a0 : List UInt8} {a1 : List UInt8} {r : Int} (h : m44_bytes_Compare a0 a1 = some r) : CallsA Try.prog 44 [.one (.sl a0.length (a0.flatMap eU8)), .one (.sl a1.length (a1.flatMap eU8))] (· = .s (.one (.i .i64 r))) := by
  unfold m44_bytes_Compare at h
  refine callsA_of Try.func44 rfl (nt := 8) rfl (Nat.le_of_ble_eq_true rfl) ?_
  intro w0 S0
  refine cseq ?_
  refine cregion ?_
  refine sv rfl (opv_as rfl) ?_
  refine snil ?_
  refine cseq ?_
  refine cregion ?_
  refine sv rfl (opv_mv rfl) ?_
  refine sv rfl (opv_mv rfl) ?_
  refine sv rfl (opv_cmp' (a := a0) (b := a1) xi56 rfl rfl rfl rfl rfl rfl) ?_
  refine sv rfl (opv_as rfl) ?_
  refine snil ?_
  refine cret ?_
  obtain rfl := Option.some.inj h
  refine ⟨Or.inr rfl, _, _, _, (resVs_cons (ResV.tmp _ _ rfl) resVs_nil), (pubA_id rfl), ?_⟩
  rfl

def m40_keys_Cmp (a0 : List UInt8) (a1 : List UInt8) : Option Int :=
  (m44_bytes_Compare a0 a1).bind fun v1 => some v1

set_option maxRecDepth 100000 in
theorem m40_keys_Cmp_c {a0 : List UInt8} {a1 : List UInt8} {r : Int} (h : m40_keys_Cmp a0 a1 = some r) : CallsA Try.prog 40 [.one (.sl a0.length (a0.flatMap eU8)), .one (.sl a1.length (a1.flatMap eU8))] (· = .s (.one (.i .i64 r))) := by
  unfold m40_keys_Cmp at h
  refine callsA_of Try.func40 rfl (nt := 8) rfl (Nat.le_of_ble_eq_true rfl) ?_
  intro w0 S0
  refine cseq ?_
  refine cregion ?_
  refine sv rfl (opv_as rfl) ?_
  refine snil ?_
  refine cseq ?_
  refine cregion ?_
  refine sv rfl (opv_mv rfl) ?_
  refine sv rfl (opv_mv rfl) ?_
  obtain ⟨v1, hv1, h⟩ := bind_eq h
  refine scall1 rfl fn44 (opnds_cons rfl (opnds_cons rfl opnds_nil)) (pubA_id rfl) (m44_bytes_Compare_c hv1) ?_
  refine sv rfl (opv_as rfl) ?_
  refine snil ?_
  refine cret ?_
  obtain rfl := Option.some.inj h
  refine ⟨Or.inr rfl, _, _, _, (resVs_cons (ResV.tmp _ _ rfl) resVs_nil), (pubA_id rfl), ?_⟩
  rfl

def m29_keys_Sorted_k1 (b1 : Unit) : Option Bool :=
  some true

def m29_keys_Sorted_s2 (a0 : List (List UInt8)) (s2 : Int) : Option (LR (Int) (Unit) (Bool)) :=
  if (decide (s2 < (a0.length : Int))) then ((idx a0 (wI (s2 - 1))).bind fun u3 => (idx a0 s2).bind fun u4 => (m40_keys_Cmp u3 u4).bind fun v5 => if (decide (0 ≤ v5)) then (some (.ret false)) else (some (.cont (wI (s2 + 1))))) else (some (.brk ()))
def m29_keys_Sorted (a0 : List (List UInt8)) : Option Bool :=
  (iter (m29_keys_Sorted_s2 a0) fuel 1).bind fun x => match x with | .inl r => some r | .inr e6 => m29_keys_Sorted_k1 e6

set_option maxRecDepth 100000 in
theorem m29_keys_Sorted_c {a0 : List (List UInt8)} {r : Bool} (h : m29_keys_Sorted a0 = some r) : CallsA Try.prog 29 [.one (.sl a0.length (a0.flatMap (eL eU8)))] (· = .s (.one (.b r))) := by
  unfold m29_keys_Sorted at h
  refine callsA_of Try.func29 rfl (nt := 21) rfl (Nat.le_of_ble_eq_true rfl) ?_
  intro w0 S0
  refine cseq ?_
  refine cregion ?_
  refine sv rfl (opv_as rfl) ?_
  refine snil ?_
  refine cseq ?_
  refine cseq ?_
  refine cregion ?_
  refine sv rfl (opv_as rfl) ?_
  refine snil ?_
  refine cjoin (Unit) (fun b1 => []) (fun b1 => []) (fun b1 => m29_keys_Sorted_k1 b1 = some r) (fun _ _ => inbL_of rfl) (fun _ _ => blkinb_of rfl) (fun _ _ => Nat.le_of_ble_eq_true rfl) (fun b1 h => ?_) ?_
  · unfold m29_keys_Sorted_k1 at h
    refine cseq ?_
    refine cregion ?_
    refine sv rfl (opv_as rfl) ?_
    refine snil ?_
    refine cret ?_
    obtain rfl := Option.some.inj h
    refine ⟨Or.inr rfl, _, _, _, (resVs_cons (ResV.tmp _ _ rfl) resVs_nil), (pubA_id rfl), ?_⟩
    rfl
  · skip
    refine cblock ?_
    obtain ⟨x2, hx2, ho2⟩ := bind_eq h
    refine awc_loop (G := Nat × (Int)) (fun g => [(0, .s (.one (.sl a0.length (a0.flatMap (eL eU8))))), (3, .s (.one (.i .i64 g.2)))]) (fun g => []) (fun g => iter (m29_keys_Sorted_s2 a0) g.1 g.2 = some x2) (fun g => g.1) (fuel, 1) hx2 ⟨rfl, rfl, trivial⟩ [] rfl (fun _ _ => inbL_of rfl) (fun _ _ => blkinb_of rfl) (fun _ _ => Nat.le_of_ble_eq_true rfl) ?_
    clear hx2 h
    rintro ⟨n2, s2⟩ h
    obtain ⟨n2, y2, rfl, h, hk2⟩ := iter_eq h
    unfold m29_keys_Sorted_s2 at h
    refine cseq ?_
    refine cseq ?_
    refine cregion ?_
    refine sv rfl (opv_mv rfl) ?_
    refine sv rfl (opv_mv rfl) ?_
    refine sv rfl (opv_len_sl si57 rfl) ?_
    refine sv rfl (opv_lss rfl rfl) ?_
    refine snil ?_
    refine ccond rfl (fun hc => ?_) (fun hc => ?_)
    · replace h := ite_t hc h
      clear hc
      refine cskip ?_
      refine then_normal ?_
      refine cseq ?_
      refine cblock ?_
      refine cseq ?_
      refine cdraw mixed (by kernel_rfl) ?_
      refine dv rfl (opv_mv rfl) ?_
      refine dv rfl (opv_mv rfl) ?_
      refine dv rfl (opv_sub rfl rfl) ?_
      obtain ⟨u3, hu3, h⟩ := bind_eq h
      refine dv rfl (opv_ix (f := (eL eU8)) si57 (fun _ => rfl) rfl rfl rfl rfl hu3) ?_
      refine dv rfl (opv_load1 ti23 rfl (.cp _) rfl) ?_
      refine dv rfl (opv_mv rfl) ?_
      refine dv rfl (opv_mv rfl) ?_
      obtain ⟨u4, hu4, h⟩ := bind_eq h
      refine dv rfl (opv_ix (f := (eL eU8)) si57 (fun _ => rfl) rfl rfl rfl rfl hu4) ?_
      refine dv rfl (opv_load1 ti23 rfl (.cp _) rfl) ?_
      obtain ⟨v5, hv5, h⟩ := bind_eq h
      refine dd rfl (opD_call fn40 (opnds_cons rfl (opnds_cons rfl opnds_nil)) rfl (m40_keys_Cmp_c hv5)) ?_
      refine dv rfl (opv_geq rfl rfl) ?_
      refine dnil ?_
      refine then_normal ?_
      refine ccond rfl (fun hc => ?_) (fun hc => ?_)
      · replace h := ite_t hc h
        clear hc
        refine cseq ?_
        refine cregion ?_
        refine sv rfl (opv_as rfl) ?_
        refine snil ?_
        refine cret ?_
        refine block_ret ?_
        refine then_ret ?_
        refine then_ret ?_
        refine block_ret ?_
        refine then_ret ?_
        obtain rfl := Option.some.inj h
        obtain rfl : Sum.inl _ = x2 := hk2
        replace ho2 : some _ = some _ := ho2
        obtain rfl := Option.some.inj ho2
        refine ⟨Or.inr rfl, _, _, _, (resVs_cons (ResV.tmp _ _ rfl) resVs_nil), (pubA_id rfl), ?_⟩
        rfl
      · replace h := ite_f hc h
        clear hc
        refine cskip ?_
        refine block_normal ?_
        refine then_normal ?_
        refine cregion ?_
        refine sv rfl (opv_mv rfl) ?_
        refine sv rfl (opv_add rfl rfl) ?_
        refine sv rfl (opv_as rfl) ?_
        refine snil ?_
        obtain rfl := Option.some.inj h
        exact ⟨(n2, (wI (s2 + 1))), _, hk2, ⟨rfl, rfl, trivial⟩, rfl, Nat.lt_succ_self _⟩
    · replace h := ite_f hc h
      clear hc
      refine cexit ?_
      refine then_exit ?_
      refine then_exit ?_
      refine block_hit ?_
      refine then_normal ?_
      obtain rfl := Option.some.inj h
      obtain rfl : _ = x2 := hk2
      exact ⟨(), _, ho2, trivial, rfl⟩

def m13_buffer_Sane_k1 (a0 : GBufferBuf) (b1 : Unit) : Option Bool :=
  if (decide ((a0.L.length : Int) ≤ 16)) then ((m25_buffer_keysOf a0).bind fun v2 => (m29_keys_Sorted v2).bind fun v3 => some v3) else (some false)

def m13_buffer_Sane_s4 (a0 : GBufferBuf) (s4 : Int) : Option (LR (Int) (Unit) (Bool)) :=
  if (decide (s4 < (a0.L.length : Int))) then ((idx a0.L s4).bind fun u5 => (m23_buffer_saneWrite u5).bind fun v6 => if (!v6) then (some (.ret false)) else (some (.cont (wI (s4 + 1))))) else (some (.brk ()))
def m13_buffer_Sane (a0 : GBufferBuf) : Option Bool :=
  (iter (m13_buffer_Sane_s4 a0) fuel 0).bind fun x => match x with | .inl r => some r | .inr e7 => m13_buffer_Sane_k1 a0 e7

set_option maxRecDepth 100000 in
theorem m13_buffer_Sane_c {a0 : GBufferBuf} {r : Bool} (h : m13_buffer_Sane a0 = some r) : CallsA Try.prog 13 [.agg [.sl a0.L.length (a0.L.flatMap eGApiWrite)]] (· = .s (.one (.b r))) := by
  unfold m13_buffer_Sane at h
  refine callsA_of Try.func13 rfl (nt := 25) rfl (Nat.le_of_ble_eq_true rfl) ?_
  intro w0 S0
  refine cseq ?_
  refine cregion ?_
  refine sbox rfl rfl ?_
  refine sv rfl (opv_as rfl) ?_
  refine snil ?_
  refine cseq ?_
  refine cseq ?_
  refine cregion ?_
  refine sv rfl (opv_fieldAddr_lp fi27_0 rfl) ?_
  refine sv rfl (opv_load1 ti22 rfl (.lp _ _ _ rfl) rfl) ?_
  refine sv rfl (opv_len_sl si22 rfl) ?_
  refine sv rfl (opv_mv rfl) ?_
  refine snil ?_
  refine cjoin (Unit) (fun b1 => [(1, .s (.one (.lp 0 0)))]) (fun b1 => [.box [.sl a0.L.length (a0.L.flatMap eGApiWrite)]]) (fun b1 => m13_buffer_Sane_k1 a0 b1 = some r) (fun _ _ => inbL_of rfl) (fun _ _ => blkinb_of rfl) (fun _ _ => Nat.le_of_ble_eq_true rfl) (fun b1 h => ?_) ?_
  · unfold m13_buffer_Sane_k1 at h
    refine cseq ?_
    refine cregion ?_
    refine sv rfl (opv_fieldAddr_lp fi27_0 rfl) ?_
    refine sv rfl (opv_load1 ti22 rfl (.lp _ _ _ rfl) rfl) ?_
    refine sv rfl (opv_len_sl si22 rfl) ?_
    refine sv rfl (opv_leq rfl rfl) ?_
    refine sv rfl (opv_mv rfl) ?_
    refine ssplit 20 rfl (fun hc => ?_) (fun hc => ?_)
    · replace h := ite_t hc h
      clear hc
      refine son rfl rfl rfl ?_
      refine sv rfl (opv_loadN ti27 rfl (.lp _ _ _ rfl) (Nat.le_of_ble_eq_true rfl)) ?_
      refine son rfl rfl rfl ?_
      obtain ⟨v2, hv2, h⟩ := bind_eq h
      refine scall1 rfl fn25 (opnds_cons rfl opnds_nil) (pubA_id rfl) (m25_buffer_keysOf_c hv2) ?_
      refine son rfl rfl rfl ?_
      obtain ⟨v3, hv3, h⟩ := bind_eq h
      refine scall1 rfl fn29 (opnds_cons rfl opnds_nil) (pubA_id rfl) (m29_keys_Sorted_c hv3) ?_
      refine sv rfl (opv_pick_t rfl rfl) ?_
      refine sv rfl (opv_as rfl) ?_
      refine snil ?_
      refine cret ?_
      obtain rfl := Option.some.inj h
      refine ⟨Or.inr rfl, _, _, _, (resVs_cons (ResV.tmp _ _ rfl) resVs_nil), (pubA_id rfl), ?_⟩
      rfl
    · replace h := ite_f hc h
      clear hc
      refine soff rfl rfl rfl rfl ?_
      refine soff rfl rfl rfl rfl ?_
      refine soff rfl rfl rfl rfl ?_
      refine sv rfl (opv_pick_f rfl rfl) ?_
      refine sv rfl (opv_as rfl) ?_
      refine snil ?_
      refine cret ?_
      obtain rfl := Option.some.inj h
      refine ⟨Or.inr rfl, _, _, _, (resVs_cons (ResV.tmp _ _ rfl) resVs_nil), (pubA_id rfl), ?_⟩
      rfl
  · skip
    refine cblock ?_
    obtain ⟨x4, hx4, ho4⟩ := bind_eq h
    refine awc_loop (G := Nat × (Int)) (fun g => [(1, .s (.one (.lp 0 0))), (6, .s (.one (.sl a0.L.length (a0.L.flatMap eGApiWrite)))), (7, .s (.one (.i .i64 (a0.L.length : Int)))), (8, .s (.one (.i .i64 g.2)))]) (fun g => [.box [.sl a0.L.length (a0.L.flatMap eGApiWrite)]]) (fun g => iter (m13_buffer_Sane_s4 a0) g.1 g.2 = some x4) (fun g => g.1) (fuel, 0) hx4 ⟨rfl, rfl, rfl, rfl, trivial⟩ [] rfl (fun _ _ => inbL_of rfl) (fun _ _ => blkinb_of rfl) (fun _ _ => Nat.le_of_ble_eq_true rfl) ?_
    clear hx4 h
    rintro ⟨n4, s4⟩ h
    obtain ⟨n4, y4, rfl, h, hk4⟩ := iter_eq h
    unfold m13_buffer_Sane_s4 at h
    refine cseq ?_
    refine cregion ?_
    refine sv rfl (opv_lss rfl rfl) ?_
    refine snil ?_
    refine cseq ?_
    refine ccond rfl (fun hc => ?_) (fun hc => ?_)
    · replace h := ite_t hc h
      clear hc
      refine cskip ?_
      refine then_normal ?_
      refine cseq ?_
      refine cblock ?_
      refine cseq ?_
      refine cregion ?_
      obtain ⟨u5, hu5, h⟩ := bind_eq h
      refine sv rfl (opv_ix (f := eGApiWrite) si22 (fun _ => rfl) rfl rfl rfl rfl hu5) ?_
      refine sv rfl (opv_loadNe (ys := [.sl u5.Key.length (u5.Key.flatMap eU8), .sl u5.Val.length (u5.Val.flatMap eU8), .b u5.Del]) ti29 rfl (.cp _) rfl rfl) ?_
      refine salloc rfl zi29 ?_
      refine sstore sz29 rfl rfl rfl rfl (Nat.le_of_ble_eq_true rfl) ?_
      refine smem [.box [.sl a0.L.length (a0.L.flatMap eGApiWrite)], .box [.sl u5.Key.length (u5.Key.flatMap eU8), .sl u5.Val.length (u5.Val.flatMap eU8), .b u5.Del]] rfl ?_
      refine snil ?_
      refine cseq ?_
      refine cregion ?_
      refine sv rfl (opv_loadN ti29 rfl (.lp _ _ _ rfl) (Nat.le_of_ble_eq_true rfl)) ?_
      obtain ⟨v6, hv6, h⟩ := bind_eq h
      refine scall1 rfl fn23 (opnds_cons rfl opnds_nil) (pubA_id rfl) (m23_buffer_saneWrite_c hv6) ?_
      refine sv rfl (opv_not rfl) ?_
      refine snil ?_
      refine ccond rfl (fun hc => ?_) (fun hc => ?_)
      · replace h := ite_t hc h
        clear hc
        refine cseq ?_
        refine cregion ?_
        refine sv rfl (opv_as rfl) ?_
        refine snil ?_
        refine cret ?_
        refine block_ret ?_
        refine then_ret ?_
        refine then_ret ?_
        refine block_ret ?_
        refine then_ret ?_
        obtain rfl := Option.some.inj h
        obtain rfl : Sum.inl _ = x4 := hk4
        replace ho4 : some _ = some _ := ho4
        obtain rfl := Option.some.inj ho4
        refine ⟨Or.inr rfl, _, _, _, (resVs_cons (ResV.tmp _ _ rfl) resVs_nil), (pubA_id rfl), ?_⟩
        rfl
      · replace h := ite_f hc h
        clear hc
        refine cskip ?_
        refine block_normal ?_
        refine then_normal ?_
        refine cregion ?_
        refine sv rfl (opv_add rfl rfl) ?_
        refine sv rfl (opv_mv rfl) ?_
        refine snil ?_
        obtain rfl := Option.some.inj h
        exact ⟨(n4, (wI (s4 + 1))), _, hk4, ⟨rfl, rfl, rfl, rfl, trivial⟩, rfl, Nat.lt_succ_self _⟩
    · replace h := ite_f hc h
      clear hc
      refine cexit ?_
      refine then_exit ?_
      refine then_exit ?_
      refine block_hit ?_
      refine then_normal ?_
      obtain rfl := Option.some.inj h
      obtain rfl : _ = x4 := hk4
      exact ⟨(), _, ho4, ⟨rfl, trivial⟩, rfl⟩

def m31_buffer_risen_k1 (b1 : (List (List UInt8))) : Option Bool :=
  (m29_keys_Sorted b1).bind fun v2 => some v2

def m31_buffer_risen_s3 (a0 : List GApiKV) (s3 : Int × (List (List UInt8))) : Option (LB (Int × (List (List UInt8))) ((List (List UInt8)))) :=
  if (decide (s3.1 < (a0.length : Int))) then ((idx a0 s3.1).bind fun u4 => if (s3.2.length + [u4.Key].length) * 24 ≤ 140737488355328 then (some (.cont ((wI (s3.1 + 1)), (s3.2 ++ [u4.Key])))) else none) else (some (.brk s3.2))
def m31_buffer_risen (a0 : List GApiKV) : Option Bool :=
  (iterB (m31_buffer_risen_s3 a0) fuel (0, ([] : List (List UInt8)))).bind fun e6 => m31_buffer_risen_k1 e6

set_option maxRecDepth 100000 in
theorem m31_buffer_risen_c {a0 : List GApiKV} {r : Bool} (h : m31_buffer_risen a0 = some r) : CallsA Try.prog 31 [.one (.sl a0.length (a0.flatMap eGApiKV))] (· = .s (.one (.b r))) := by
  unfold m31_buffer_risen at h
  refine callsA_of Try.func31 rfl (nt := 20) rfl (Nat.le_of_ble_eq_true rfl) ?_
  intro w0 S0
  refine cseq ?_
  refine cregion ?_
  refine sv rfl (opv_as rfl) ?_
  refine snil ?_
  refine cseq ?_
  refine cregion ?_
  refine sv rfl (opv_as rfl) ?_
  refine snil ?_
  refine cseq ?_
  refine cseq ?_
  refine cregion ?_
  refine sv rfl (opv_mv rfl) ?_
  refine sv rfl (opv_len_sl si38 rfl) ?_
  refine sv rfl (opv_mv rfl) ?_
  refine snil ?_
  refine sadopt_c 23 1 3 (by decide) rfl ?_
  refine cjoin ((List (List UInt8))) (fun b1 => [(3, .s (.one (.ls 0 b1.length)))]) (fun b1 => [.arr 23 1 0 (b1.flatMap (eL eU8))]) (fun b1 => m31_buffer_risen_k1 b1 = some r) (fun _ _ => inbL_of rfl) (fun _ _ => blkinb_of rfl) (fun _ _ => Nat.le_of_ble_eq_true rfl) (fun b1 h => ?_) ?_
  · unfold m31_buffer_risen_k1 at h
    refine cseq ?_
    refine cregion ?_
    refine sv rfl (opv_mv rfl) ?_
    refine spub 18 rfl (by (repeat' first | exact PubA.nil _ | apply PubA.cons | apply PubV.one | apply PubV.agg | exact PubL.nil | exact PubL.ls _ _ _ _ _ _ rfl (flat_len (f := (eL eU8)) (fun _ => rfl) _).symm | exact PubL.id _ rfl | exact PubLs.nil _ | apply PubLs.cons)) ?_
    obtain ⟨v2, hv2, h⟩ := bind_eq h
    refine scall1 rfl fn29 (opnds_cons rfl opnds_nil) (pubA_id rfl) (m29_keys_Sorted_c hv2) ?_
    refine sv rfl (opv_as rfl) ?_
    refine snil ?_
    refine cret ?_
    obtain rfl := Option.some.inj h
    refine ⟨Or.inr rfl, _, _, _, (resVs_cons (ResV.tmp _ _ rfl) resVs_nil), (pubA_id rfl), ?_⟩
    rfl
  · skip
    refine cblock ?_
    obtain ⟨x3, hx3, ho3⟩ := bind_eq h
    refine awc_loop (G := Nat × (Int × (List (List UInt8)))) (fun g => [(3, .s (.one (.ls 0 g.2.2.length))), (6, .s (.one (.sl a0.length (a0.flatMap eGApiKV)))), (7, .s (.one (.i .i64 (a0.length : Int)))), (8, .s (.one (.i .i64 g.2.1)))]) (fun g => [.arr 23 1 0 (g.2.2.flatMap (eL eU8))]) (fun g => iterB (m31_buffer_risen_s3 a0) g.1 g.2 = some x3) (fun g => g.1) (fuel, (0, ([] : List (List UInt8)))) hx3 ⟨rfl, rfl, rfl, rfl, trivial⟩ [] rfl (fun _ _ => inbL_of rfl) (fun _ _ => blkinb_of rfl) (fun _ _ => Nat.le_of_ble_eq_true rfl) ?_
    clear hx3 h
    rintro ⟨n3, s3⟩ h
    obtain ⟨n3, y3, rfl, h, hk3⟩ := iterB_eq h
    unfold m31_buffer_risen_s3 at h
    refine cseq ?_
    refine cregion ?_
    refine sv rfl (opv_lss rfl rfl) ?_
    refine snil ?_
    refine cseq ?_
    refine ccond rfl (fun hc => ?_) (fun hc => ?_)
    · replace h := ite_t hc h
      clear hc
      refine cskip ?_
      refine then_normal ?_
      refine cseq ?_
      refine cblock ?_
      refine cseq ?_
      refine cregion ?_
      obtain ⟨u4, hu4, h⟩ := bind_eq h
      refine sv rfl (opv_ix (f := eGApiKV) si38 (fun _ => rfl) rfl rfl rfl rfl hu4) ?_
      refine sv rfl (opv_loadNe (ys := [.sl u4.Key.length (u4.Key.flatMap eU8), .sl u4.Val.length (u4.Val.flatMap eU8)]) ti46 rfl (.cp _) rfl rfl) ?_
      refine salloc rfl zi46 ?_
      refine sstore sz46 rfl rfl rfl rfl (Nat.le_of_ble_eq_true rfl) ?_
      refine smem [.arr 23 1 0 (s3.2.flatMap (eL eU8)), .box [.sl u4.Key.length (u4.Key.flatMap eU8), .sl u4.Val.length (u4.Val.flatMap eU8)]] rfl ?_
      refine snil ?_
      refine cregion ?_
      refine sv rfl (opv_mv rfl) ?_
      refine sv rfl (opv_fieldAddr_lp fi46_0 rfl) ?_
      refine sv rfl (opv_load1 ti23 rfl (.lp _ _ _ rfl) rfl) ?_
      refine sbuild1 rfl Try.underlying57 ei23 rfl rfl (List.all_eq_true.1 rfl) (by decide) ?_
      refine smem [.arr 23 1 0 (s3.2.flatMap (eL eU8)), .box [.sl u4.Key.length (u4.Key.flatMap eU8), .sl u4.Val.length (u4.Val.flatMap eU8)], .arr 23 1 0 ([u4.Key].flatMap (eL eU8))] rfl ?_
      obtain ⟨hb5, h⟩ := chk_eq h
      refine sapp (f := (eL eU8)) (xs := s3.2) (us := [u4.Key]) rfl Try.underlying57 ei23 ni57 (fun _ => rfl) rfl rfl (.one _ _ _ _ (.ls _ _ _ _ _ _ rfl (flat_len (f := (eL eU8)) (fun _ => rfl) [u4.Key]).symm)) rfl rfl rfl (.sl _ _ _ (flat_len (f := (eL eU8)) (fun _ => rfl) _)) rfl rfl hb5 (by decide) ?_
      refine sv rfl (opv_as rfl) ?_
      refine snil0 ?_
      refine block_normal ?_
      refine then_normal ?_
      refine cregion ?_
      refine sv rfl (opv_add rfl rfl) ?_
      refine sv rfl (opv_mv rfl) ?_
      refine snil ?_
      obtain rfl := Option.some.inj h
      exact ⟨(n3, ((wI (s3.1 + 1)), (s3.2 ++ [u4.Key]))), _, hk3, ⟨rfl, rfl, rfl, rfl, trivial⟩, rfl, Nat.lt_succ_self _⟩
    · replace h := ite_f hc h
      clear hc
      refine cexit ?_
      refine then_exit ?_
      refine then_exit ?_
      refine block_hit ?_
      refine then_normal ?_
      obtain rfl := Option.some.inj h
      obtain rfl : _ = x3 := hk3
      exact ⟨s3.2, _, ho3, ⟨rfl, trivial⟩, rfl⟩

def m32_keys_Has (a0 : GApiRange) (a1 : List UInt8) : Option Bool :=
  (m40_keys_Cmp a1 a0.Lo).bind fun v1 => if (decide (0 ≤ v1)) then (if a0.Open then (some true) else ((m40_keys_Cmp a1 a0.Hi).bind fun v2 => some (decide (v2 < 0)))) else (some false)

set_option maxRecDepth 100000 in
theorem m32_keys_Has_c {a0 : GApiRange} {a1 : List UInt8} {r : Bool} (h : m32_keys_Has a0 a1 = some r) : CallsA Try.prog 32 [.agg [.sl a0.Lo.length (a0.Lo.flatMap eU8), .sl a0.Hi.length (a0.Hi.flatMap eU8), .b a0.Open], .one (.sl a1.length (a1.flatMap eU8))] (· = .s (.one (.b r))) := by
  unfold m32_keys_Has at h
  refine callsA_of Try.func32 rfl (nt := 21) rfl (Nat.le_of_ble_eq_true rfl) ?_
  intro w0 S0
  refine cseq ?_
  refine cregion ?_
  refine sbox rfl rfl ?_
  refine sv rfl (opv_as rfl) ?_
  refine snil ?_
  refine cseq ?_
  refine cregion ?_
  refine sv rfl (opv_mv rfl) ?_
  refine sv rfl (opv_fieldAddr_lp fi40_0 rfl) ?_
  refine sv rfl (opv_load1 ti23 rfl (.lp _ _ _ rfl) rfl) ?_
  obtain ⟨v1, hv1, h⟩ := bind_eq h
  refine scall1 rfl fn40 (opnds_cons rfl (opnds_cons rfl opnds_nil)) (pubA_id rfl) (m40_keys_Cmp_c hv1) ?_
  refine sv rfl (opv_geq rfl rfl) ?_
  refine sv rfl (opv_mv rfl) ?_
  refine ssplit 10 rfl (fun hc => ?_) (fun hc => ?_)
  · replace h := ite_t hc h
    clear hc
    refine son rfl rfl rfl ?_
    refine sv rfl (opv_fieldAddr_lp fi40_2 rfl) ?_
    refine son rfl rfl rfl ?_
    refine sv rfl (opv_load1 ti4 rfl (.lp _ _ _ rfl) rfl) ?_
    refine son rfl rfl rfl ?_
    refine sv rfl (opv_mv rfl) ?_
    refine ssplit 13 rfl (fun hc => ?_) (fun hc => ?_)
    · replace h := ite_t hc h
      clear hc
      refine soff rfl rfl rfl rfl ?_
      refine soff rfl rfl rfl rfl ?_
      refine soff rfl rfl rfl rfl ?_
      refine soff rfl rfl rfl rfl ?_
      refine soff rfl rfl rfl rfl ?_
      refine son rfl rfl rfl ?_
      refine sv rfl (opv_pick_t rfl rfl) ?_
      refine sv rfl (opv_pick_t rfl rfl) ?_
      refine sv rfl (opv_as rfl) ?_
      refine snil ?_
      refine cret ?_
      obtain rfl := Option.some.inj h
      refine ⟨Or.inr rfl, _, _, _, (resVs_cons (ResV.tmp _ _ rfl) resVs_nil), (pubA_id rfl), ?_⟩
      rfl
    · replace h := ite_f hc h
      clear hc
      refine son rfl rfl rfl ?_
      refine sv rfl (opv_mv rfl) ?_
      refine son rfl rfl rfl ?_
      refine sv rfl (opv_fieldAddr_lp fi40_1 rfl) ?_
      refine son rfl rfl rfl ?_
      refine sv rfl (opv_load1 ti23 rfl (.lp _ _ _ rfl) rfl) ?_
      refine son rfl rfl rfl ?_
      obtain ⟨v2, hv2, h⟩ := bind_eq h
      refine scall1 rfl fn40 (opnds_cons rfl (opnds_cons rfl opnds_nil)) (pubA_id rfl) (m40_keys_Cmp_c hv2) ?_
      refine son rfl rfl rfl ?_
      refine sv rfl (opv_lss rfl rfl) ?_
      refine son rfl rfl rfl ?_
      refine sv rfl (opv_pick_f rfl rfl) ?_
      refine sv rfl (opv_pick_t rfl rfl) ?_
      refine sv rfl (opv_as rfl) ?_
      refine snil ?_
      refine cret ?_
      obtain rfl := Option.some.inj h
      refine ⟨Or.inr rfl, _, _, _, (resVs_cons (ResV.tmp _ _ rfl) resVs_nil), (pubA_id rfl), ?_⟩
      rfl
  · replace h := ite_f hc h
    clear hc
    refine soff rfl rfl rfl rfl ?_
    refine soff rfl rfl rfl rfl ?_
    refine soff rfl rfl rfl rfl ?_
    refine soffu rfl rfl rfl ?_
    refine soffu rfl rfl rfl ?_
    refine soffu rfl rfl rfl ?_
    refine soffu rfl rfl rfl ?_
    refine soffu rfl rfl rfl ?_
    refine soff rfl rfl rfl rfl ?_
    refine sv rfl (opv_pick_f rfl rfl) ?_
    refine sv rfl (opv_as rfl) ?_
    refine snil ?_
    refine cret ?_
    obtain rfl := Option.some.inj h
    refine ⟨Or.inr rfl, _, _, _, (resVs_cons (ResV.tmp _ _ rfl) resVs_nil), (pubA_id rfl), ?_⟩
    rfl

def kvk (x : GApiKV) : List UInt8 := x.Key
def kB (x : GApiKV) : ByteArray := ⟨x.Key.toArray⟩
theorem kB_get {t : List GApiKV} {j : Nat} {k : List UInt8} (h : (t.map kB)[j]? = some ⟨k.toArray⟩) : (t.map kvk)[j]? = some k := by
  rw [List.getElem?_map] at h ⊢
  cases ht : t[j]? with
  | none => rw [ht] at h; cases h
  | some x =>
    rw [ht] at h
    have h1 : (⟨x.Key.toArray⟩ : ByteArray) = ⟨k.toArray⟩ := Option.some.inj h
    have h2 : x.Key.toArray = k.toArray := congrArg ByteArray.data h1
    have h3 : x.Key = k := by have := congrArg Array.toList h2; simpa using this
    rw [Option.map_some]; exact congrArg some h3
theorem kB_mem {t : List GApiKV} {k : List UInt8} (h : (⟨k.toArray⟩ : ByteArray) ∉ t.map kB) : k ∉ t.map kvk := fun hk => by
  obtain ⟨x, hx, rfl⟩ := List.mem_map.1 hk
  exact h (List.mem_map.2 ⟨x, hx, rfl⟩)
theorem kB_set {t : List GApiKV} {j : Nat} {x : GApiKV} (h : (t.map kvk)[j]? = some (kvk x)) : (t.set j x).map kB = t.map kB := by
  rw [List.map_set]
  apply List.ext_getElem?
  intro i
  rw [List.getElem?_set]
  by_cases hij : j = i
  · subst hij
    rw [List.getElem?_map] at h ⊢
    cases ht : t[j]? with
    | none => rw [ht] at h; cases h
    | some y =>
      rw [ht] at h
      have h2 : y.Key = x.Key := Option.some.inj h
      have hlt : j < t.length := (List.getElem?_eq_some_iff.1 ht).1
      rw [if_pos rfl, if_pos (by simpa using hlt), Option.map_some]
      show some (ByteArray.mk x.Key.toArray) = some (ByteArray.mk y.Key.toArray)
      rw [h2]
  · rw [if_neg hij]

theorem ext56 {W : World} {S : Stab} {a b : List UInt8} {va vb : Value} (h1 : Rep W S (.sl a.length (a.flatMap eU8)) va) (h2 : Rep W S (.sl b.length (b.flatMap eU8)) vb) : (callFunc 56 #[va, vb]).run Try.prog W = .ok (.value (.int .i64 (cmpL a b))) W := by
  rw [← bl_eU8] at h1 h2
  obtain ⟨fn, q1, q2, q3, q4, q5⟩ := xi56.h
  have hrun : (Extern.BytealgCompare.compare #[va, vb]).run Try.prog W = .ok (.int .i64 (cmpL a b)) W := by
    change Sem.run Try.prog (do
      let p ← Extern.Bytes.bytesOf va
      let q ← Extern.Bytes.bytesOf vb
      pure (goInt (Extern.BytealgCompare.cmp p q))) W = _
    simp only [Sem.run_bind, run_bytesOf h1, run_bytesOf h2, Result.andThen_ok, cmp_eq, Sem.run_pure]
    rfl
  have hcall := run_callFunc_extern (P := Try.prog) q1 q2 q3 q4 q5 #[va, vb] W
  rw [hrun] at hcall
  simpa using hcall
theorem call44 {W : World} {S : Stab} {a b : List UInt8} {va vb : Value} (h1 : Rep W S (.sl a.length (a.flatMap eU8)) va) (h2 : Rep W S (.sl b.length (b.flatMap eU8)) vb) : Calls Try.prog 44 #[va, vb] W fun e w' => e = .returned (.int .i64 (cmpL a b)) ∧ w' = W := by
  have hx := ext56 h1 h2
  generalize cmpL a b = r at hx ⊢
  clear h1 h2
  go_enter Try.func44, Try.ntmps44
  go_wp2
  go_ret
  exact ⟨rfl, rfl⟩
theorem call40 {W : World} {S : Stab} {a b : List UInt8} {va vb : Value} (h1 : Rep W S (.sl a.length (a.flatMap eU8)) va) (h2 : Rep W S (.sl b.length (b.flatMap eU8)) vb) : Calls Try.prog 40 #[va, vb] W fun e w' => e = .returned (.int .i64 (cmpL a b)) ∧ w' = W := by
  have hcon := call44 h1 h2
  generalize cmpL a b = r at hcon ⊢
  clear h1 h2
  go_enter Try.func40, Try.ntmps40
  go_wp2_with (go_at_call 44; refine hcon.mono ?_; rintro e w' ⟨rfl, rfl⟩)
  go_ret
  exact ⟨rfl, rfl⟩
set_option maxHeartbeats 1000000 in
theorem byk34 {W : World} {S : Stab} {a b : List UInt8} {va vb ua ub : Value} (hS : ∀ b i, S b i → b < W.heap.size) (h1 : Rep W S (.sl a.length (a.flatMap eU8)) va) (h2 : Rep W S (.sl b.length (b.flatMap eU8)) vb) (oc : ua.oneCell' = true) (od : ub.oneCell' = true) :
    Calls Try.prog 34 #[.agg #[va, ua], .agg #[vb, ub]] W fun e w' => e = .returned (.int .i64 (cmpL a b)) ∧ ∃ q os', w' = Go.Sort.grow (W.drewN q) os' := by
  have oa := h1.oneCell
  have ob := h2.oneCell
  have hcon : ∀ o1 o2 : Obj, Calls Try.prog 40 #[va, vb] ((W.alloc o1).alloc o2) fun e w' => e = .returned (.int .i64 (cmpL a b)) ∧ w' = (W.alloc o1).alloc o2 := fun o1 o2 => by
    have k1 : ∀ b i, S b i → S b i ∧ ((W.alloc o1).alloc o2).cell? ⟨b, i, none⟩ = W.cell? ⟨b, i, none⟩ := fun b i hs =>
      ⟨hs, World.cell?_of_block (w := W) ((Below.heap_alloc _ o2 b (by have := hS b i hs; simp; omega)).trans (Below.heap_alloc W o1 b (hS b i hs)))⟩
    exact call40 (h1.mono k1) (h2.mono k1)
  generalize cmpL a b = r at hcon ⊢
  clear h1 h2
  go_enter Try.func34, Try.ntmps34
  go_wp2_with (go_at_call 40; refine (hcon _ _).mono ?_; rintro e w' ⟨rfl, rfl⟩)
  go_ret
  exact ⟨rfl, 0, _, by rw [Go.Sort.alloc_eq_grow, Go.Sort.alloc_eq_grow, Go.Sort.grow_grow]; rfl⟩

def srt33_ren : Go.Shelf.Ren := ⟨fun | 6 => 33 | 15 => 42 | 14 => 41 | 28 => 53 | 29 => 54 | 20 => 45 | 21 => 46 | 22 => 47 | 23 => 48 | 24 => 49 | 25 => 50 | 26 => 51 | 27 => 52 | 46 => 57 | 47 => 58 | 48 => 59 | 49 => 60 | 50 => 61 | 57 => 62 | n => n, fun | 22 => 38 | 24 => 46 | 25 => 66 | 3 => 3 | 39 => 73 | 0 => 0 | 53 => 82 | 55 => 84 | 4 => 4 | 46 => 76 | 45 => 75 | 50 => 55 | 5 => 5 | 9 => 9 | 66 => 86 | 70 => 90 | 76 => 92 | 77 => 93 | n => n, fun | n => n⟩
theorem srt33 : Go.Proofs.SlLaysF0.n6 Try.prog srt33_ren := {
  mixed := by kernel_rfl,
  f6 := ⟨Try.f33.name, by decide, Try.func33.trans (congrArg some (by kernel_rfl))⟩,
  f14 := ⟨Try.f41.name, by decide, Try.func41.trans (congrArg some (by kernel_rfl))⟩,
  f15 := Try.func42.trans (congrArg some (by kernel_rfl)),
  f20 := ⟨Try.f45.name, by decide, Try.func45.trans (congrArg some (by kernel_rfl))⟩,
  f21 := ⟨Try.f46.name, by decide, Try.func46.trans (congrArg some (by kernel_rfl))⟩,
  f22 := ⟨Try.f47.name, by decide, Try.func47.trans (congrArg some (by kernel_rfl))⟩,
  f23 := ⟨Try.f48.name, by decide, Try.func48.trans (congrArg some (by kernel_rfl))⟩,
  f24 := ⟨Try.f49.name, by decide, Try.func49.trans (congrArg some (by kernel_rfl))⟩,
  f25 := ⟨Try.f50.name, by decide, Try.func50.trans (congrArg some (by kernel_rfl))⟩,
  f26 := ⟨Try.f51.name, by decide, Try.func51.trans (congrArg some (by kernel_rfl))⟩,
  f27 := ⟨Try.f52.name, by decide, Try.func52.trans (congrArg some (by kernel_rfl))⟩,
  f28 := Try.func53.trans (congrArg some (by kernel_rfl)),
  f29 := Try.func54.trans (congrArg some (by kernel_rfl)),
  f46 := ⟨Try.f57.name, by decide, Try.func57.trans (congrArg some (by kernel_rfl))⟩,
  f47 := Try.func58.trans (congrArg some (by kernel_rfl)),
  f48 := Try.func59.trans (congrArg some (by kernel_rfl)),
  f49 := ⟨Try.f60.name, by decide, Try.func60.trans (congrArg some (by kernel_rfl))⟩,
  f50 := ⟨Try.f61.name, by decide, Try.func61.trans (congrArg some (by kernel_rfl))⟩,
  f57 := ⟨Try.f62.name, by decide, Try.func62.trans (congrArg some (by kernel_rfl))⟩,
  t0 := Try.underlying0,
  a0 := Try.isAgg0,
  z0 := Try.sizeOf0,
  v0 := Try.zeroValue0,
  t3 := Try.underlying3,
  a3 := Try.isAgg3,
  z3 := Try.sizeOf3,
  v3 := Try.zeroValue3,
  t4 := Try.underlying4,
  a4 := Try.isAgg4,
  z4 := Try.sizeOf4,
  v4 := Try.zeroValue4,
  t5 := Try.underlying5,
  a5 := Try.isAgg5,
  z5 := Try.sizeOf5,
  v5 := Try.zeroValue5,
  t9 := Try.underlying9,
  a9 := Try.isAgg9,
  z9 := Try.sizeOf9,
  v9 := Try.zeroValue9,
  t22 := Try.underlying38,
  a22 := Try.isAgg38,
  z22 := Try.sizeOf38,
  v22 := Try.zeroValue38,
  t25 := Try.underlying66,
  a25 := Try.isAgg66,
  z25 := Try.sizeOf66,
  v25 := Try.zeroValue66,
  t39 := Try.underlying73,
  a39 := Try.isAgg73,
  z39 := Try.sizeOf73,
  v39 := Try.zeroValue73,
  t45 := Try.underlying75,
  a45 := Try.isAgg75,
  z45 := Try.sizeOf75,
  v45 := Try.zeroValue75,
  t46 := Try.underlying76,
  a46 := Try.isAgg76,
  z46 := Try.sizeOf76,
  v46 := Try.zeroValue76,
  t50 := Try.underlying55,
  a50 := Try.isAgg55,
  z50 := Try.sizeOf55,
  v50 := Try.zeroValue55,
  t53 := Try.underlying82,
  a53 := Try.isAgg82,
  z53 := Try.sizeOf82,
  v53 := Try.zeroValue82,
  t55 := Try.underlying84,
  a55 := Try.isAgg84,
  z55 := Try.sizeOf84,
  v55 := Try.zeroValue84,
  t66 := Try.underlying86,
  a66 := Try.isAgg86,
  z66 := Try.sizeOf86,
  v66 := Try.zeroValue86,
  t70 := Try.underlying90,
  a70 := Try.isAgg90,
  z70 := Try.sizeOf90,
  v70 := Try.zeroValue90,
  t76 := Try.underlying92,
  a76 := Try.isAgg92,
  z76 := Try.sizeOf92,
  v76 := Try.zeroValue92,
  t77 := Try.underlying93,
  a77 := Try.isAgg93,
  z77 := Try.sizeOf93,
  v77 := Try.zeroValue93
  }

theorem sort33_B {xs : List GApiKV} (hn : xs.length ≤ 1000000000000000000) (hd : DistK kvk xs) : CallsB Try.prog 33 [.arr 46 2 0 (xs.flatMap eGApiKV)] [.one (.ls 0 xs.length), .one (.raw (.func (.func 34) #[] #[]))] (fun y m' => y = .tup [] ∧ m' = [.arr 46 2 0 ((srtK kvk xs).flatMap eGApiKV)]) :=
  sort_B (ρ := srt33_ren) (f := eGApiKV) (g := 34) srt33 (fun a b => cmpL (kvk a) (kvk b)) (fun _ => rfl) (by decide) Try.isAgg46 Try.sizeOf46 swoK (enters_of Try.func34 (by kernel_rfl) rfl) (fun W S x y vx vy hS hx hy => by
    obtain ⟨v0, u0, rfl⟩ : ∃ v0 u0, vx = [v0, u0] := by
      match vx, hx.1 with
      | [a, b], _ => exact ⟨a, b, rfl⟩
    obtain ⟨v1, u1, rfl⟩ : ∃ v1 u1, vy = [v1, u1] := by
      match vy, hy.1 with
      | [a, b], _ => exact ⟨a, b, rfl⟩
    exact byk34 hS (hx.2 0 _ _ rfl rfl) (hy.2 0 _ _ rfl rfl) (hx.2 1 _ _ rfl rfl).oneCell (hy.2 1 _ _ rfl rfl).oneCell) hn (sortK_uniq hd)

def overs1 (a1 : List GApiKV) (a2 : GApiRange) (s : Int × List GApiKV) : Option (LB (Int × List GApiKV) (List GApiKV)) :=
  if decide (s.1 < (a1.length : Int)) then ((idx a1 s.1).bind fun u => (m32_keys_Has a2 u.Key).bind fun v => some (.cont (wI (s.1 + 1), if v then mputK kvk s.2 u else s.2))) else some (.brk s.2)
def overs2 (a0 : GBufferBuf) (a2 : GApiRange) (s : Int × List GApiKV) : Option (LB (Int × List GApiKV) (List GApiKV)) :=
  if decide (s.1 < (a0.L.length : Int)) then ((idx a0.L s.1).bind fun u => if u.Del then some (.cont (wI (s.1 + 1), mdelK kvk s.2 u.Key)) else (m32_keys_Has a2 u.Key).bind fun v => some (.cont (wI (s.1 + 1), if v then mputK kvk s.2 ⟨u.Key, u.Val⟩ else s.2))) else some (.brk s.2)
def overk2 (a3 : Int) (t : List GApiKV) : Option (List GApiKV) :=
  if t.length * 48 ≤ 140737488355328 then cut (srtK kvk t) 0 (if a3 < ((srtK kvk t).length : Int) then a3 else ((srtK kvk t).length : Int)) else none
def overk1 (a0 : GBufferBuf) (a2 : GApiRange) (a3 : Int) (t : List GApiKV) : Option (List GApiKV) := (iterB (overs2 a0 a2) fuel (0, t)).bind fun t2 => overk2 a3 t2
def m18_buffer_Over (a0 : GBufferBuf) (a1 : List GApiKV) (a2 : GApiRange) (a3 : Int) : Option (List GApiKV) :=
  (m13_buffer_Sane a0).bind fun v1 => if !v1 then some [] else (m31_buffer_risen a1).bind fun v2 => if !v2 then some [] else if decide (a3 < 1) then some [] else (iterB (overs1 a1 a2) fuel (0, [])).bind fun t1 => overk1 a0 a2 a3 t1

theorem m18_buffer_Over_c {a0 : GBufferBuf} {a1 : List GApiKV} {a2 : GApiRange} {a3 : Int} {r : List GApiKV} (h : m18_buffer_Over a0 a1 a2 a3 = some r) :
    CallsA Try.prog 18 [.agg [.sl a0.L.length (a0.L.flatMap eGApiWrite)], .one (.sl a1.length (a1.flatMap eGApiKV)), .agg [.sl a2.Lo.length (a2.Lo.flatMap eU8), .sl a2.Hi.length (a2.Hi.flatMap eU8), .b a2.Open], .one (.i .i64 a3)] (· = .s (.one (.sl r.length (r.flatMap eGApiKV)))) := by
  unfold m18_buffer_Over at h
  refine callsA_of Try.func18 rfl (nt := 91) rfl (Nat.le_of_ble_eq_true rfl) ?_
  intro w0 S0
  refine cseq ?_
  refine cregion ?_
  refine sbox rfl rfl ?_
  refine sbox rfl rfl ?_
  refine sv rfl (opv_as rfl) ?_
  refine snil ?_
  refine cseq ?_
  refine cseq ?_
  refine cregion ?_
  refine sv rfl (opv_loadN ti27 rfl (.lp _ _ _ rfl) (Nat.le_of_ble_eq_true rfl)) ?_
  obtain ⟨v1, hv1, h⟩ := bind_eq h
  refine scall1 rfl fn13 (opnds_cons rfl opnds_nil) (pubA_id rfl) (m13_buffer_Sane_c hv1) ?_
  refine sv rfl (opv_not rfl) ?_
  refine sv rfl (opv_mv rfl) ?_
  refine ssplit 20 rfl (fun hc => ?_) (fun hc => ?_)
  · replace h := ite_t hc h
    clear hc
    refine soff rfl rfl rfl rfl ?_
    refine soff rfl rfl rfl rfl ?_
    refine soff rfl rfl rfl rfl ?_
    refine sv rfl (opv_pick_t rfl rfl) ?_
    refine sv rfl (opv_mv rfl) ?_
    refine soff rfl rfl rfl rfl ?_
    refine soff rfl rfl rfl rfl ?_
    refine sv rfl (opv_pick_t rfl rfl) ?_
    refine snil ?_
    refine ccond rfl (fun hc => ?_) (fun hc => nomatch hc)
    refine cseq ?_
    refine cregion ?_
    refine sv rfl (opv_as rfl) ?_
    refine snil ?_
    refine cret ?_
    refine then_ret ?_
    obtain rfl := Option.some.inj h
    refine ⟨Or.inr rfl, _, _, _, (resVs_cons (ResV.tmp _ _ rfl) resVs_nil), (pubC rfl), ?_⟩
    rfl
  replace h := ite_f hc h
  clear hc
  refine son rfl rfl rfl ?_
  refine sv rfl (opv_mv rfl) ?_
  refine son rfl rfl rfl ?_
  obtain ⟨v2, hv2, h⟩ := bind_eq h
  refine scall1 rfl fn31 (opnds_cons rfl opnds_nil) (pubA_id rfl) (m31_buffer_risen_c hv2) ?_
  refine son rfl rfl rfl ?_
  refine sv rfl (opv_not rfl) ?_
  refine sv rfl (opv_pick_f rfl rfl) ?_
  refine sv rfl (opv_mv rfl) ?_
  refine ssplit 25 rfl (fun hc => ?_) (fun hc => ?_)
  · replace h := ite_t hc h
    clear hc
    refine soff rfl rfl rfl rfl ?_
    refine soff rfl rfl rfl rfl ?_
    refine sv rfl (opv_pick_t rfl rfl) ?_
    refine snil ?_
    refine ccond rfl (fun hc => ?_) (fun hc => nomatch hc)
    refine cseq ?_
    refine cregion ?_
    refine sv rfl (opv_as rfl) ?_
    refine snil ?_
    refine cret ?_
    refine then_ret ?_
    obtain rfl := Option.some.inj h
    refine ⟨Or.inr rfl, _, _, _, (resVs_cons (ResV.tmp _ _ rfl) resVs_nil), (pubC rfl), ?_⟩
    rfl
  replace h := ite_f hc h
  clear hc
  refine son rfl rfl rfl ?_
  refine sv rfl (opv_mv rfl) ?_
  refine son rfl rfl rfl ?_
  refine sv rfl (opv_lss rfl rfl) ?_
  refine sv rfl (opv_pick_f rfl rfl) ?_
  refine snil ?_
  refine ccond rfl (fun hc => ?_) (fun hc => ?_)
  · replace h := ite_t hc h
    refine cseq ?_
    refine cregion ?_
    refine sv rfl (opv_as rfl) ?_
    refine snil ?_
    refine cret ?_
    refine then_ret ?_
    obtain rfl := Option.some.inj h
    refine ⟨Or.inr rfl, _, _, _, (resVs_cons (ResV.tmp _ _ rfl) resVs_nil), (pubC rfl), ?_⟩
    rfl
  replace h := ite_f hc h
  clear hc
  refine cskip ?_
  refine then_normal ?_
  refine cseq ?_
  refine cregion ?_
  refine smakemap vagg rfl (fun g => ?_)
  refine sv rfl (opv_as rfl) ?_
  refine snil ?_
  refine cseq ?_
  refine cseq ?_
  refine cregion ?_
  refine sv rfl (opv_mv rfl) ?_
  refine sv rfl (opv_len_sl si38 rfl) ?_
  refine sv rfl (opv_mv rfl) ?_
  refine snil ?_
  refine cjoin (List GApiKV × List GApiKV) (fun _ => [(4, .s (.one (.lp 0 0))), (6, .s (.one (.lp 1 0))), (3, .s (.one (.i .i64 a3))), (9, .s (.one (.raw (.map (some g)))))]) (fun b => [.box [.sl a0.L.length (a0.L.flatMap eGApiWrite)], .box [.sl a2.Lo.length (a2.Lo.flatMap eU8), .sl a2.Hi.length (a2.Hi.flatMap eU8), .b a2.Open], .obj g (mkMap vagg ((b.2.map kB).map .string)) (b.2.map eGApiKV)]) (fun b => b.2.Perm b.1 ∧ DistK kvk b.2 ∧ overk1 a0 a2 a3 b.1 = some r) (fun _ _ => inbL_of rfl) (fun _ _ => blkinb_of rfl) (fun _ _ => Nat.le_of_ble_eq_true rfl) (fun b h => ?_) ?_
  · obtain ⟨t1, t1'⟩ := b
    obtain ⟨hp1, hd1, h⟩ := h
    dsimp only at hp1 hd1 h
    unfold overk1 at h
    refine cseq ?_
    refine cseq ?_
    refine cregion ?_
    refine sv rfl (opv_fieldAddr_lp fi27_0 rfl) ?_
    refine sv rfl (opv_load1 ti22 rfl (.lp _ _ _ rfl) rfl) ?_
    refine sv rfl (opv_len_sl si22 rfl) ?_
    refine sv rfl (opv_mv rfl) ?_
    refine snil ?_
    refine cjoin (List GApiKV × List GApiKV) (fun _ => [(3, .s (.one (.i .i64 a3))), (9, .s (.one (.raw (.map (some g)))))]) (fun b => [.box [.sl a0.L.length (a0.L.flatMap eGApiWrite)], .box [.sl a2.Lo.length (a2.Lo.flatMap eU8), .sl a2.Hi.length (a2.Hi.flatMap eU8), .b a2.Open], .obj g (mkMap vagg ((b.2.map kB).map .string)) (b.2.map eGApiKV)]) (fun b => b.2.Perm b.1 ∧ DistK kvk b.2 ∧ overk2 a3 b.1 = some r) (fun _ _ => inbL_of rfl) (fun _ _ => blkinb_of rfl) (fun _ _ => Nat.le_of_ble_eq_true rfl) (fun b h => ?_) ?_
    · obtain ⟨t2, t2'⟩ := b
      obtain ⟨hp2, hd2, h⟩ := h
      dsimp only at hp2 hd2 h
      unfold overk2 at h
      obtain ⟨hb2, h⟩ := chk_eq h
      have hb2' : t2'.length * 48 ≤ 140737488355328 := by rw [hp2.length_eq]; exact hb2
      refine cseq ?_
      refine cregion ?_
      refine sv rfl (opv_as rfl) ?_
      refine snil ?_
      refine cseq ?_
      refine cseq ?_
      refine cregion ?_
      refine sv rfl (opv_mv rfl) ?_
      refine smaprange (p := 2) rfl Try.underlying64 rfl rfl (fun es clock q hst hks hsz => ?_)
      refine snil ?_
      refine sadopt_c 46 2 14 (by decide) rfl ?_
      have hes : es.size = t2'.length := by rw [hsz, List.length_map]
      obtain ⟨hs1, hs2, _⟩ := (Go.MapKept.stamped_iff es clock).1 hst
      refine cjoin (Array Nat × List GApiKV) (fun b => [(3, .s (.one (.i .i64 a3))), (14, .s (.one (.ls 4 b.2.length)))]) (fun b => [.box [.sl a0.L.length (a0.L.flatMap eGApiWrite)], .box [.sl a2.Lo.length (a2.Lo.flatMap eU8), .sl a2.Hi.length (a2.Hi.flatMap eU8), .b a2.Open], .obj g (mkFix vagg es clock) (t2'.map eGApiKV), .obj q (mkIt g clock b.1 clock) [], .arr 46 2 0 (b.2.flatMap eGApiKV)]) (fun b => b.2.Perm t2') (fun _ _ => inbL_of rfl) (fun _ _ => blkinb_of rfl) (fun _ _ => Nat.le_of_ble_eq_true rfl) (fun b hpo => ?_) ?_
      · obtain ⟨seen, out⟩ := b
        dsimp only at hpo
        have hol : out.length = t2'.length := hpo.length_eq
        have hdo : DistK kvk out := (DistK.perm hpo).2 hd2
        have he : srtK kvk out = srtK kvk t2 := srtK_congr (hpo.trans hp2) hdo
        have hlen : (srtK kvk out).length = out.length := (srtK_perm out).length_eq
        have hlen2 : out.length * 2 = ((srtK kvk out).flatMap eGApiKV).length := by rw [← hlen]; exact (flat_len (f := eGApiKV) (fun _ => rfl) _).symm
        rw [← he, hlen] at h
        refine cseq ?_
        refine cregion ?_
        refine sv rfl (opv_mv rfl) ?_
        refine scallB (x' := .tup []) (M' := [.box [.sl a0.L.length (a0.L.flatMap eGApiWrite)], .box [.sl a2.Lo.length (a2.Lo.flatMap eU8), .sl a2.Hi.length (a2.Hi.flatMap eU8), .b a2.Open], .obj g (mkFix vagg es clock) (t2'.map eGApiKV), .obj q (mkIt g clock seen clock) [], .arr 46 2 0 ((srtK kvk out).flatMap eGApiKV)]) [4] rfl fn33 (.func _) (opnds_cons rfl (opnds_cons rfl opnds_nil)) (sort33_B (xs := out) (by omega) hdo) rfl rfl (by decide) rfl rfl rfl ?_
        refine snil ?_
        refine cseq ?_
        refine cregion ?_
        refine sv rfl (opv_mv rfl) ?_
        refine sv rfl (opv_mv rfl) ?_
        refine sv rfl (opv_len_ls si38 rfl rfl hlen2) ?_
        refine sv rfl (opv_mv rfl) ?_
        refine sv rfl (opv_min rfl rfl) ?_
        refine spub 85 rfl (PubV.one _ _ _ _ (PubL.ls _ _ _ _ _ _ rfl hlen2)) ?_
        refine sv rfl (opv_cut (f := eGApiKV) (lo := 0) (hi := (if a3 < (out.length : Int) then a3 else (out.length : Int))) si38 (fun _ => rfl) rfl rfl hlen.symm bound_none (bound_some rfl (Int.le_trans (cut_eq h).1.1 (cut_eq h).1.2.1)) h) ?_
        refine sv rfl (opv_as rfl) ?_
        refine snil ?_
        refine cret ?_
        refine ⟨Or.inr rfl, _, _, _, (resVs_cons (ResV.tmp _ _ rfl) resVs_nil), (pubA_id rfl), ?_⟩
        rfl
      · refine cblock ?_
        refine awc_loop (G := Array Nat × List Nat) (fun b => [(3, .s (.one (.i .i64 a3))), (14, .s (.one (.ls 4 (b.2.filterMap (t2'[·]?)).length))), (74, .s (.one (.raw (.pointer (some ⟨q, 0, none⟩)))))]) (fun b => [.box [.sl a0.L.length (a0.L.flatMap eGApiWrite)], .box [.sl a2.Lo.length (a2.Lo.flatMap eU8), .sl a2.Hi.length (a2.Hi.flatMap eU8), .b a2.Open], .obj g (mkFix vagg es clock) (t2'.map eGApiKV), .obj q (mkIt g clock b.1 clock) [], .arr 46 2 0 ((b.2.filterMap (t2'[·]?)).flatMap eGApiKV)]) (fun b => b.2.Nodup ∧ (∀ j ∈ b.2, j < t2'.length) ∧ (∀ (j : Nat) e, es[j]? = some e → (b.1.contains e.born = true ↔ j ∈ b.2)) ∧ b.2.length + (leftOf es b.1).size ≤ es.size) (fun b => (leftOf es b.1).size) (#[], []) ⟨List.nodup_nil, fun j hj => by simp at hj, fun j e _ => ⟨fun h => by simp at h, fun h => by simp at h⟩, by show 0 + (leftOf es #[]).size ≤ es.size; rw [Nat.zero_add]; exact Array.size_filter_le ..⟩ ⟨rfl, rfl, rfl, trivial⟩ [] rfl (fun _ _ => inbL_of rfl) (fun _ _ => blkinb_of rfl) (fun _ _ => Nat.le_of_ble_eq_true rfl) ?_
        rintro ⟨seen, picks⟩ ⟨hnd, hlt, hsn, hmu⟩
        dsimp only at hnd hlt hsn hmu
        refine cseq ?_
        refine cregion ?_
        refine smapnext (p := 2) (pi := 3) (ss := t2'.map kB) rfl rfl rfl rfl hs1 (Nat.le_refl _) hks (fun h0 => ?_) (fun j e s cs hj he hs hcs => ?_)
        · refine sv rfl (opv_extract rfl rfl) ?_
          refine snil ?_
          refine cseq ?_
          refine ccond rfl (fun hc => nomatch hc) (fun _ => ?_)
          refine cexit ?_
          refine then_exit ?_
          refine then_exit ?_
          refine block_hit ?_
          refine then_normal ?_
          refine ⟨(seen, picks.filterMap (t2'[·]?)), _, ?_, ⟨rfl, rfl, trivial⟩, rfl⟩
          refine picks_perm hnd hlt fun j hj => ?_
          have hj' : j < es.size := by rw [hes]; exact hj
          exact (hsn j es[j] (Array.getElem?_eq_getElem hj')).1 (all_seen es seen h0 _ (by simp))
        · obtain ⟨x, hx, rfl⟩ : ∃ x, t2'[j]? = some x ∧ cs = eGApiKV x := by
            rw [List.getElem?_map] at hcs
            cases hx : t2'[j]? with
            | none => rw [hx] at hcs; cases hcs
            | some x => rw [hx] at hcs; exact ⟨x, rfl, (Option.some.inj hcs).symm⟩
          have hns := (mem_left he).2
          have hjn : j ∉ picks := fun h => by rw [(hsn j e hj).2 h] at hns; cases hns
          have hsh := left_shrinks es seen e he
          have hpl : (picks.filterMap (t2'[·]?)).length ≤ picks.length := List.length_filterMap_le ..
          refine sv rfl (opv_extract rfl rfl) ?_
          refine snil ?_
          refine cseq ?_
          refine ccond rfl (fun _ => ?_) (fun hc => nomatch hc)
          refine cskip ?_
          refine then_normal ?_
          refine cblock ?_
          refine cseq ?_
          refine cregion ?_
          refine smapentry (p := 2) (pi := 3) (j := j) rfl rfl rfl rfl hs2 hks hj hs (by rw [List.getElem?_map, hx]; rfl) ?_
          refine sv rfl (opv_extract rfl rfl) ?_
          refine salloc rfl zi46 ?_
          refine sstore sz46 rfl rfl rfl rfl (Nat.le_of_ble_eq_true rfl) ?_
          refine smem [.box [.sl a0.L.length (a0.L.flatMap eGApiWrite)], .box [.sl a2.Lo.length (a2.Lo.flatMap eU8), .sl a2.Hi.length (a2.Hi.flatMap eU8), .b a2.Open], .obj g (mkFix vagg es clock) (t2'.map eGApiKV), .obj q (mkIt g clock (seen.push e.born) clock) [], .arr 46 2 0 ((picks.filterMap (t2'[·]?)).flatMap eGApiKV), .box [.sl x.Key.length (x.Key.flatMap eU8), .sl x.Val.length (x.Val.flatMap eU8)]] rfl ?_
          refine snil ?_
          refine cregion ?_
          refine sv rfl (opv_mv rfl) ?_
          refine sv rfl (opv_loadN ti46 rfl (.lp _ _ _ rfl) (Nat.le_of_ble_eq_true rfl)) ?_
          refine sbuild1 rfl Try.underlying38 ei46 rfl rfl (List.all_eq_true.1 rfl) (by decide) ?_
          refine smem [.box [.sl a0.L.length (a0.L.flatMap eGApiWrite)], .box [.sl a2.Lo.length (a2.Lo.flatMap eU8), .sl a2.Hi.length (a2.Hi.flatMap eU8), .b a2.Open], .obj g (mkFix vagg es clock) (t2'.map eGApiKV), .obj q (mkIt g clock (seen.push e.born) clock) [], .arr 46 2 0 ((picks.filterMap (t2'[·]?)).flatMap eGApiKV), .box [.sl x.Key.length (x.Key.flatMap eU8), .sl x.Val.length (x.Val.flatMap eU8)], .arr 46 2 0 ([x].flatMap eGApiKV)] rfl ?_
          refine sapp (f := eGApiKV) (xs := picks.filterMap (t2'[·]?)) (us := [x]) rfl Try.underlying38 ei46 ni38 (fun _ => rfl) rfl rfl (.one _ _ _ _ (.ls _ _ _ _ _ _ rfl (flat_len (f := eGApiKV) (fun _ => rfl) [x]).symm)) rfl rfl rfl (.sl _ _ _ (flat_len (f := eGApiKV) (fun _ => rfl) _)) rfl rfl (by rw [List.length_singleton]; omega) (by decide) ?_
          refine sv rfl (opv_as rfl) ?_
          refine snil0 ?_
          refine block_normal ?_
          have hfm : (picks ++ [j]).filterMap (t2'[·]?) = picks.filterMap (t2'[·]?) ++ [x] := by
            rw [List.filterMap_append]
            simp [hx]
          refine ⟨(seen.push e.born, picks ++ [j]), _, ⟨?_, ?_, ?_, ?_⟩, ⟨rfl, by show _ = AV.s (.one (.ls 4 ((picks ++ [j]).filterMap (t2'[·]?)).length)); rw [hfm]; rfl, rfl, trivial⟩, by show _ = [_, _, _, _, Blk.arr 46 2 0 (((picks ++ [j]).filterMap (t2'[·]?)).flatMap eGApiKV)] ++ _; rw [hfm]; rfl, hsh⟩
          · rw [List.nodup_append]
            exact ⟨hnd, by simp, fun a ha b hb => by rw [List.mem_singleton.1 hb]; exact fun e => hjn (e ▸ ha)⟩
          · intro k hk
            rcases List.mem_append.1 hk with hk | hk
            · exact hlt k hk
            · rw [List.mem_singleton.1 hk]; exact (List.getElem?_eq_some_iff.1 hx).1
          · intro k e' hk
            rw [List.mem_append, List.mem_singleton, ← born_at hs2 hk hj, ← hsn k e' hk]; simp [or_comm]
          · rw [List.length_append, List.length_singleton]
            have : (leftOf es (seen.push e.born)).size + 1 ≤ (leftOf es seen).size := hsh
            dsimp only
            omega
    · refine cblock ?_
      obtain ⟨x2, hx2, ho2⟩ := bind_eq h
      refine awc_loop (G := Nat × (Int × List GApiKV) × List GApiKV) (fun q => [(6, .s (.one (.lp 1 0))), (3, .s (.one (.i .i64 a3))), (9, .s (.one (.raw (.map (some g))))), (47, .s (.one (.sl a0.L.length (a0.L.flatMap eGApiWrite)))), (48, .s (.one (.i .i64 (a0.L.length : Int)))), (49, .s (.one (.i .i64 q.2.1.1)))]) (fun q => [.box [.sl a0.L.length (a0.L.flatMap eGApiWrite)], .box [.sl a2.Lo.length (a2.Lo.flatMap eU8), .sl a2.Hi.length (a2.Hi.flatMap eU8), .b a2.Open], .obj g (mkMap vagg ((q.2.2.map kB).map .string)) (q.2.2.map eGApiKV)]) (fun q => iterB (overs2 a0 a2) q.1 q.2.1 = some x2 ∧ q.2.2.Perm q.2.1.2 ∧ DistK kvk q.2.2) (fun q => q.1) (fuel, (0, t1), t1') ⟨hx2, hp1, hd1⟩ ⟨rfl, rfl, rfl, rfl, rfl, rfl, trivial⟩ [] rfl (fun _ _ => inbL_of rfl) (fun _ _ => blkinb_of rfl) (fun _ _ => Nat.le_of_ble_eq_true rfl) ?_
      clear hx2 h hp1 hd1
      rintro ⟨n, ⟨i, t⟩, t'⟩ ⟨h, hp, hd⟩
      dsimp only at hp hd
      obtain ⟨n, y, rfl, h, hk⟩ := iterB_eq h
      unfold overs2 at h
      dsimp only at h
      refine cseq ?_
      refine cregion ?_
      refine sv rfl (opv_lss rfl rfl) ?_
      refine snil ?_
      refine cseq ?_
      refine ccond rfl (fun hc => ?_) (fun hc => ?_)
      · replace h := ite_t hc h
        clear hc
        refine cskip ?_
        refine then_normal ?_
        refine cseq ?_
        refine cblock ?_
        refine cseq ?_
        refine cregion ?_
        obtain ⟨u, hu, h⟩ := bind_eq h
        refine sv rfl (opv_ix (f := eGApiWrite) si22 (fun _ => rfl) rfl rfl rfl rfl hu) ?_
        refine sv rfl (opv_loadNe (ys := [.sl u.Key.length (u.Key.flatMap eU8), .sl u.Val.length (u.Val.flatMap eU8), .b u.Del]) ti29 rfl (.cp _) rfl rfl) ?_
        refine salloc rfl zi29 ?_
        refine sstore sz29 rfl rfl rfl rfl (Nat.le_of_ble_eq_true rfl) ?_
        refine smem [.box [.sl a0.L.length (a0.L.flatMap eGApiWrite)], .box [.sl a2.Lo.length (a2.Lo.flatMap eU8), .sl a2.Hi.length (a2.Hi.flatMap eU8), .b a2.Open], .obj g (mkMap vagg ((t'.map kB).map .string)) (t'.map eGApiKV), .box [.sl u.Key.length (u.Key.flatMap eU8), .sl u.Val.length (u.Val.flatMap eU8), .b u.Del]] rfl ?_
        refine snil ?_
        refine cseq ?_
        refine cregion ?_
        refine sv rfl (opv_fieldAddr_lp fi29_2 rfl) ?_
        refine sv rfl (opv_load1 ti4 rfl (.lp _ _ _ rfl) rfl) ?_
        refine snil ?_
        refine ccond rfl (fun hc => ?_) (fun hc => ?_)
        · replace h := ite_t hc h
          clear hc
          obtain rfl := Option.some.inj h
          clear h
          refine cregion ?_
          refine sv rfl (opv_mv rfl) ?_
          refine sv rfl (opv_fieldAddr_lp fi29_0 rfl) ?_
          refine sv rfl (opv_load1 ti23 rfl (.lp _ _ _ rfl) rfl) ?_
          refine sv rfl (opv_bs (l := u.Key) Try.underlying23 Try.underlying5 Try.underlying9 rfl rfl rfl) ?_
          refine smapdel (ss := t'.map kB) (css := t'.map eGApiKV) (s := ⟨u.Key.toArray⟩) (p := 2) Try.underlying64 Try.underlying9 rfl rfl rfl (fun j hj => ?_) (fun hn => ?_) rfl
          · obtain ⟨e1, e3⟩ := mdel_at hp hd (kB_get hj)
            refine smem [.box [.sl a0.L.length (a0.L.flatMap eGApiWrite)], .box [.sl a2.Lo.length (a2.Lo.flatMap eU8), .sl a2.Hi.length (a2.Hi.flatMap eU8), .b a2.Open], .obj g (mkMap vagg (((t'.eraseIdx j).map kB).map .string)) ((t'.eraseIdx j).map eGApiKV), .box [.sl u.Key.length (u.Key.flatMap eU8), .sl u.Val.length (u.Val.flatMap eU8), .b u.Del]] (by rw [← Go.ChangeMaps.map_eraseIdx, ← Go.ChangeMaps.map_eraseIdx]; rfl) ?_
            refine snil0 ?_
            refine block_normal ?_
            refine then_normal ?_
            refine cregion ?_
            refine sv rfl (opv_add rfl rfl) ?_
            refine sv rfl (opv_mv rfl) ?_
            refine snil ?_
            exact ⟨(n, (wI (i + 1), mdelK kvk t u.Key), t'.eraseIdx j), _, ⟨hk, e1, e3⟩, ⟨rfl, rfl, rfl, rfl, rfl, rfl, trivial⟩, rfl, Nat.lt_succ_self _⟩
          · have e1 := mdel_none (kf := kvk) hp (kB_mem hn)
            refine smem [.box [.sl a0.L.length (a0.L.flatMap eGApiWrite)], .box [.sl a2.Lo.length (a2.Lo.flatMap eU8), .sl a2.Hi.length (a2.Hi.flatMap eU8), .b a2.Open], .obj g (mkMap vagg ((t'.map kB).map .string)) (t'.map eGApiKV), .box [.sl u.Key.length (u.Key.flatMap eU8), .sl u.Val.length (u.Val.flatMap eU8), .b u.Del]] rfl ?_
            refine snil0 ?_
            refine block_normal ?_
            refine then_normal ?_
            refine cregion ?_
            refine sv rfl (opv_add rfl rfl) ?_
            refine sv rfl (opv_mv rfl) ?_
            refine snil ?_
            exact ⟨(n, (wI (i + 1), mdelK kvk t u.Key), t'), _, ⟨hk, e1, hd⟩, ⟨rfl, rfl, rfl, rfl, rfl, rfl, trivial⟩, rfl, Nat.lt_succ_self _⟩
        · replace h := ite_f hc h
          clear hc
          obtain ⟨v, hv, h⟩ := bind_eq h
          obtain rfl := Option.some.inj h
          clear h
          refine cseq ?_
          refine cregion ?_
          refine sv rfl (opv_loadN ti40 rfl (.lp _ _ _ rfl) (Nat.le_of_ble_eq_true rfl)) ?_
          refine sv rfl (opv_fieldAddr_lp fi29_0 rfl) ?_
          refine sv rfl (opv_load1 ti23 rfl (.lp _ _ _ rfl) rfl) ?_
          refine scall1 rfl fn32 (opnds_cons rfl (opnds_cons rfl opnds_nil)) (pubA_id rfl) (m32_keys_Has_c hv) ?_
          refine snil ?_
          refine ccond rfl (fun hc => ?_) (fun hc => ?_)
          · subst hc
            refine cregion ?_
            refine sv rfl (opv_mv rfl) ?_
            refine sv rfl (opv_fieldAddr_lp fi29_0 rfl) ?_
            refine sv rfl (opv_load1 ti23 rfl (.lp _ _ _ rfl) rfl) ?_
            refine sv rfl (opv_bs (l := u.Key) Try.underlying23 Try.underlying5 Try.underlying9 rfl rfl rfl) ?_
            refine sv rfl (opv_fieldAddr_lp fi29_0 rfl) ?_
            refine sv rfl (opv_load1 ti23 rfl (.lp _ _ _ rfl) rfl) ?_
            refine sv rfl (opv_fieldAddr_lp fi29_1 rfl) ?_
            refine sv rfl (opv_load1 ti23 rfl (.lp _ _ _ rfl) rfl) ?_
            refine sv rfl (opv_build zi46 pi46 (parts_cons rfl (parts_cons rfl parts_nil)) (.cons _ _ _ _ _ _ _ rfl rfl (Nat.le_of_ble_eq_true rfl) (.cons _ _ _ _ _ _ _ rfl rfl (Nat.le_of_ble_eq_true rfl) (.nil _)))) ?_
            refine smapput (ss := t'.map kB) (css := t'.map eGApiKV) (s := kB ⟨u.Key, u.Val⟩) (p := 2) Try.underlying64 Try.underlying9 rfl rfl rfl rfl rfl (fun j hj => ?_) (fun hn => ?_)
            · obtain ⟨e1, e2, e3⟩ := mput_at hp hd (x := ⟨u.Key, u.Val⟩) (kB_get hj)
              refine smem [.box [.sl a0.L.length (a0.L.flatMap eGApiWrite)], .box [.sl a2.Lo.length (a2.Lo.flatMap eU8), .sl a2.Hi.length (a2.Hi.flatMap eU8), .b a2.Open], .obj g (mkMap vagg (((t'.set j ⟨u.Key, u.Val⟩).map kB).map .string)) ((t'.set j ⟨u.Key, u.Val⟩).map eGApiKV), .box [.sl u.Key.length (u.Key.flatMap eU8), .sl u.Val.length (u.Val.flatMap eU8), .b u.Del]] (by rw [kB_set (kB_get hj), List.map_set]; rfl) ?_
              refine snil0 ?_
              refine block_normal ?_
              refine then_normal ?_
              refine cregion ?_
              refine sv rfl (opv_add rfl rfl) ?_
              refine sv rfl (opv_mv rfl) ?_
              refine snil ?_
              exact ⟨(n, (wI (i + 1), mputK kvk t ⟨u.Key, u.Val⟩), t'.set j ⟨u.Key, u.Val⟩), _, ⟨hk, e1, e3⟩, ⟨rfl, rfl, rfl, rfl, rfl, rfl, trivial⟩, rfl, Nat.lt_succ_self _⟩
            · obtain ⟨e1, e3⟩ := mput_new hp hd (x := ⟨u.Key, u.Val⟩) (kB_mem hn)
              refine smem [.box [.sl a0.L.length (a0.L.flatMap eGApiWrite)], .box [.sl a2.Lo.length (a2.Lo.flatMap eU8), .sl a2.Hi.length (a2.Hi.flatMap eU8), .b a2.Open], .obj g (mkMap vagg (((t' ++ [(⟨u.Key, u.Val⟩ : GApiKV)]).map kB).map .string)) ((t' ++ [(⟨u.Key, u.Val⟩ : GApiKV)]).map eGApiKV), .box [.sl u.Key.length (u.Key.flatMap eU8), .sl u.Val.length (u.Val.flatMap eU8), .b u.Del]] (by simp only [List.map_append]; rfl) ?_
              refine snil0 ?_
              refine block_normal ?_
              refine then_normal ?_
              refine cregion ?_
              refine sv rfl (opv_add rfl rfl) ?_
              refine sv rfl (opv_mv rfl) ?_
              refine snil ?_
              exact ⟨(n, (wI (i + 1), mputK kvk t ⟨u.Key, u.Val⟩), t' ++ [(⟨u.Key, u.Val⟩ : GApiKV)]), _, ⟨hk, e1, e3⟩, ⟨rfl, rfl, rfl, rfl, rfl, rfl, trivial⟩, rfl, Nat.lt_succ_self _⟩
          · subst hc
            refine cskip ?_
            refine block_normal ?_
            refine then_normal ?_
            refine cregion ?_
            refine sv rfl (opv_add rfl rfl) ?_
            refine sv rfl (opv_mv rfl) ?_
            refine snil ?_
            exact ⟨(n, (wI (i + 1), t), t'), _, ⟨hk, hp, hd⟩, ⟨rfl, rfl, rfl, rfl, rfl, rfl, trivial⟩, rfl, Nat.lt_succ_self _⟩
      · replace h := ite_f hc h
        clear hc
        refine cexit ?_
        refine then_exit ?_
        refine then_exit ?_
        refine block_hit ?_
        refine then_normal ?_
        obtain rfl := Option.some.inj h
        obtain rfl : _ = x2 := hk
        exact ⟨(t, t'), _, ⟨hp, hd, ho2⟩, ⟨rfl, rfl, trivial⟩, rfl⟩
  · refine cblock ?_
    obtain ⟨x1, hx1, ho1⟩ := bind_eq h
    refine awc_loop (G := Nat × (Int × List GApiKV) × List GApiKV) (fun q => [(4, .s (.one (.lp 0 0))), (6, .s (.one (.lp 1 0))), (3, .s (.one (.i .i64 a3))), (9, .s (.one (.raw (.map (some g))))), (30, .s (.one (.sl a1.length (a1.flatMap eGApiKV)))), (31, .s (.one (.i .i64 (a1.length : Int)))), (32, .s (.one (.i .i64 q.2.1.1)))]) (fun q => [.box [.sl a0.L.length (a0.L.flatMap eGApiWrite)], .box [.sl a2.Lo.length (a2.Lo.flatMap eU8), .sl a2.Hi.length (a2.Hi.flatMap eU8), .b a2.Open], .obj g (mkMap vagg ((q.2.2.map kB).map .string)) (q.2.2.map eGApiKV)]) (fun q => iterB (overs1 a1 a2) q.1 q.2.1 = some x1 ∧ q.2.2.Perm q.2.1.2 ∧ DistK kvk q.2.2) (fun q => q.1) (fuel, (0, []), []) ⟨hx1, List.Perm.refl _, List.Pairwise.nil⟩ ⟨rfl, rfl, rfl, rfl, rfl, rfl, rfl, trivial⟩ [] rfl (fun _ _ => inbL_of rfl) (fun _ _ => blkinb_of rfl) (fun _ _ => Nat.le_of_ble_eq_true rfl) ?_
    clear hx1 h
    rintro ⟨n, ⟨i, t⟩, t'⟩ ⟨h, hp, hd⟩
    dsimp only at hp hd
    obtain ⟨n, y, rfl, h, hk⟩ := iterB_eq h
    unfold overs1 at h
    dsimp only at h
    refine cseq ?_
    refine cregion ?_
    refine sv rfl (opv_lss rfl rfl) ?_
    refine snil ?_
    refine cseq ?_
    refine ccond rfl (fun hc => ?_) (fun hc => ?_)
    · replace h := ite_t hc h
      clear hc
      refine cskip ?_
      refine then_normal ?_
      refine cseq ?_
      refine cblock ?_
      refine cseq ?_
      refine cregion ?_
      obtain ⟨u, hu, h⟩ := bind_eq h
      refine sv rfl (opv_ix (f := eGApiKV) si38 (fun _ => rfl) rfl rfl rfl rfl hu) ?_
      refine sv rfl (opv_loadNe (ys := [.sl u.Key.length (u.Key.flatMap eU8), .sl u.Val.length (u.Val.flatMap eU8)]) ti46 rfl (.cp _) rfl rfl) ?_
      refine salloc rfl zi46 ?_
      refine sstore sz46 rfl rfl rfl rfl (Nat.le_of_ble_eq_true rfl) ?_
      refine smem [.box [.sl a0.L.length (a0.L.flatMap eGApiWrite)], .box [.sl a2.Lo.length (a2.Lo.flatMap eU8), .sl a2.Hi.length (a2.Hi.flatMap eU8), .b a2.Open], .obj g (mkMap vagg ((t'.map kB).map .string)) (t'.map eGApiKV), .box [.sl u.Key.length (u.Key.flatMap eU8), .sl u.Val.length (u.Val.flatMap eU8)]] rfl ?_
      refine snil ?_
      refine cseq ?_
      refine cregion ?_
      refine sv rfl (opv_loadN ti40 rfl (.lp _ _ _ rfl) (Nat.le_of_ble_eq_true rfl)) ?_
      refine sv rfl (opv_fieldAddr_lp fi46_0 rfl) ?_
      refine sv rfl (opv_load1 ti23 rfl (.lp _ _ _ rfl) rfl) ?_
      obtain ⟨v, hv, h⟩ := bind_eq h
      refine scall1 rfl fn32 (opnds_cons rfl (opnds_cons rfl opnds_nil)) (pubA_id rfl) (m32_keys_Has_c hv) ?_
      refine snil ?_
      obtain rfl := Option.some.inj h
      clear h
      refine ccond rfl (fun hc => ?_) (fun hc => ?_)
      · subst hc
        refine cregion ?_
        refine sv rfl (opv_mv rfl) ?_
        refine sv rfl (opv_fieldAddr_lp fi46_0 rfl) ?_
        refine sv rfl (opv_load1 ti23 rfl (.lp _ _ _ rfl) rfl) ?_
        refine sv rfl (opv_bs (l := u.Key) Try.underlying23 Try.underlying5 Try.underlying9 rfl rfl rfl) ?_
        refine sv rfl (opv_loadN ti46 rfl (.lp _ _ _ rfl) (Nat.le_of_ble_eq_true rfl)) ?_
        refine smapput (ss := t'.map kB) (css := t'.map eGApiKV) (s := kB u) (p := 2) Try.underlying64 Try.underlying9 rfl rfl rfl rfl rfl (fun j hj => ?_) (fun hn => ?_)
        · obtain ⟨e1, e2, e3⟩ := mput_at hp hd (x := u) (kB_get hj)
          refine smem [.box [.sl a0.L.length (a0.L.flatMap eGApiWrite)], .box [.sl a2.Lo.length (a2.Lo.flatMap eU8), .sl a2.Hi.length (a2.Hi.flatMap eU8), .b a2.Open], .obj g (mkMap vagg (((t'.set j u).map kB).map .string)) ((t'.set j u).map eGApiKV), .box [.sl u.Key.length (u.Key.flatMap eU8), .sl u.Val.length (u.Val.flatMap eU8)]] (by rw [kB_set (kB_get hj), List.map_set]; rfl) ?_
          refine snil0 ?_
          refine block_normal ?_
          refine then_normal ?_
          refine cregion ?_
          refine sv rfl (opv_add rfl rfl) ?_
          refine sv rfl (opv_mv rfl) ?_
          refine snil ?_
          exact ⟨(n, (wI (i + 1), mputK kvk t u), t'.set j u), _, ⟨hk, e1, e3⟩, ⟨rfl, rfl, rfl, rfl, rfl, rfl, rfl, trivial⟩, rfl, Nat.lt_succ_self _⟩
        · obtain ⟨e1, e3⟩ := mput_new hp hd (x := u) (kB_mem hn)
          refine smem [.box [.sl a0.L.length (a0.L.flatMap eGApiWrite)], .box [.sl a2.Lo.length (a2.Lo.flatMap eU8), .sl a2.Hi.length (a2.Hi.flatMap eU8), .b a2.Open], .obj g (mkMap vagg (((t' ++ [u]).map kB).map .string)) ((t' ++ [u]).map eGApiKV), .box [.sl u.Key.length (u.Key.flatMap eU8), .sl u.Val.length (u.Val.flatMap eU8)]] (by simp only [List.map_append]; rfl) ?_
          refine snil0 ?_
          refine block_normal ?_
          refine then_normal ?_
          refine cregion ?_
          refine sv rfl (opv_add rfl rfl) ?_
          refine sv rfl (opv_mv rfl) ?_
          refine snil ?_
          exact ⟨(n, (wI (i + 1), mputK kvk t u), t' ++ [u]), _, ⟨hk, e1, e3⟩, ⟨rfl, rfl, rfl, rfl, rfl, rfl, rfl, trivial⟩, rfl, Nat.lt_succ_self _⟩
      · subst hc
        refine cskip ?_
        refine block_normal ?_
        refine then_normal ?_
        refine cregion ?_
        refine sv rfl (opv_add rfl rfl) ?_
        refine sv rfl (opv_mv rfl) ?_
        refine snil ?_
        exact ⟨(n, (wI (i + 1), t), t'), _, ⟨hk, hp, hd⟩, ⟨rfl, rfl, rfl, rfl, rfl, rfl, rfl, trivial⟩, rfl, Nat.lt_succ_self _⟩
    · replace h := ite_f hc h
      clear hc
      refine cexit ?_
      refine then_exit ?_
      refine then_exit ?_
      refine block_hit ?_
      refine then_normal ?_
      obtain rfl := Option.some.inj h
      obtain rfl : _ = x1 := hk
      exact ⟨(t, t'), _, ⟨hp, hd, ho1⟩, ⟨rfl, rfl, rfl, rfl, trivial⟩, rfl⟩

def m37_keys_key_reacheds (a0 : List UInt8) (a1 : List UInt8) : Option Bool :=
  (m40_keys_Cmp a1 a0).bind fun v1 => some (decide (0 ≤ v1))

set_option maxRecDepth 100000 in
theorem m37_keys_key_reacheds_c {a0 : List UInt8} {a1 : List UInt8} {r : Bool} (h : m37_keys_key_reacheds a0 a1 = some r) : CallsA Try.prog 37 [.one (.sl a0.length (a0.flatMap eU8)), .one (.sl a1.length (a1.flatMap eU8))] (· = .s (.one (.b r))) := by
  unfold m37_keys_key_reacheds at h
  refine callsA_of Try.func37 rfl (nt := 9) rfl (Nat.le_of_ble_eq_true rfl) ?_
  intro w0 S0
  refine cseq ?_
  refine cregion ?_
  refine sv rfl (opv_as rfl) ?_
  refine snil ?_
  refine cseq ?_
  refine cregion ?_
  refine sv rfl (opv_mv rfl) ?_
  refine sv rfl (opv_mv rfl) ?_
  obtain ⟨v1, hv1, h⟩ := bind_eq h
  refine scall1 rfl fn40 (opnds_cons rfl (opnds_cons rfl opnds_nil)) (pubA_id rfl) (m40_keys_Cmp_c hv1) ?_
  refine sv rfl (opv_geq rfl rfl) ?_
  refine sv rfl (opv_as rfl) ?_
  refine snil ?_
  refine cret ?_
  obtain rfl := Option.some.inj h
  refine ⟨Or.inr rfl, _, _, _, (resVs_cons (ResV.tmp _ _ rfl) resVs_nil), (pubA_id rfl), ?_⟩
  rfl

def m36_slices_IndexFuncs_k1 (b1 : Unit) : Option Int :=
  some (-1)

def m36_slices_IndexFuncs_s2 (a0 : List (List UInt8)) (a1 : List UInt8) (s2 : Int) : Option (LR (Int) (Unit) (Int)) :=
  if (decide (s2 < (a0.length : Int))) then ((idx a0 s2).bind fun u3 => (m37_keys_key_reacheds a1 u3).bind fun v4 => if v4 then (some (.ret s2)) else (some (.cont (wI (s2 + 1))))) else (some (.brk ()))
def m36_slices_IndexFuncs (a0 : List (List UInt8)) (a1 : List UInt8) : Option Int :=
  (iter (m36_slices_IndexFuncs_s2 a0 a1) fuel 0).bind fun x => match x with | .inl r => some r | .inr e5 => m36_slices_IndexFuncs_k1 e5

set_option maxRecDepth 100000 in
theorem m36_slices_IndexFuncs_c {a0 : List (List UInt8)} {a1 : List UInt8} {r : Int} (h : m36_slices_IndexFuncs a0 a1 = some r) : CallsA Try.prog 36 [.one (.sl a0.length (a0.flatMap (eL eU8))), .one (.fn 37 [.sl a1.length (a1.flatMap eU8)] [])] (· = .s (.one (.i .i64 r))) := by
  unfold m36_slices_IndexFuncs at h
  refine callsA_of Try.func36 rfl (nt := 19) rfl (Nat.le_of_ble_eq_true rfl) ?_
  intro w0 S0
  refine cseq ?_
  refine cregion ?_
  refine sv rfl (opv_as rfl) ?_
  refine snil ?_
  refine cseq ?_
  refine cseq ?_
  refine cregion ?_
  refine sv rfl (opv_mv rfl) ?_
  refine sv rfl (opv_len_sl si57 rfl) ?_
  refine sv rfl (opv_mv rfl) ?_
  refine snil ?_
  refine cjoin (Unit) (fun b1 => []) (fun b1 => []) (fun b1 => m36_slices_IndexFuncs_k1 b1 = some r) (fun _ _ => inbL_of rfl) (fun _ _ => blkinb_of rfl) (fun _ _ => Nat.le_of_ble_eq_true rfl) (fun b1 h => ?_) ?_
  · unfold m36_slices_IndexFuncs_k1 at h
    refine cseq ?_
    refine cregion ?_
    refine sv rfl (opv_as rfl) ?_
    refine snil ?_
    refine cret ?_
    obtain rfl := Option.some.inj h
    refine ⟨Or.inr rfl, _, _, _, (resVs_cons (ResV.tmp _ _ rfl) resVs_nil), (pubA_id rfl), ?_⟩
    rfl
  · skip
    refine cblock ?_
    obtain ⟨x2, hx2, ho2⟩ := bind_eq h
    refine awc_loop (G := Nat × (Int)) (fun g => [(0, .s (.one (.sl a0.length (a0.flatMap (eL eU8))))), (1, .s (.one (.fn 37 [.sl a1.length (a1.flatMap eU8)] []))), (7, .s (.one (.i .i64 (a0.length : Int)))), (8, .s (.one (.i .i64 g.2)))]) (fun g => []) (fun g => iter (m36_slices_IndexFuncs_s2 a0 a1) g.1 g.2 = some x2) (fun g => g.1) (fuel, 0) hx2 ⟨rfl, rfl, rfl, rfl, trivial⟩ [] rfl (fun _ _ => inbL_of rfl) (fun _ _ => blkinb_of rfl) (fun _ _ => Nat.le_of_ble_eq_true rfl) ?_
    clear hx2 h
    rintro ⟨n2, s2⟩ h
    obtain ⟨n2, y2, rfl, h, hk2⟩ := iter_eq h
    unfold m36_slices_IndexFuncs_s2 at h
    refine cseq ?_
    refine cregion ?_
    refine sv rfl (opv_lss rfl rfl) ?_
    refine snil ?_
    refine cseq ?_
    refine ccond rfl (fun hc => ?_) (fun hc => ?_)
    · replace h := ite_t hc h
      clear hc
      refine cskip ?_
      refine then_normal ?_
      refine cseq ?_
      refine cblock ?_
      refine cseq ?_
      refine cregion ?_
      refine sv rfl (opv_mv rfl) ?_
      refine sv rfl (opv_as rfl) ?_
      refine snil ?_
      refine cseq ?_
      refine cregion ?_
      refine sv rfl (opv_mv rfl) ?_
      refine sv rfl (opv_mv rfl) ?_
      refine sv rfl (opv_mv rfl) ?_
      obtain ⟨u3, hu3, h⟩ := bind_eq h
      refine sv rfl (opv_ix (f := (eL eU8)) si57 (fun _ => rfl) rfl rfl rfl rfl hu3) ?_
      refine sv rfl (opv_load1 ti23 rfl (.cp _) rfl) ?_
      obtain ⟨v4, hv4, h⟩ := bind_eq h
      refine sd rfl (opD_callC fn37 (.fn _ _ _ _ rfl) (opnds_cons rfl opnds_nil) rfl (m37_keys_key_reacheds_c hv4)) ?_
      refine snil ?_
      refine ccond rfl (fun hc => ?_) (fun hc => ?_)
      · replace h := ite_t hc h
        clear hc
        refine cseq ?_
        refine cregion ?_
        refine sv rfl (opv_mv rfl) ?_
        refine sv rfl (opv_as rfl) ?_
        refine snil ?_
        refine cret ?_
        refine block_ret ?_
        refine then_ret ?_
        refine then_ret ?_
        refine block_ret ?_
        refine then_ret ?_
        obtain rfl := Option.some.inj h
        obtain rfl : Sum.inl _ = x2 := hk2
        replace ho2 : some _ = some _ := ho2
        obtain rfl := Option.some.inj ho2
        refine ⟨Or.inr rfl, _, _, _, (resVs_cons (ResV.tmp _ _ rfl) resVs_nil), (pubA_id rfl), ?_⟩
        rfl
      · replace h := ite_f hc h
        clear hc
        refine cskip ?_
        refine block_normal ?_
        refine then_normal ?_
        refine cregion ?_
        refine sv rfl (opv_add rfl rfl) ?_
        refine sv rfl (opv_mv rfl) ?_
        refine snil ?_
        obtain rfl := Option.some.inj h
        exact ⟨(n2, (wI (s2 + 1))), _, hk2, ⟨rfl, rfl, rfl, rfl, trivial⟩, rfl, Nat.lt_succ_self _⟩
    · replace h := ite_f hc h
      clear hc
      refine cexit ?_
      refine then_exit ?_
      refine then_exit ?_
      refine block_hit ?_
      refine then_normal ?_
      obtain rfl := Option.some.inj h
      obtain rfl : _ = x2 := hk2
      exact ⟨(), _, ho2, trivial, rfl⟩

def m28_bytes_Equal (a0 : List UInt8) (a1 : List UInt8) : Option Bool :=
  some (a0 == a1)

set_option maxRecDepth 100000 in
theorem m28_bytes_Equal_c {a0 : List UInt8} {a1 : List UInt8} {r : Bool} (h : m28_bytes_Equal a0 a1 = some r) : CallsA Try.prog 28 [.one (.sl a0.length (a0.flatMap eU8)), .one (.sl a1.length (a1.flatMap eU8))] (· = .s (.one (.b r))) := by
  unfold m28_bytes_Equal at h
  refine callsA_of Try.func28 rfl (nt := 10) rfl (Nat.le_of_ble_eq_true rfl) ?_
  intro w0 S0
  refine cseq ?_
  refine cregion ?_
  refine sv rfl (opv_as rfl) ?_
  refine snil ?_
  refine cseq ?_
  refine cregion ?_
  refine sv rfl (opv_mv rfl) ?_
  refine sv rfl (opv_bs (l := a0) Try.underlying23 Try.underlying5 Try.underlying9 rfl rfl rfl) ?_
  refine sv rfl (opv_mv rfl) ?_
  refine sv rfl (opv_bs (l := a1) Try.underlying23 Try.underlying5 Try.underlying9 rfl rfl rfl) ?_
  refine sv rfl (opv_seql' rfl rfl) ?_
  refine sv rfl (opv_as rfl) ?_
  refine snil ?_
  refine cret ?_
  obtain rfl := Option.some.inj h
  refine ⟨Or.inr rfl, _, _, _, (resVs_cons (ResV.tmp _ _ rfl) resVs_nil), (pubA_id rfl), ?_⟩
  rfl

def m24_keys_Find (a0 : List (List UInt8)) (a1 : List UInt8) : Option (Int × Bool) :=
  (m36_slices_IndexFuncs a0 a1).bind fun v1 => if (decide (v1 < 0)) then (some ((a0.length : Int), false)) else ((idx a0 v1).bind fun u2 => (m28_bytes_Equal u2 a1).bind fun v3 => some (v1, v3))

set_option maxRecDepth 100000 in
theorem m24_keys_Find_c {a0 : List (List UInt8)} {a1 : List UInt8} {r : Int × Bool} (h : m24_keys_Find a0 a1 = some r) : CallsA Try.prog 24 [.one (.sl a0.length (a0.flatMap (eL eU8))), .one (.sl a1.length (a1.flatMap eU8))] (· = .tup [.one (.i .i64 r.1), .one (.b r.2)]) := by
  unfold m24_keys_Find at h
  refine callsA_of Try.func24 rfl (nt := 22) rfl (Nat.le_of_ble_eq_true rfl) ?_
  intro w0 S0
  refine cseq ?_
  refine cregion ?_
  refine sv rfl (opv_as rfl) ?_
  refine sv rfl (opv_as rfl) ?_
  refine snil ?_
  refine cseq ?_
  refine cregion ?_
  refine sv rfl (opv_mv rfl) ?_
  refine sv rfl (opv_mv rfl) ?_
  refine sv rfl (opv_makeFunc (opnds1_cons rfl rfl opnds1_nil) opnds1_nil) ?_
  obtain ⟨v1, hv1, h⟩ := bind_eq h
  refine sd rfl (opD_callC fn36 (.func _) (opnds_cons rfl (opnds_cons rfl opnds_nil)) rfl (m36_slices_IndexFuncs_c hv1)) ?_
  refine sv rfl (opv_as rfl) ?_
  refine snil ?_
  refine cseq ?_
  refine cseq ?_
  refine cregion ?_
  refine sv rfl (opv_mv rfl) ?_
  refine sv rfl (opv_lss rfl rfl) ?_
  refine snil ?_
  refine ccond rfl (fun hc => ?_) (fun hc => ?_)
  · replace h := ite_t hc h
    clear hc
    refine cseq ?_
    refine cregion ?_
    refine sv rfl (opv_mv rfl) ?_
    refine sv rfl (opv_len_sl si57 rfl) ?_
    refine sv rfl (opv_as rfl) ?_
    refine sv rfl (opv_as rfl) ?_
    refine snil ?_
    refine cret ?_
    refine then_ret ?_
    obtain rfl := Option.some.inj h
    refine ⟨Or.inr rfl, _, _, _, (resVs_cons (ResV.tmp _ _ rfl) (resVs_cons (ResV.tmp _ _ rfl) resVs_nil)), (pubA_id rfl), ?_⟩
    rfl
  · replace h := ite_f hc h
    clear hc
    refine cskip ?_
    refine then_normal ?_
    refine cseq ?_
    refine cregion ?_
    refine sv rfl (opv_mv rfl) ?_
    refine sv rfl (opv_mv rfl) ?_
    refine sv rfl (opv_mv rfl) ?_
    obtain ⟨u2, hu2, h⟩ := bind_eq h
    refine sv rfl (opv_ix (f := (eL eU8)) si57 (fun _ => rfl) rfl rfl rfl rfl hu2) ?_
    refine sv rfl (opv_load1 ti23 rfl (.cp _) rfl) ?_
    refine sv rfl (opv_mv rfl) ?_
    obtain ⟨v3, hv3, h⟩ := bind_eq h
    refine scall1 rfl fn28 (opnds_cons rfl (opnds_cons rfl opnds_nil)) (pubA_id rfl) (m28_bytes_Equal_c hv3) ?_
    refine sv rfl (opv_as rfl) ?_
    refine sv rfl (opv_as rfl) ?_
    refine snil ?_
    refine cret ?_
    obtain rfl := Option.some.inj h
    refine ⟨Or.inr rfl, _, _, _, (resVs_cons (ResV.tmp _ _ rfl) (resVs_cons (ResV.tmp _ _ rfl) resVs_nil)), (pubA_id rfl), ?_⟩
    rfl

def m26_slices_Cloneo (a0 : List GApiWrite) : Option (List GApiWrite) :=
  if (([] : List GApiWrite).length + a0.length) * 56 ≤ 140737488355328 then (some (([] : List GApiWrite) ++ a0)) else none

set_option maxRecDepth 100000 in
theorem m26_slices_Cloneo_c {a0 : List GApiWrite} {r : (List GApiWrite)} (h : m26_slices_Cloneo a0 = some r) : CallsB Try.prog 26 [] [.one (.sl a0.length (a0.flatMap eGApiWrite))] (fun y m' => y = .s (.one (.ls 0 r.length)) ∧ m' = [.arr 29 3 0 (r.flatMap eGApiWrite)]) := by
  unfold m26_slices_Cloneo at h
  refine callsB_of Try.func26 rfl (nt := 8) rfl (Nat.le_of_ble_eq_true rfl) ?_
  intro w0 S0 X0 H0
  refine cseq ?_
  refine cregion ?_
  refine sv rfl (opv_as rfl) ?_
  refine snil ?_
  refine cseq ?_
  refine cseq ?_
  refine cregion ?_
  refine sv rfl (opv_mv rfl) ?_
  refine snilq rfl Try.underlying22 rfl (fun nq hnq => ?_)
  cases nq
  · skip
    refine snil ?_
    refine ccond rfl (fun hx => Bool.noConfusion hx) (fun _ => ?_)
    refine cskip ?_
    refine then_normal ?_
    refine cseq ?_
    refine cregion ?_
    refine sbuild0 rfl Try.underlying22 ei29 ?_
    refine sv rfl (opv_mv rfl) ?_
    obtain ⟨hb1, h⟩ := chk_eq h
    refine sapp (f := eGApiWrite) (xs := ([] : List GApiWrite)) (us := a0) rfl Try.underlying22 ei29 ni22 (fun _ => rfl) rfl rfl (.one _ _ _ _ (.id _ rfl)) rfl rfl rfl (.sl _ _ _ (flat_len (f := eGApiWrite) (fun _ => rfl) _)) rfl rfl hb1 (by decide) ?_
    refine sv rfl (opv_as rfl) ?_
    refine snil ?_
    refine cret ?_
    obtain rfl := Option.some.inj h
    exact ⟨Or.inr rfl, _, [0], [.one (.ls 0 (([] : List GApiWrite) ++ a0).length)], [.arr 29 3 0 ((([] : List GApiWrite) ++ a0).flatMap eGApiWrite)], (resVs_cons (ResV.tmp _ _ rfl) resVs_nil), rfl, rfl, ⟨by decide, rfl⟩, rfl, rfl, ⟨rfl, rfl⟩⟩
  · obtain rfl := List.eq_nil_of_length_eq_zero (hnq rfl)
    replace h : (some ([] : List GApiWrite)) = some r := by first | exact h | (rw [if_pos (by decide)] at h; exact h)
    refine snil ?_
    refine ccond rfl (fun _ => ?_) (fun hx => Bool.noConfusion hx)
    refine cseq ?_
    refine cregion ?_
    refine sv rfl (opv_as rfl) ?_
    refine snil ?_
    refine sadopt_c 29 3 2 (by decide) rfl ?_
    refine cret ?_
    refine then_ret ?_
    obtain rfl := Option.some.inj h
    exact ⟨Or.inr rfl, _, [0], [.one (.ls 0 ([] : List GApiWrite).length)], [.arr 29 3 0 (([] : List GApiWrite).flatMap eGApiWrite)], (resVs_cons (ResV.tmp _ _ rfl) resVs_nil), rfl, rfl, ⟨by decide, rfl⟩, rfl, rfl, ⟨rfl, rfl⟩⟩

section
open Go.Lib

set_option maxHeartbeats 4000000 in
set_option maxRecDepth 100000 in
theorem ins27_end (b n c vb vc : Nat) (vs : List Value) (w : World) (i0 : TypeInfo) (hi0 : Try.prog.info? 29 = some i0) (hs0 : i0.size = 3) (hroom : n + 1 ≤ c) (hc63 : c ≤ 9223372036854775807)
    (hvl : vs.length = 3) (hsp : ∀ j, j < 3 → (w.cell? ⟨b, n * 3 + j, none⟩).isSome = true) (hfz : ∀ j, j < 3 → w.frozen? ⟨b, n * 3 + j, none⟩ = false)
    (hvs : ∀ j v, vs[j]? = some v → w.cell? ⟨vb, j, none⟩ = some v) (h1v : ∀ v ∈ vs, v.oneCell' = true) :
    Calls Try.prog 27 #[.slice (some ⟨b, 0, none⟩) n c, .int .i64 n, .slice (some ⟨vb, 0, none⟩) 1 vc] w fun e w' =>
      e = .returned (.slice (some ⟨b, 0, none⟩) (n + 1) c) ∧ w' = w.setCells b (n * 3) vs := by
  have hsrc : _root_.Go.Src Try.prog i0.size 22 (.slice (some ⟨vb, 0, none⟩) 1 vc) 1 vs w := by
    rw [hs0]
    exact _root_.Go.Src.ofSlice w Try.underlying22 ⟨vb, 0, none⟩ 1 vc vs (by omega) (fun j u hj => by rw [Addr.add_lit, Nat.zero_add]; exact hvs j u hj) h1v
  go_enter Try.func27, Try.ntmps27
  go_wp2_with (at_builtin; refine wpList_append_room_src _ rfl _ _ 22 22 rfl 29 i0 Try.underlying22 hi0 b 0 n c rfl _ rfl 1 vs hsrc hroom (by rw [hvl, hs0, Nat.zero_add]; exact hsp) (by rw [hvl, hs0, Nat.zero_add]; exact hfz) ?_)
  go_ret
  refine ⟨rfl, ?_⟩
  first | rfl | (simp; done) | (simp [hs0]; done)

set_option maxHeartbeats 4000000 in
set_option maxRecDepth 100000 in
theorem ins27_egrow (b n c vb vc : Nat) (cs vs : List Value) (w : World) (i0 : TypeInfo) (hi0 : Try.prog.info? 29 = some i0) (hz0 : i0.zero = some (.agg #[.slice none 0 0, .slice none 0 0, .bool false])) (hs0 : i0.size = 3) (hnc : n ≤ c) (hroom : c < n + 1) (hn63 : n + 1 ≤ 9223372036854775807)
    (hfit : Builtin.nextslicecap (n + 1) c * i0.bytes ≤ 281474976710656) (hcl : cs.length = n * 3) (hvl : vs.length = 3)
    (hcs : ∀ j v, cs[j]? = some v → w.cell? ⟨b, j, none⟩ = some v) (hvs : ∀ j v, vs[j]? = some v → w.cell? ⟨vb, j, none⟩ = some v) (h1v : ∀ v ∈ vs, v.oneCell' = true) :
    Calls Try.prog 27 #[.slice (some ⟨b, 0, none⟩) n c, .int .i64 n, .slice (some ⟨vb, 0, none⟩) 1 vc] w fun e w' =>
      e = .returned (.slice (some ⟨w.heap.size, 0, none⟩) (n + 1) (grownCap w (n + 1) c 29)) ∧
      w' = w.drew.alloc (.cells ((cs ++ vs).toArray ++ Builtin.zeroCells (Value.cells (.agg #[.slice none 0 0, .slice none 0 0, .bool false])) (grownCap w (n + 1) c 29 - (n + 1))) 29) := by
  have hsrc : _root_.Go.Src Try.prog i0.size 22 (.slice (some ⟨vb, 0, none⟩) 1 vc) 1 vs w := by
    rw [hs0]
    exact _root_.Go.Src.ofSlice w Try.underlying22 ⟨vb, 0, none⟩ 1 vc vs (by omega) (fun j u hj => by rw [Addr.add_lit, Nat.zero_add]; exact hvs j u hj) h1v
  have hold : (Builtin.firstCells i0.size n (.slice (some ⟨b, 0, none⟩) n c)).run Try.prog w.drew = .ok cs.toArray w.drew := by
    rw [hs0]
    exact run_firstCells_some w.drew 3 n ⟨b, 0, none⟩ n c cs (by omega) (fun j v hj => by rw [Addr.add_lit, Nat.zero_add]; exact hcs j v hj)
  have hrun : ∀ ty, (Builtin.append_ #[22, 22] ty #[.slice (some ⟨b, 0, none⟩) n c, .slice (some ⟨vb, 0, none⟩) 1 vc]).run Try.prog w = .ok (.slice (some ⟨w.heap.size, 0, none⟩) (n + 1) (grownCap w (n + 1) c 29)) (w.drew.alloc (.cells ((cs ++ vs).toArray ++ Builtin.zeroCells (Value.cells (.agg #[.slice none 0 0, .slice none 0 0, .bool false])) (grownCap w (n + 1) c 29 - (n + 1))) 29)) := fun ty =>
    run_append_grow_src w 22 22 ty 29 i0 _ Try.underlying22 hi0 hz0 (some ⟨b, 0, none⟩) n c cs hold _ 1 vs hsrc hroom (by omega) hfit
  go_enter Try.func27, Try.ntmps27
  go_wp2_with (at_builtin; refine Lib.wpList_append_run _ rfl _ _ _ _ rfl _ _ rfl rfl _ _ (hrun _) ?_)
  all_goals (go_ret; first | exact ⟨rfl, rfl⟩ | exact ⟨rfl, by simp [Value.cells]⟩)

set_option maxHeartbeats 4000000 in
set_option maxRecDepth 100000 in
theorem ins27_shift (b n c i vb vc : Nat) (cs vs : List Value) (w : World) (hs0 : (Try.prog.info? 29).map (·.size) = some 3) (hi : i < n) (hroom : n + 1 ≤ c) (hc63 : c ≤ 9223372036854775807) (hvb : vb ≠ b)
    (hcl : cs.length = n * 3) (hvl : vs.length = 3)
    (hcs : ∀ j v, cs[j]? = some v → w.cell? ⟨b, j, none⟩ = some v) (hsp : ∀ j, j < (n + 1) * 3 → (w.cell? ⟨b, j, none⟩).isSome = true) (hfz : ∀ j, j < (n + 1) * 3 → w.frozen? ⟨b, j, none⟩ = false)
    (hvs : ∀ j v, vs[j]? = some v → w.cell? ⟨vb, j, none⟩ = some v) (h1c : ∀ v ∈ cs, v.oneCell' = true) (h1v : ∀ v ∈ vs, v.oneCell' = true)
    (tA tB : TypeId) (kA kB : Nat) (hsa : w.shape? vb = some (tA, kA)) (hsb : w.shape? b = some (tB, kB)) (hkB : kB ≠ 0) (hfa : w.frozen? ⟨vb, 0, none⟩ = false) (hfe : w.frozen? ⟨vb, kA, none⟩ = false) :
    Calls Try.prog 27 #[.slice (some ⟨b, 0, none⟩) n c, .int .i64 i, .slice (some ⟨vb, 0, none⟩) 1 vc] w fun e w' =>
      e = .returned (.slice (some ⟨b, 0, none⟩) (n + 1) c) ∧ w' = (w.drew.setCells b ((i + 1) * 3) (cs.drop ((i) * 3))).setCells b ((i) * 3) vs := by
  have hz2 : ¬ ((i : Int) = (n : Int)) := by omega
  have hz3 : ¬ ((c : Int) < (n : Int) + 1) := by omega
  have mixed : Try.prog.follows .mixedOrders = true := by kernel_rfl
  have hov : ∀ lb cb, (callFunc 38 #[.slice (some ⟨vb, 0, none⟩) 1 vc, .slice (some ⟨b, (i + 1) * 3, none⟩) lb cb]).run Try.prog w = .ok (.value (.bool false)) w := fun lb cb => by
    rw [run_callFunc_extern Try.func38 (by kernel_rfl) (by kernel_rfl) (by kernel_rfl) (e := Extern.SlicesOverlaps.overlaps #[22, 22] #[4]) (by kernel_rfl),
      Lib.run_overlaps_apart w 22 4 29 Try.underlying22 3 (fun w => run_sizeOf' hs0 w) ⟨vb, 0, none⟩ ⟨b, (i + 1) * 3, none⟩ 1 vc lb cb hvb tA tB kA kB hsa hsb hkB hfa hfe]
    rfl
  have hdl : (cs.drop ((i) * 3)).length = (n - i) * 3 := by rw [List.length_drop, hcl]; omega
  have hw1 : IntKind.i64.wrap ((i : Int) + 1) = (i : Int) + 1 := by rw [IntKind.wrap_i64]; omega
  have hb1 : (0 : Int) ≤ (i : Int) + 1 := by omega
  have hin : i ≤ n := by omega
  have htn : ((i : Int) + 1).toNat = i + 1 := by omega
  have hb2 : ¬ (c = i + 1) := by omega
  have hb3 : (i : Int) ≤ (n : Int) + 1 := by omega
  have hb4 : ¬ (c = i) := by omega
  have hcp1 : ∀ ty dc sc, (Builtin.copy_ #[22, 22] ty #[.slice (some ⟨b, (i + 1) * 3, none⟩) (n - i) dc, .slice (some ⟨b, (i) * 3, none⟩) (n + 1 - i) sc]).run Try.prog w.drew = .ok (goInt (n - i : Nat)) (w.drew.setCells b ((i + 1) * 3) (cs.drop ((i) * 3))) := fun ty dc sc =>
    run_copy_k w.drew _ _ ty 29 b ((i + 1) * 3) (n - i) dc ⟨b, (i) * 3, none⟩ (n + 1 - i) sc 3 (n - i) (cs.drop ((i) * 3)) Try.underlying22 hs0 (by simp only [Nat.min_def]; split <;> omega) hdl
      (fun j v hj => by rw [Addr.add_lit]; exact hcs ((i) * 3 + j) v (by rwa [List.getElem?_drop] at hj))
      (fun j hj => hsp _ (by rw [hdl] at hj; omega)) (fun j hj => hfz _ (by rw [hdl] at hj; omega)) (fun v hv => h1c v (List.mem_of_mem_drop hv))
  obtain ⟨W1, hW1⟩ : ∃ W1, W1 = w.drew.setCells b ((i + 1) * 3) (cs.drop ((i) * 3)) := ⟨_, rfl⟩
  have hsp1 : ∀ k, k < (n + 1) * 3 → (W1.cell? ⟨b, k, none⟩).isSome = true := fun k hk => by
    rw [hW1]
    exact isSome_setCells b (cs.drop ((i) * 3)) ((i + 1) * 3) w.drew (fun j hj => hsp _ (by rw [hdl] at hj; omega)) _ (hsp k hk)
  have hcp2 : ∀ (W : World), (∀ x, W.cell? x = W1.cell? x) → (∀ x, W.frozen? x = W1.frozen? x) → ∀ ty dc, (Builtin.copy_ #[22, 22] ty #[.slice (some ⟨b, (i) * 3, none⟩) (n + 1 - i) dc, .slice (some ⟨vb, 0, none⟩) 1 vc]).run Try.prog W = .ok (goInt (1 : Nat)) (W.setCells b ((i) * 3) vs) := fun W hWc hWf ty dc =>
    run_copy_k W _ _ ty 29 b ((i) * 3) (n + 1 - i) dc ⟨vb, 0, none⟩ 1 vc 3 1 vs Try.underlying22 hs0 (by simp only [Nat.min_def]; split <;> omega) (by omega)
      (fun j v hj => by
        rw [Addr.add_lit, hWc, hW1, Nat.zero_add, World.cell?_setCells_out b _ _ _ _ (fun h _ => absurd h hvb)]
        exact hvs j v hj)
      (fun j hj => by rw [hWc]; exact hsp1 _ (by omega)) (fun j hj => by rw [hWf, hW1, World.frozen?_setCells]; exact hfz _ (by omega)) h1v
  rw [← hW1] at hcp1
  go_enter Try.func27, Try.ntmps27
  go_wp2_with (simp only [hov])
  go_region_law_o (refine step_copy_runI rfl _ _ 22 22 rfl _ _ (by simp [Act.eval, Act.put]) (by simp [Act.eval, Act.put]) (hcp1 _ _ _) ?_)
  go_wp2_with (at_builtin; refine wpList_copy_runI _ rfl _ _ 22 22 rfl _ _ rfl rfl (hcp2 _ (fun _ => rfl) (fun _ => rfl) _ _) ?_)
  go_ret
  first | exact ⟨rfl, rfl⟩ | exact ⟨rfl, by rw [hW1]⟩

set_option maxHeartbeats 4000000 in
set_option maxRecDepth 100000 in
theorem ins27_grow (b n c i vb vc : Nat) (cs vs : List Value) (w : World) (i0 : TypeInfo) (hi0 : Try.prog.info? 29 = some i0) (hz0 : i0.zero = some (.agg #[.slice none 0 0, .slice none 0 0, .bool false])) (hs0 : i0.size = 3) (hi : i < n) (hnc : n ≤ c) (hroom : c < n + 1) (hn63 : n + 1 ≤ 4611686018427387904)
    (hb48 : (n + 1) * i0.bytes ≤ 281474976710656) (hfit : Builtin.nextslicecap (n + 1) c * i0.bytes ≤ 281474976710656) (hcl : cs.length = n * 3) (hvl : vs.length = 3)
    (hcs : ∀ j v, cs[j]? = some v → w.cell? ⟨b, j, none⟩ = some v) (hvs : ∀ j v, vs[j]? = some v → w.cell? ⟨vb, j, none⟩ = some v) (h1c : ∀ v ∈ cs, v.oneCell' = true) (h1v : ∀ v ∈ vs, v.oneCell' = true) :
    Calls Try.prog 27 #[.slice (some ⟨b, 0, none⟩) n c, .int .i64 i, .slice (some ⟨vb, 0, none⟩) 1 vc] w fun e w' =>
      e = .returned (.slice (some ⟨w.heap.size, 0, none⟩) (n + 1) (grownCap w (n + 1) c 29)) ∧
      w' = (((w.alloc (.cells ((cs.take ((i) * 3)).toArray ++ Builtin.zeroCells (Value.cells (.agg #[.slice none 0 0, .slice none 0 0, .bool false])) (n + 1 - i) ++ Builtin.zeroCells (Value.cells (.agg #[.slice none 0 0, .slice none 0 0, .bool false])) (grownCap w (n + 1) c 29 - (n + 1))) 29)).drew.setCells w.heap.size ((i) * 3) vs).drew).setCells w.heap.size ((i + 1) * 3) (cs.drop ((i) * 3)) := by
  have mixed : Try.prog.follows .mixedOrders = true := by kernel_rfl
  have hz2 : ¬ ((i : Int) = (n : Int)) := by omega
  have hz3 : (c : Int) < (n : Int) + 1 := by omega
  have hsz : (Try.prog.info? 29).map (·.size) = some 3 := by rw [hi0]; simp [hs0]
  have hbw : b < w.heap.size := block_lt_of_cell (hcs 0 _ (List.getElem?_eq_getElem (by omega)))
  have hvw : vb < w.heap.size := block_lt_of_cell (hvs 0 _ (List.getElem?_eq_getElem (by omega)))
  have hkk : (n : Int) + 1 - (i : Int) = ((n + 1 - i : Nat) : Int) := by omega
  have hik : i + (n + 1 - i) = n + 1 := by omega
  have htl : (cs.take ((i) * 3)).length = i * 3 := by rw [List.length_take]; omega
  have hold : (Builtin.firstCells i0.size i (.slice (some ⟨b, 0, none⟩) i c)).run Try.prog w.drew = .ok (cs.take ((i) * 3)).toArray w.drew := by
    rw [hs0]
    exact run_firstCells_some w.drew 3 i ⟨b, 0, none⟩ i c (cs.take ((i) * 3)) htl (fun j v hj => by
      rw [Addr.add_lit, Nat.zero_add]
      rw [List.getElem?_take] at hj
      split at hj
      · exact hcs j v hj
      · cases hj)
  have hrz : ∀ ty, (Builtin.append_ #[22, 3] ty #[.slice (some ⟨b, 0, none⟩) i c, .int .i64 ((n : Int) + 1 - (i : Int))]).run Try.prog w =
      .ok (.slice (some ⟨w.heap.size, 0, none⟩) (n + 1) (grownCap w (n + 1) c 29)) (w.drew.alloc (.cells ((cs.take ((i) * 3)).toArray ++ Builtin.zeroCells (Value.cells (.agg #[.slice none 0 0, .slice none 0 0, .bool false])) (n + 1 - i) ++ Builtin.zeroCells (Value.cells (.agg #[.slice none 0 0, .slice none 0 0, .bool false])) (grownCap w (n + 1) c 29 - (n + 1))) 29)) := fun ty => by
    have h := Lib.run_append_grow_zeros w 22 3 ty 29 i0 _ .i64 .i64 Try.underlying22 Try.underlying3 hi0 hz0 (some ⟨b, 0, none⟩) i c (cs.take ((i) * 3)) hold (n + 1 - i) (by omega) (by omega) (by omega) (by omega) (Nat.le_trans (Nat.mul_le_mul_right _ (by omega)) hb48) (by rw [hik]; exact hfit)
    rw [hik] at h
    rw [hkk]
    exact h
  obtain ⟨G, hG⟩ : ∃ G, G = grownCap w (n + 1) c 29 := ⟨_, rfl⟩
  obtain ⟨ROW, hROW⟩ : ∃ ROW : Array Value, ROW = (cs.take ((i) * 3)).toArray ++ Builtin.zeroCells (Value.cells (.agg #[.slice none 0 0, .slice none 0 0, .bool false])) (n + 1 - i) ++ Builtin.zeroCells (Value.cells (.agg #[.slice none 0 0, .slice none 0 0, .bool false])) (G - (n + 1)) := ⟨_, rfl⟩
  rw [← hG] at hrz ⊢
  rw [← hROW] at hrz ⊢
  have hzc : ∀ k, (Builtin.zeroCells (Value.cells (.agg #[.slice none 0 0, .slice none 0 0, .bool false])) k).size = k * 3 := fun k => by simp [Builtin.zeroCells, Value.cells]
  have hRl : (n + 1) * 3 ≤ ROW.size := by
    rw [hROW, Array.size_append, Array.size_append, hzc, hzc, List.size_toArray, htl]
    omega
  obtain ⟨W1, hW1⟩ : ∃ W1, W1 = w.drew.alloc (.cells ROW 29) := ⟨_, rfl⟩
  rw [← hW1] at hrz
  have hN : ∀ j, j < (n + 1) * 3 → (W1.cell? ⟨w.heap.size, j, none⟩).isSome = true := fun j hj => by
    rw [hW1, World.cell?_alloc_at (w := w.drew) ROW _ w.heap.size j rfl, Array.getElem?_eq_getElem (by omega)]; rfl
  have hNf : ∀ j, W1.frozen? ⟨w.heap.size, j, none⟩ = false := fun j => by rw [hW1]; exact World.frozen?_alloc_at (w := w.drew) ROW _ w.heap.size j rfl
  have hOb : ∀ j v, w.cell? ⟨b, j, none⟩ = some v → W1.cell? ⟨b, j, none⟩ = some v := fun j v h => by rw [hW1, World.cell?_alloc_past (w := w.drew) _ b j hbw]; exact h
  have hOv : ∀ j v, w.cell? ⟨vb, j, none⟩ = some v → W1.cell? ⟨vb, j, none⟩ = some v := fun j v h => by rw [hW1, World.cell?_alloc_past (w := w.drew) _ vb j hvw]; exact h
  have hcpA : ∀ (W : World), (∀ x, W.cell? x = W1.cell? x) → (∀ x, W.frozen? x = W1.frozen? x) → ∀ ty dc, (Builtin.copy_ #[22, 22] ty #[.slice (some ⟨w.heap.size, (i) * 3, none⟩) (n + 1 - i) dc, .slice (some ⟨vb, 0, none⟩) 1 vc]).run Try.prog W = .ok (goInt (1 : Nat)) (W.setCells w.heap.size ((i) * 3) vs) := fun W hWc hWf ty dc =>
    run_copy_k W _ _ ty 29 w.heap.size ((i) * 3) (n + 1 - i) dc ⟨vb, 0, none⟩ 1 vc 3 1 vs Try.underlying22 hsz (by simp only [Nat.min_def]; split <;> omega) (by omega)
      (fun j v hj => by rw [Addr.add_lit, hWc, Nat.zero_add]; exact hOv _ v (hvs j v hj))
      (fun j hj => by rw [hWc]; exact hN _ (by omega)) (fun j hj => by rw [hWf]; exact hNf _) h1v
  have hGn : n + 1 ≤ G := by rw [hG]; exact grownCap_ge w _ _ _
  have hG63 : G ≤ 9223372036854775807 := by
    have := grownCap_le_maxLen w (n + 1) c 29 (by unfold maxLen; omega)
    rw [← hG] at this
    unfold maxLen at this
    omega
  have hGi : ¬ (G = i) := by omega
  have hGim : ¬ (G = i + 1) := by omega
  have hci : ¬ (c = i) := by omega
  have hbN : b ≠ w.heap.size := by omega
  have hdl : (cs.drop ((i) * 3)).length = (n - i) * 3 := by rw [List.length_drop, hcl]; omega
  have hcpB : ∀ (W : World), (∀ x, W.cell? x = (W1.setCells w.heap.size ((i) * 3) vs).cell? x) → (∀ x, W.frozen? x = (W1.setCells w.heap.size ((i) * 3) vs).frozen? x) → ∀ ty dc sc, (Builtin.copy_ #[22, 22] ty #[.slice (some ⟨w.heap.size, (i + 1) * 3, none⟩) (n - i) dc, .slice (some ⟨b, (i) * 3, none⟩) (n - i) sc]).run Try.prog W = .ok (goInt (n - i : Nat)) (W.setCells w.heap.size ((i + 1) * 3) (cs.drop ((i) * 3))) := fun W hWc hWf ty dc sc =>
    run_copy_k W _ _ ty 29 w.heap.size ((i + 1) * 3) (n - i) dc ⟨b, (i) * 3, none⟩ (n - i) sc 3 (n - i) (cs.drop ((i) * 3)) Try.underlying22 hsz (by simp only [Nat.min_def]; split <;> omega) hdl
      (fun j v hj => by
        rw [Addr.add_lit, hWc, World.cell?_setCells_out _ _ _ _ _ (fun h _ => absurd h hbN)]
        exact hOb _ v (hcs ((i) * 3 + j) v (by rwa [List.getElem?_drop] at hj)))
      (fun j hj => by rw [hWc]; exact isSome_setCells w.heap.size vs ((i) * 3) W1 (fun t ht => hN _ (by omega)) _ (hN _ (by rw [hdl] at hj; omega)))
      (fun j hj => by rw [hWf, World.frozen?_setCells]; exact hNf _) (fun v hv => h1c v (List.mem_of_mem_drop hv))
  subst hW1
  have hE1 : ∀ x, ((w.alloc (.cells ROW 29)).drew).cell? x = (w.drew.alloc (.cells ROW 29)).cell? x := fun x => rfl
  have hE2 : ∀ x, ((w.alloc (.cells ROW 29)).drew).frozen? x = (w.drew.alloc (.cells ROW 29)).frozen? x := fun x => rfl
  have hF1 : ∀ x, (((w.alloc (.cells ROW 29)).drew.setCells w.heap.size ((i) * 3) vs).drew).cell? x = ((w.drew.alloc (.cells ROW 29)).setCells w.heap.size ((i) * 3) vs).cell? x := fun x => rfl
  have hF2 : ∀ x, (((w.alloc (.cells ROW 29)).drew.setCells w.heap.size ((i) * 3) vs).drew).frozen? x = ((w.drew.alloc (.cells ROW 29)).setCells w.heap.size ((i) * 3) vs).frozen? x := fun x => rfl
  have hw1 : IntKind.i64.wrap ((i : Int) + 1) = (i : Int) + 1 := by rw [IntKind.wrap_i64]; omega
  have hb1 : (0 : Int) ≤ (i : Int) + 1 := by omega
  have hin : i ≤ n := by omega
  have htn : ((i : Int) + 1).toNat = i + 1 := by omega
  have hb3 : (i : Int) ≤ (n : Int) := by omega
  clear hkk hik hold hROW hG hRl htl hzc
  go_enter Try.func27, Try.ntmps27
  go_wp2_with (first
    | (at_builtin; refine Lib.wpList_append_run _ rfl _ _ _ _ rfl _ _ rfl rfl _ _ (hrz _) ?_)
    | (at_builtin; refine wpList_copy_runI _ rfl _ _ 22 22 rfl _ _ rfl rfl (hcpA _ hE1 hE2 _ _) ?_)
    | (at_builtin; refine wpList_copy_runI _ rfl _ _ 22 22 rfl _ _ rfl rfl (hcpB _ (fun _ => rfl) (fun _ => rfl) _ _ _) ?_))
  go_region_law_o (refine step_copy_runI rfl _ _ 22 22 rfl (.slice (some ⟨w.heap.size, (i + 1) * 3, none⟩) (n - i) (G - (i + 1))) (.slice (some ⟨b, (i) * 3, none⟩) (n - i) (c - i)) (by simp [Act.eval, Act.put]) (by simp [Act.eval, Act.put]) (hcpB _ hF1 hF2 3 (G - (i + 1)) (c - i)) ?_)
  go_wp2
  go_ret
  exact ⟨rfl, rfl⟩

set_option maxHeartbeats 4000000 in
set_option maxRecDepth 100000 in
theorem ins27_nil (vb vc : Nat) (vs : List Value) (w : World) (i0 : TypeInfo) (hi0 : Try.prog.info? 29 = some i0) (hz0 : i0.zero = some (.agg #[.slice none 0 0, .slice none 0 0, .bool false])) (hs0 : i0.size = 3)
    (hfit : Builtin.nextslicecap (0 + 1) 0 * i0.bytes ≤ 281474976710656) (hvl : vs.length = 3)
    (hvs : ∀ j v, vs[j]? = some v → w.cell? ⟨vb, j, none⟩ = some v) (h1v : ∀ v ∈ vs, v.oneCell' = true) :
    Calls Try.prog 27 #[.slice none 0 0, .int .i64 ((0 : Nat) : Int), .slice (some ⟨vb, 0, none⟩) 1 vc] w fun e w' =>
      e = .returned (.slice (some ⟨w.heap.size, 0, none⟩) (0 + 1) (grownCap w (0 + 1) 0 29)) ∧
      w' = w.drew.alloc (.cells (([] ++ vs).toArray ++ Builtin.zeroCells (Value.cells (.agg #[.slice none 0 0, .slice none 0 0, .bool false])) (grownCap w (0 + 1) 0 29 - (0 + 1))) 29) := by
  have hsrc : _root_.Go.Src Try.prog i0.size 22 (.slice (some ⟨vb, 0, none⟩) 1 vc) 1 vs w := by
    rw [hs0]
    exact _root_.Go.Src.ofSlice w Try.underlying22 ⟨vb, 0, none⟩ 1 vc vs (by omega) (fun j u hj => by rw [Addr.add_lit, Nat.zero_add]; exact hvs j u hj) h1v
  have hold : (Builtin.firstCells i0.size 0 (.slice none 0 0)).run Try.prog w.drew = .ok ([] : List Value).toArray w.drew := by
    rw [hs0]
    exact run_firstCells_none w.drew 3 0 0 0
  have hrun : ∀ ty, (Builtin.append_ #[22, 22] ty #[.slice none 0 0, .slice (some ⟨vb, 0, none⟩) 1 vc]).run Try.prog w = .ok (.slice (some ⟨w.heap.size, 0, none⟩) (0 + 1) (grownCap w (0 + 1) 0 29)) (w.drew.alloc (.cells (([] ++ vs).toArray ++ Builtin.zeroCells (Value.cells (.agg #[.slice none 0 0, .slice none 0 0, .bool false])) (grownCap w (0 + 1) 0 29 - (0 + 1))) 29)) := fun ty =>
    run_append_grow_src w 22 22 ty 29 i0 _ Try.underlying22 hi0 hz0 none 0 0 [] hold _ 1 vs hsrc (by omega) (by omega) hfit
  go_enter Try.func27, Try.ntmps27
  go_wp2_with (at_builtin; refine Lib.wpList_append_run _ rfl _ _ _ _ rfl _ _ rfl rfl _ _ (hrun _) ?_)
  all_goals (go_ret; first | exact ⟨rfl, rfl⟩ | exact ⟨rfl, by simp [Value.cells]⟩)

theorem ins27_info : (Try.prog.info? 29).map (fun i => (i.zero, i.size, i.bytes)) = some (some (.agg #[.slice none 0 0, .slice none 0 0, .bool false]), 3, 56) := by kernel_rfl

theorem ins27_B {cs vs : List Lf} {n i : Nat} (hcl : cs.length = n * 3) (hvl : vs.length = 3) (hi : i ≤ n) (hn : (n + 1) * 56 ≤ 140737488355328) :
    CallsB Try.prog 27 [.arr 29 3 0 cs, .arr 29 3 0 vs] [.one (.ls 0 n), .one (.i .i64 (i : Int)), .one (.ls 1 1)] (fun y m' => y = .s (.one (.ls 0 (n + 1))) ∧ m' = [.arr 29 3 0 (cs.take (i * 3) ++ vs ++ cs.drop (i * 3)), .dead]) := by
  refine callsB_ins (by decide) hcl hvl (fun w v1 vb vc cur2 xs ys hown hg2 hcell hyl hne hx1 hy1 => ?_)
  obtain ⟨i0, hi0, hz0, hs0, hb0⟩ := info_parts ins27_info
  have hxl := hown.1
  have hfitG : ∀ {old}, old < n + 1 → Builtin.nextslicecap (n + 1) old * i0.bytes ≤ 281474976710656 := fun h => growslice_fits h (by rw [hb0]; exact hn)
  have hsz' : (Try.prog.info? 29).map (·.size) = some 3 := by rw [hi0]; simp [hs0]
  have hzc : ∀ k, (Builtin.zeroCells (Value.cells (.agg #[.slice none 0 0, .slice none 0 0, .bool false])) k).size = k * 3 := fun k => by simp [Builtin.zeroCells, Value.cells]
  have hg63 : ∀ c, grownCap w (n + 1) c 29 ≤ maxLen := fun c => grownCap_le_maxLen w (n + 1) c 29 (by unfold maxLen; omega)
  have hgge : ∀ c, n + 1 ≤ grownCap w (n + 1) c 29 := fun c => grownCap_ge w _ _ _
  rcases hown.2 with ⟨rfl, h0⟩ | ⟨g, cap, cur, rfl, _, hg, hnc, hcm, hcs, hct⟩
  · subst h0
    have hi0' : i = 0 := by omega
    subst hi0'
    have hx0 : xs = [] := List.length_eq_zero_iff.1 (hxl.trans (Nat.zero_mul _))
    subst hx0
    refine (ins27_nil vb vc ys w i0 hi0 hz0 hs0 (hfitG (by omega)) hyl hcell hy1).mono ?_
    rintro e w' ⟨rfl, rfl⟩
    refine ⟨_, w.heap.size, rfl, rowLeft_new (hgge 0) (hg63 0) ?_ ?_, .inr (Nat.le_refl _)⟩
    · have := hgge 0
      rw [Array.size_append, hzc, List.size_toArray, List.nil_append, hyl]; omega
    · rw [Array.toList_append, List.toList_toArray, List.take_left' (by rw [List.nil_append, hyl])]
      simp
  · have hcur : cur.toList.length = cap * 3 := by rw [Array.length_toList]; exact hcs
    have hcell1 : ∀ j v, xs[j]? = some v → w.cell? ⟨g, j, none⟩ = some v := fun j v hj => by
      unfold World.cell?
      rw [hg]
      rw [← hct, List.getElem?_take] at hj
      split at hj
      · simpa using hj
      · cases hj
    have hc63 : cap ≤ 9223372036854775807 := by unfold maxLen at hcm; exact hcm
    have hsome : ∀ j, j < cap * 3 → (w.cell? ⟨g, j, none⟩).isSome = true := fun j hj => by
      unfold World.cell?
      rw [hg]
      show (cur[j]?).isSome = true
      rw [Array.getElem?_eq_getElem (by omega)]; rfl
    have hfrz : ∀ j, w.frozen? ⟨g, j, none⟩ = false := fun j => by
      unfold World.frozen?
      rw [hg]
      show (decide (0 ≤ j) && decide (j < 0)) = false
      rw [decide_eq_false (Nat.not_lt_zero j), Bool.and_false]
    have hfrz2 : ∀ j, w.frozen? ⟨vb, j, none⟩ = false := fun j => by
      unfold World.frozen?
      rw [hg2]
      show (decide (0 ≤ j) && decide (j < 0)) = false
      rw [decide_eq_false (Nat.not_lt_zero j), Bool.and_false]
    have hvb : vb ≠ g := fun e => hne (by rw [e]; rfl)
    rcases Nat.lt_or_eq_of_le hi with hlt | rfl
    · rcases Nat.lt_or_ge cap (n + 1) with hroom | hroom
      · refine (ins27_grow g n cap i vb vc xs ys w i0 hi0 hz0 hs0 hlt hnc hroom (by omega) (by rw [hb0]; omega) (hfitG hroom) hxl hyl hcell1 hcell hx1 hy1).mono ?_
        rintro e w' ⟨rfl, rfl⟩
        have hge := hgge cap
        have htl : (xs.take (i * 3)).length = i * 3 := by rw [List.length_take]; omega
        have := rowLeft_grow (E := 29) (sz := 3) (w := w) (row := (xs.take (i * 3)).toArray ++ Builtin.zeroCells (Value.cells (.agg #[.slice none 0 0, .slice none 0 0, .bool false])) (n + 1 - i) ++ Builtin.zeroCells (Value.cells (.agg #[.slice none 0 0, .slice none 0 0, .bool false])) (grownCap w (n + 1) cap 29 - (n + 1))) (xs := xs.take (i * 3)) (vs := ys) (D := xs.drop (i * 3)) hlt hge (hg63 cap)
          (by rw [Array.size_append, Array.size_append, hzc, hzc, List.size_toArray, htl]; omega) hyl (by rw [List.length_drop, hxl]; omega)
          (by rw [Array.toList_append, Array.toList_append, List.toList_toArray, List.append_assoc, List.take_left' htl])
        refine ⟨_, w.heap.size, rfl, ?_, .inr (Nat.le_refl _)⟩
        first | exact this | simpa only [Nat.mul_one] using this
      · refine (ins27_shift g n cap i vb vc xs ys w hsz' hlt hroom hc63 hvb hxl hyl hcell1 (fun j hj => hsome j (by omega)) (fun j _ => hfrz j) hcell hx1 hy1 29 29 cur2.size cur.size (by unfold World.shape?; rw [hg2]) (by unfold World.shape?; rw [hg]) (by omega) (hfrz2 _) (hfrz2 _)).mono ?_
        rintro e w' ⟨rfl, rfl⟩
        have := rowLeft_shift (E := 29) (sz := 3) (b := g) (vs := ys) hg hlt hroom hcm hcs hyl
        rw [hct] at this
        refine ⟨_, g, rfl, ?_, .inl rfl⟩
        first | exact this | simpa only [Nat.mul_one] using this
    · have hxe : xs.take (i * 3) ++ ys ++ xs.drop (i * 3) = xs ++ ys := by
        rw [List.take_of_length_le (by omega), List.drop_of_length_le (by omega), List.append_nil]
      rw [hxe]
      rcases Nat.lt_or_ge cap (i + 1) with hroom | hroom
      · refine (ins27_egrow g i cap vb vc xs ys w i0 hi0 hz0 hs0 hnc hroom (by omega) (hfitG hroom) hxl hyl hcell1 hcell hy1).mono ?_
        rintro e w' ⟨rfl, rfl⟩
        have hge := hgge cap
        refine ⟨_, w.heap.size, rfl, rowLeft_new hge (hg63 cap) ?_ ?_, .inr (Nat.le_refl _)⟩
        · rw [Array.size_append, hzc, List.size_toArray, List.length_append, hxl, hyl]; omega
        · rw [Array.toList_append, List.toList_toArray, List.take_left' (by rw [List.length_append, hxl, hyl]; omega)]
      · refine (ins27_end g i cap vb vc ys w i0 hi0 hs0 hroom hc63 hyl (fun j hj => hsome _ (by omega)) (fun j _ => hfrz _) hcell hy1).mono ?_
        rintro e w' ⟨rfl, rfl⟩
        have := rowLeft_end (E := 29) (sz := 3) (n := i) (b := g) (vs := ys) hg hroom hcm hcs hyl
        rw [hct] at this
        exact ⟨_, g, rfl, this, .inl rfl⟩
end
def m27_slices_Insert (a0 : List GApiWrite) (a1 : Int) (a2 : List GApiWrite) : Option (List GApiWrite) := insM 56 a0 a1 a2
theorem m27_slices_Insert_c {a0 : List GApiWrite} {a1 : Int} {a2 r : List GApiWrite} (h : m27_slices_Insert a0 a1 a2 = some r) : CallsB Try.prog 27 [.arr 29 3 0 (a0.flatMap eGApiWrite), .arr 29 3 0 (a2.flatMap eGApiWrite)] [.one (.ls 0 a0.length), .one (.i .i64 a1), .one (.ls 1 a2.length)] (fun y m' => y = .s (.one (.ls 0 r.length)) ∧ m' = [.arr 29 3 0 (r.flatMap eGApiWrite), .dead]) :=
  insM_c (f := eGApiWrite) (fun _ => rfl) ins27_B h

def m10_buffer_Set_k1 (a0 : GBufferBuf) (a1 : GApiWrite) (b1 : Unit) : Option (GBufferBuf × Int) :=
  (m25_buffer_keysOf a0).bind fun v2 => (m24_keys_Find v2 a1.Key).bind fun v3 => (m26_slices_Cloneo a0.L).bind fun v4 => if v3.2 then ((idx v4 v3.1).bind fun u5 => some ((GBufferBuf.mk (v4.set v3.1.toNat (GApiWrite.mk a1.Key a1.Val a1.Del))), 0)) else (if (decide (16 ≤ (v4.length : Int))) then (some ((GBufferBuf.mk ([] : List GApiWrite)), 8)) else ((m27_slices_Insert v4 v3.1 [(GApiWrite.mk a1.Key a1.Val a1.Del)]).bind fun v6 => some ((GBufferBuf.mk v6), 0)))
def m10_buffer_Set (a0 : GBufferBuf) (a1 : GApiWrite) : Option (GBufferBuf × Int) :=
  (m13_buffer_Sane (GBufferBuf.mk a0.L)).bind fun v7 => if (!v7) then (some ((GBufferBuf.mk ([] : List GApiWrite)), 1)) else ((m23_buffer_saneWrite (GApiWrite.mk a1.Key a1.Val a1.Del)).bind fun v8 => if (!v8) then (some ((GBufferBuf.mk ([] : List GApiWrite)), 1)) else (m10_buffer_Set_k1 a0 a1 ()))

set_option maxRecDepth 100000 in
theorem m10_buffer_Set_c {a0 : GBufferBuf} {a1 : GApiWrite} {r : GBufferBuf × Int} (h : m10_buffer_Set a0 a1 = some r) : CallsA Try.prog 10 [.agg [.sl a0.L.length (a0.L.flatMap eGApiWrite)], .agg [.sl a1.Key.length (a1.Key.flatMap eU8), .sl a1.Val.length (a1.Val.flatMap eU8), .b a1.Del]] (· = .tup [.agg [.sl r.1.L.length (r.1.L.flatMap eGApiWrite)], .one (.i .i64 r.2)]) := by
  unfold m10_buffer_Set at h
  refine callsA_of Try.func10 rfl (nt := 46) rfl (Nat.le_of_ble_eq_true rfl) ?_
  intro w0 S0
  refine cseq ?_
  refine cregion ?_
  refine sbox rfl rfl ?_
  refine sbox rfl rfl ?_
  refine salloc rfl zi27 ?_
  refine sv rfl (opv_as rfl) ?_
  refine snil ?_
  refine cseq ?_
  refine cseq ?_
  refine cjoin3 (Unit) (fun b1 => [(2, .s (.one (.lp 0 0))), (3, .s (.one (.lp 1 0))), (4, .s (.one (.lp 2 0)))]) (fun b1 => [.box [.sl a0.L.length (a0.L.flatMap eGApiWrite)], .box [.sl a1.Key.length (a1.Key.flatMap eU8), .sl a1.Val.length (a1.Val.flatMap eU8), .b a1.Del], .box [.raw (.slice none 0 0)]]) (fun b1 => m10_buffer_Set_k1 a0 a1 b1 = some r) (fun _ _ => inbL_of rfl) (fun _ _ => blkinb_of rfl) (fun _ _ => Nat.le_of_ble_eq_true rfl) (fun b1 h => ?_) ?_
  · unfold m10_buffer_Set_k1 at h
    refine cseq ?_
    obtain ⟨v2, hv2, h⟩ := bind_eq h
    obtain ⟨v3, hv3, h⟩ := bind_eq h
    refine cdraw_e [] [0, 1, 0, 4, 15, 31, 63, 63, 127, 511] [[.box [.sl a0.L.length (a0.L.flatMap eGApiWrite)], .box [.sl a1.Key.length (a1.Key.flatMap eU8), .sl a1.Val.length (a1.Val.flatMap eU8), .b a1.Del], .box [.raw (.slice none 0 0)]]] (by kernel_rfl) mixed (by kernel_rfl) (by decide) rfl rfl rfl rfl ?_
    refine ev (sees_at 0 rfl rfl) rfl rfl (opv_loadN ti27 rfl (.lp _ _ _ rfl) (Nat.le_of_ble_eq_true rfl)) ?_
    refine ed (sees_at 0 rfl rfl) rfl rfl (opD_call fn25 (opnds_cons rfl opnds_nil) rfl (m25_buffer_keysOf_c hv2)) ?_
    refine ev (sees_at 0 rfl rfl) rfl rfl (opv_fieldAddr_lp fi29_0 rfl) ?_
    refine ev (sees_at 0 rfl rfl) rfl rfl (opv_load1 ti23 rfl (.lp _ _ _ rfl) rfl) ?_
    refine ed (sees_at 0 rfl rfl) rfl rfl (opD_call fn24 (opnds_cons rfl (opnds_cons rfl opnds_nil)) rfl (m24_keys_Find_c hv3)) ?_
    refine ev (sees_at 0 rfl rfl) rfl rfl (opv_mvt rfl) ?_
    refine ev (sees_at 0 rfl rfl) rfl rfl (opv_extract rfl rfl) ?_
    refine ev (sees_at 0 rfl rfl) rfl rfl (opv_extract rfl rfl) ?_
    refine ev (sees_at 0 rfl rfl) rfl rfl (opv_as rfl) ?_
    refine ev (sees_at 0 rfl rfl) rfl rfl (opv_as rfl) ?_
    refine enil ?_
    refine then_normal ?_
    refine cseq ?_
    refine cregion ?_
    refine sv rfl (opv_fieldAddr_lp fi27_0 rfl) ?_
    refine sv rfl (opv_load1 ti22 rfl (.lp _ _ _ rfl) rfl) ?_
    obtain ⟨v4, hv4, h⟩ := bind_eq h
    refine scallB (x' := .s (.one (.ls 3 v4.length))) (M' := [.box [.sl a0.L.length (a0.L.flatMap eGApiWrite)], .box [.sl a1.Key.length (a1.Key.flatMap eU8), .sl a1.Val.length (a1.Val.flatMap eU8), .b a1.Del], .box [.raw (.slice none 0 0)], .arr 29 3 0 (v4.flatMap eGApiWrite)]) [] rfl fn26 (.func _) (opnds_cons rfl opnds_nil) (m26_slices_Cloneo_c hv4) rfl rfl (by decide) rfl rfl rfl ?_
    refine sv rfl (opv_as rfl) ?_
    refine snil ?_
    refine cseq ?_
    refine cseq ?_
    refine cregion ?_
    refine sv rfl (opv_mv rfl) ?_
    refine snil ?_
    refine ccond rfl (fun hc => ?_) (fun hc => ?_)
    · replace h := ite_t hc h
      clear hc
      refine cseq ?_
      refine cregion ?_
      refine sv rfl (opv_mv rfl) ?_
      refine sv rfl (opv_mv rfl) ?_
      refine sv rfl (opv_loadN ti29 rfl (.lp _ _ _ rfl) (Nat.le_of_ble_eq_true rfl)) ?_
      obtain ⟨u5, hu5, h⟩ := bind_eq h
      refine sv rfl (opv_ixo (f := eGApiWrite) si22 (fun _ => rfl) rfl rfl rfl rfl rfl hu5) ?_
      refine sseto (f := eGApiWrite) (u' := (GApiWrite.mk a1.Key a1.Val a1.Del)) (sz := 3) 0 sz29 (fun _ => rfl) rfl rfl rfl rfl rfl rfl rfl (List.all_eq_true.1 rfl) (idx_eq hu5).2 (Nat.le_of_ble_eq_true rfl) rfl ?_
      refine stell 28 (y := .s (.one (.ls 3 v4.length))) (.s (.one (.ls 3 (v4.set v3.1.toNat (GApiWrite.mk a1.Key a1.Val a1.Del)).length))) rfl (congrArg (fun n => AV.s (.one (.ls 3 n))) List.length_set.symm) ?_
      refine stell 8 (y := .s (.one (.ls 3 v4.length))) (.s (.one (.ls 3 (v4.set v3.1.toNat (GApiWrite.mk a1.Key a1.Val a1.Del)).length))) rfl (congrArg (fun n => AV.s (.one (.ls 3 n))) List.length_set.symm) ?_
      refine stell 30 (y := .s (.one (.ls 3 v4.length))) (.s (.one (.ls 3 (v4.set v3.1.toNat (GApiWrite.mk a1.Key a1.Val a1.Del)).length))) rfl (congrArg (fun n => AV.s (.one (.ls 3 n))) List.length_set.symm) ?_
      refine snil ?_
      refine cseq ?_
      refine cregion ?_
      refine sv rfl (opv_mv rfl) ?_
      refine sv rfl (opv_build zi27 pi27 (parts_cons rfl parts_nil) (.cons _ _ _ _ _ _ _ rfl rfl (Nat.le_of_ble_eq_true rfl) (.nil _))) ?_
      refine sstore sz27 rfl rfl rfl rfl (Nat.le_of_ble_eq_true rfl) ?_
      refine smem [.box [.sl a0.L.length (a0.L.flatMap eGApiWrite)], .box [.sl a1.Key.length (a1.Key.flatMap eU8), .sl a1.Val.length (a1.Val.flatMap eU8), .b a1.Del], .box [.ls 3 (v4.set v3.1.toNat (GApiWrite.mk a1.Key a1.Val a1.Del)).length], .arr 29 3 0 ((v4.set v3.1.toNat (GApiWrite.mk a1.Key a1.Val a1.Del)).flatMap eGApiWrite)] rfl ?_
      refine sv rfl (opv_as rfl) ?_
      refine snil ?_
      refine cret ?_
      refine then_ret ?_
      obtain rfl := Option.some.inj h
      refine ⟨Or.inr rfl, _, _, _, (resVs_cons (ResV.agg _ _ _ _ _ ti27 rfl (.lp _ _ _ rfl) (Nat.le_of_ble_eq_true rfl)) (resVs_cons (ResV.tmp _ _ rfl) resVs_nil)), (by (repeat' first | exact PubA.nil _ | apply PubA.cons | apply PubV.one | apply PubV.agg | exact PubL.nil | exact PubL.ls _ _ _ _ _ _ rfl (flat_len (f := eGApiWrite) (fun _ => rfl) _).symm | exact PubL.id _ rfl | exact PubLs.nil _ | apply PubLs.cons)), ?_⟩
      rfl
    · replace h := ite_f hc h
      clear hc
      refine cskip ?_
      refine then_normal ?_
      refine cseq ?_
      refine cseq ?_
      refine cregion ?_
      refine sv rfl (opv_mv rfl) ?_
      refine sv rfl (opv_len_ls si22 rfl rfl (flat_len (f := eGApiWrite) (fun _ => rfl) _).symm) ?_
      refine sv rfl (opv_geq rfl rfl) ?_
      refine snil ?_
      refine ccond rfl (fun hc => ?_) (fun hc => ?_)
      · replace h := ite_t hc h
        clear hc
        refine cseq ?_
        refine cregion ?_
        refine sv rfl (opv_build zi27 pi27 parts_nil (.nil _)) ?_
        refine sstore sz27 rfl rfl rfl rfl (Nat.le_of_ble_eq_true rfl) ?_
        refine smem [.box [.sl a0.L.length (a0.L.flatMap eGApiWrite)], .box [.sl a1.Key.length (a1.Key.flatMap eU8), .sl a1.Val.length (a1.Val.flatMap eU8), .b a1.Del], .box [.raw (.slice none 0 0)], .arr 29 3 0 (v4.flatMap eGApiWrite)] rfl ?_
        refine sv rfl (opv_as rfl) ?_
        refine snil ?_
        refine cret ?_
        refine then_ret ?_
        obtain rfl := Option.some.inj h
        refine ⟨Or.inr rfl, _, _, _, (resVs_cons (ResV.agg _ _ _ _ _ ti27 rfl (.lp _ _ _ rfl) (Nat.le_of_ble_eq_true rfl)) (resVs_cons (ResV.tmp _ _ rfl) resVs_nil)), (pubC rfl), ?_⟩
        rfl
      · replace h := ite_f hc h
        clear hc
        refine cskip ?_
        refine then_normal ?_
        refine cseq ?_
        refine cregion ?_
        refine sv rfl (opv_mv rfl) ?_
        refine sv rfl (opv_mv rfl) ?_
        refine sv rfl (opv_loadN ti29 rfl (.lp _ _ _ rfl) (Nat.le_of_ble_eq_true rfl)) ?_
        refine sbuild1 rfl Try.underlying22 ei29 rfl rfl (List.all_eq_true.1 rfl) (by decide) ?_
        refine smem [.box [.sl a0.L.length (a0.L.flatMap eGApiWrite)], .box [.sl a1.Key.length (a1.Key.flatMap eU8), .sl a1.Val.length (a1.Val.flatMap eU8), .b a1.Del], .box [.raw (.slice none 0 0)], .arr 29 3 0 (v4.flatMap eGApiWrite), .arr 29 3 0 ([(GApiWrite.mk a1.Key a1.Val a1.Del)].flatMap eGApiWrite)] rfl ?_
        obtain ⟨v6, hv6, h⟩ := bind_eq h
        refine scallB (x' := .s (.one (.ls 3 v6.length))) (M' := [.box [.sl a0.L.length (a0.L.flatMap eGApiWrite)], .box [.sl a1.Key.length (a1.Key.flatMap eU8), .sl a1.Val.length (a1.Val.flatMap eU8), .b a1.Del], .box [.raw (.slice none 0 0)], .arr 29 3 0 (v6.flatMap eGApiWrite), .dead]) [3, 4] rfl fn27 (.func _) (opnds_cons rfl (opnds_cons rfl (opnds_cons rfl opnds_nil))) (m27_slices_Insert_c hv6) rfl rfl (by decide) rfl rfl rfl ?_
        refine sv rfl (opv_build zi27 pi27 (parts_cons rfl parts_nil) (.cons _ _ _ _ _ _ _ rfl rfl (Nat.le_of_ble_eq_true rfl) (.nil _))) ?_
        refine sstore sz27 rfl rfl rfl rfl (Nat.le_of_ble_eq_true rfl) ?_
        refine smem [.box [.sl a0.L.length (a0.L.flatMap eGApiWrite)], .box [.sl a1.Key.length (a1.Key.flatMap eU8), .sl a1.Val.length (a1.Val.flatMap eU8), .b a1.Del], .box [.ls 3 v6.length], .arr 29 3 0 (v6.flatMap eGApiWrite), .dead] rfl ?_
        refine sv rfl (opv_as rfl) ?_
        refine snil ?_
        refine cret ?_
        obtain rfl := Option.some.inj h
        refine ⟨Or.inr rfl, _, _, _, (resVs_cons (ResV.agg _ _ _ _ _ ti27 rfl (.lp _ _ _ rfl) (Nat.le_of_ble_eq_true rfl)) (resVs_cons (ResV.tmp _ _ rfl) resVs_nil)), (by (repeat' first | exact PubA.nil _ | apply PubA.cons | apply PubV.one | apply PubV.agg | exact PubL.nil | exact PubL.ls _ _ _ _ _ _ rfl (flat_len (f := eGApiWrite) (fun _ => rfl) _).symm | exact PubL.id _ rfl | exact PubLs.nil _ | apply PubLs.cons)), ?_⟩
        rfl
  · skip
    refine cregion ?_
    refine sv rfl (opv_loadN ti27 rfl (.lp _ _ _ rfl) (Nat.le_of_ble_eq_true rfl)) ?_
    obtain ⟨v7, hv7, h⟩ := bind_eq h
    refine scall1 rfl fn13 (opnds_cons rfl opnds_nil) (pubA_id rfl) (m13_buffer_Sane_c hv7) ?_
    refine sv rfl (opv_not rfl) ?_
    refine sv rfl (opv_mv rfl) ?_
    refine ssplit 12 rfl (fun hc => ?_) (fun hc => ?_)
    · replace h := ite_t hc h
      clear hc
      refine soff rfl rfl rfl rfl ?_
      refine soff rfl rfl rfl rfl ?_
      refine soff rfl rfl rfl rfl ?_
      refine sv rfl (opv_pick_t rfl rfl) ?_
      refine snil ?_
      refine ccond rfl (fun _ => ?_) (fun hx => Bool.noConfusion hx)
      refine cseq ?_
      refine cregion ?_
      refine sv rfl (opv_build zi27 pi27 parts_nil (.nil _)) ?_
      refine sstore sz27 rfl rfl rfl rfl (Nat.le_of_ble_eq_true rfl) ?_
      refine smem [.box [.sl a0.L.length (a0.L.flatMap eGApiWrite)], .box [.sl a1.Key.length (a1.Key.flatMap eU8), .sl a1.Val.length (a1.Val.flatMap eU8), .b a1.Del], .box [.raw (.slice none 0 0)]] rfl ?_
      refine sv rfl (opv_as rfl) ?_
      refine snil ?_
      refine cret ?_
      refine then_ret ?_
      obtain rfl := Option.some.inj h
      refine ⟨Or.inr rfl, _, _, _, (resVs_cons (ResV.agg _ _ _ _ _ ti27 rfl (.lp _ _ _ rfl) (Nat.le_of_ble_eq_true rfl)) (resVs_cons (ResV.tmp _ _ rfl) resVs_nil)), (pubC rfl), ?_⟩
      rfl
    · replace h := ite_f hc h
      clear hc
      refine son rfl rfl rfl ?_
      refine sv rfl (opv_loadN ti29 rfl (.lp _ _ _ rfl) (Nat.le_of_ble_eq_true rfl)) ?_
      refine son rfl rfl rfl ?_
      obtain ⟨v8, hv8, h⟩ := bind_eq h
      refine scall1 rfl fn23 (opnds_cons rfl opnds_nil) (pubA_id rfl) (m23_buffer_saneWrite_c hv8) ?_
      refine son rfl rfl rfl ?_
      refine sv rfl (opv_not rfl) ?_
      refine sv rfl (opv_pick_f rfl rfl) ?_
      refine snil ?_
      refine ccond rfl (fun hc => ?_) (fun hc => ?_)
      · replace h := ite_t hc h
        clear hc
        refine cseq ?_
        refine cregion ?_
        refine sv rfl (opv_build zi27 pi27 parts_nil (.nil _)) ?_
        refine sstore sz27 rfl rfl rfl rfl (Nat.le_of_ble_eq_true rfl) ?_
        refine smem [.box [.sl a0.L.length (a0.L.flatMap eGApiWrite)], .box [.sl a1.Key.length (a1.Key.flatMap eU8), .sl a1.Val.length (a1.Val.flatMap eU8), .b a1.Del], .box [.raw (.slice none 0 0)]] rfl ?_
        refine sv rfl (opv_as rfl) ?_
        refine snil ?_
        refine cret ?_
        refine then_ret ?_
        obtain rfl := Option.some.inj h
        refine ⟨Or.inr rfl, _, _, _, (resVs_cons (ResV.agg _ _ _ _ _ ti27 rfl (.lp _ _ _ rfl) (Nat.le_of_ble_eq_true rfl)) (resVs_cons (ResV.tmp _ _ rfl) resVs_nil)), (pubC rfl), ?_⟩
        rfl
      · replace h := ite_f hc h
        clear hc
        refine cskip ?_
        refine then_normal ?_
        exact ⟨(), _, h, ⟨rfl, rfl, rfl, trivial⟩, rfl⟩

def m8_l09_awake  : Option Bool :=
  (m10_buffer_Set (GBufferBuf.mk ([] : List GApiWrite)) (GApiWrite.mk [(UInt8.ofBitVec (99#8))] [(UInt8.ofBitVec (51#8))] false)).bind fun v1 => (m10_buffer_Set v1.1 (GApiWrite.mk [(UInt8.ofBitVec (97#8))] ([] : List UInt8) true)).bind fun v2 => (m18_buffer_Over v2.1 [(GApiKV.mk [(UInt8.ofBitVec (97#8))] [(UInt8.ofBitVec (49#8))]), (GApiKV.mk [(UInt8.ofBitVec (98#8))] [(UInt8.ofBitVec (50#8))])] (GApiRange.mk ([] : List UInt8) ([] : List UInt8) true) 9).bind fun v3 => if (decide (v1.2 = 0)) then (if (decide (v2.2 = 0)) then (if (decide ((v3.length : Int) = 2)) then ((idx v3 0).bind fun u4 => if (u4.Key == ([98] : List UInt8)) then ((idx v3 1).bind fun u5 => some (u5.Val == ([51] : List UInt8))) else (some false)) else (some false)) else (some false)) else (some false)

set_option maxRecDepth 100000 in
theorem m8_l09_awake_c  {r : Bool} (h : m8_l09_awake = some r) : CallsA Try.prog 8 [] (· = .s (.one (.b r))) := by
  unfold m8_l09_awake at h
  refine callsA_of Try.func8 rfl (nt := 65) rfl (Nat.le_of_ble_eq_true rfl) ?_
  intro w0 S0
  refine cseq ?_
  refine cregion ?_
  refine sv rfl (opv_as rfl) ?_
  refine snil ?_
  refine cseq ?_
  refine cregion ?_
  refine sv rfl (opv_build zi27 pi27 parts_nil (.nil _)) ?_
  refine sbuild1 rfl Try.underlying23 ei5 rfl rfl (List.all_eq_true.1 rfl) (by decide) ?_
  refine smem [.arr 5 1 0 ([(UInt8.ofBitVec (99#8))].flatMap eU8)] rfl ?_
  refine sconv_id rfl Try.underlying23 Try.underlying5 rfl rfl (flat_len (f := eU8) (fun _ => rfl) [(UInt8.ofBitVec (99#8))]).symm (by decide) ?_
  refine sbuild1 rfl Try.underlying23 ei5 rfl rfl (List.all_eq_true.1 rfl) (by decide) ?_
  refine smem [.dead, .arr 5 1 0 ([(UInt8.ofBitVec (51#8))].flatMap eU8)] rfl ?_
  refine sconv_id rfl Try.underlying23 Try.underlying5 rfl rfl (flat_len (f := eU8) (fun _ => rfl) [(UInt8.ofBitVec (51#8))]).symm (by decide) ?_
  refine sv rfl (opv_build zi29 pi29 (parts_cons rfl (parts_cons rfl parts_nil)) (.cons _ _ _ _ _ _ _ rfl rfl (Nat.le_of_ble_eq_true rfl) (.cons _ _ _ _ _ _ _ rfl rfl (Nat.le_of_ble_eq_true rfl) (.nil _)))) ?_
  obtain ⟨v1, hv1, h⟩ := bind_eq h
  refine scall1 rfl fn10 (opnds_cons rfl (opnds_cons rfl opnds_nil)) (pubC rfl) (m10_buffer_Set_c hv1) ?_
  refine sv rfl (opv_mvt rfl) ?_
  refine sv rfl (opv_extract rfl rfl) ?_
  refine sv rfl (opv_extract rfl rfl) ?_
  refine salloc rfl zi27 ?_
  refine sstore sz27 rfl rfl rfl rfl (Nat.le_of_ble_eq_true rfl) ?_
  refine smem [.dead, .dead, .box [.sl v1.1.L.length (v1.1.L.flatMap eGApiWrite)]] rfl ?_
  refine sv rfl (opv_as rfl) ?_
  refine snil ?_
  refine cseq ?_
  refine cregion ?_
  refine sv rfl (opv_loadN ti27 rfl (.lp _ _ _ rfl) (Nat.le_of_ble_eq_true rfl)) ?_
  refine sbuild1 rfl Try.underlying23 ei5 rfl rfl (List.all_eq_true.1 rfl) (by decide) ?_
  refine smem [.dead, .dead, .box [.sl v1.1.L.length (v1.1.L.flatMap eGApiWrite)], .arr 5 1 0 ([(UInt8.ofBitVec (97#8))].flatMap eU8)] rfl ?_
  refine sconv_id rfl Try.underlying23 Try.underlying5 rfl rfl (flat_len (f := eU8) (fun _ => rfl) [(UInt8.ofBitVec (97#8))]).symm (by decide) ?_
  refine sv rfl (opv_build zi29 pi29 (parts_cons rfl (parts_cons rfl parts_nil)) (.cons _ _ _ _ _ _ _ rfl rfl (Nat.le_of_ble_eq_true rfl) (.cons _ _ _ _ _ _ _ rfl rfl (Nat.le_of_ble_eq_true rfl) (.nil _)))) ?_
  obtain ⟨v2, hv2, h⟩ := bind_eq h
  refine scall1 rfl fn10 (opnds_cons rfl (opnds_cons rfl opnds_nil)) (pubC rfl) (m10_buffer_Set_c hv2) ?_
  refine sv rfl (opv_mvt rfl) ?_
  refine sv rfl (opv_extract rfl rfl) ?_
  refine sv rfl (opv_extract rfl rfl) ?_
  refine salloc rfl zi27 ?_
  refine sstore sz27 rfl rfl rfl rfl (Nat.le_of_ble_eq_true rfl) ?_
  refine smem [.dead, .dead, .box [.sl v1.1.L.length (v1.1.L.flatMap eGApiWrite)], .dead, .box [.sl v2.1.L.length (v2.1.L.flatMap eGApiWrite)]] rfl ?_
  refine sv rfl (opv_as rfl) ?_
  refine snil ?_
  refine cseq ?_
  refine cregion ?_
  refine sv rfl (opv_loadN ti27 rfl (.lp _ _ _ rfl) (Nat.le_of_ble_eq_true rfl)) ?_
  refine sbuild1 rfl Try.underlying23 ei5 rfl rfl (List.all_eq_true.1 rfl) (by decide) ?_
  refine smem [.dead, .dead, .box [.sl v1.1.L.length (v1.1.L.flatMap eGApiWrite)], .dead, .box [.sl v2.1.L.length (v2.1.L.flatMap eGApiWrite)], .arr 5 1 0 ([(UInt8.ofBitVec (97#8))].flatMap eU8)] rfl ?_
  refine sconv_id rfl Try.underlying23 Try.underlying5 rfl rfl (flat_len (f := eU8) (fun _ => rfl) [(UInt8.ofBitVec (97#8))]).symm (by decide) ?_
  refine sbuild1 rfl Try.underlying23 ei5 rfl rfl (List.all_eq_true.1 rfl) (by decide) ?_
  refine smem [.dead, .dead, .box [.sl v1.1.L.length (v1.1.L.flatMap eGApiWrite)], .dead, .box [.sl v2.1.L.length (v2.1.L.flatMap eGApiWrite)], .dead, .arr 5 1 0 ([(UInt8.ofBitVec (49#8))].flatMap eU8)] rfl ?_
  refine sconv_id rfl Try.underlying23 Try.underlying5 rfl rfl (flat_len (f := eU8) (fun _ => rfl) [(UInt8.ofBitVec (49#8))]).symm (by decide) ?_
  refine sv rfl (opv_build zi46 pi46 (parts_cons rfl (parts_cons rfl parts_nil)) (.cons _ _ _ _ _ _ _ rfl rfl (Nat.le_of_ble_eq_true rfl) (.cons _ _ _ _ _ _ _ rfl rfl (Nat.le_of_ble_eq_true rfl) (.nil _)))) ?_
  refine sbuild1 rfl Try.underlying23 ei5 rfl rfl (List.all_eq_true.1 rfl) (by decide) ?_
  refine smem [.dead, .dead, .box [.sl v1.1.L.length (v1.1.L.flatMap eGApiWrite)], .dead, .box [.sl v2.1.L.length (v2.1.L.flatMap eGApiWrite)], .dead, .dead, .arr 5 1 0 ([(UInt8.ofBitVec (98#8))].flatMap eU8)] rfl ?_
  refine sconv_id rfl Try.underlying23 Try.underlying5 rfl rfl (flat_len (f := eU8) (fun _ => rfl) [(UInt8.ofBitVec (98#8))]).symm (by decide) ?_
  refine sbuild1 rfl Try.underlying23 ei5 rfl rfl (List.all_eq_true.1 rfl) (by decide) ?_
  refine smem [.dead, .dead, .box [.sl v1.1.L.length (v1.1.L.flatMap eGApiWrite)], .dead, .box [.sl v2.1.L.length (v2.1.L.flatMap eGApiWrite)], .dead, .dead, .dead, .arr 5 1 0 ([(UInt8.ofBitVec (50#8))].flatMap eU8)] rfl ?_
  refine sconv_id rfl Try.underlying23 Try.underlying5 rfl rfl (flat_len (f := eU8) (fun _ => rfl) [(UInt8.ofBitVec (50#8))]).symm (by decide) ?_
  refine sv rfl (opv_build zi46 pi46 (parts_cons rfl (parts_cons rfl parts_nil)) (.cons _ _ _ _ _ _ _ rfl rfl (Nat.le_of_ble_eq_true rfl) (.cons _ _ _ _ _ _ _ rfl rfl (Nat.le_of_ble_eq_true rfl) (.nil _)))) ?_
  refine sbuildN (out := ([(GApiKV.mk [(UInt8.ofBitVec (97#8))] [(UInt8.ofBitVec (49#8))]), (GApiKV.mk [(UInt8.ofBitVec (98#8))] [(UInt8.ofBitVec (50#8))])] : List GApiKV).flatMap eGApiKV) rfl Try.underlying38 ei46 (parts_cons rfl (parts_cons rfl parts_nil)) (.cons _ _ _ _ _ _ _ rfl rfl (Nat.le_of_ble_eq_true rfl) (.cons _ _ _ _ _ _ _ rfl rfl (Nat.le_of_ble_eq_true rfl) (.nil _))) rfl (by decide) ?_
  refine sv rfl (opv_build zi40 pi40 (parts_cons rfl parts_nil) (.cons _ _ _ _ _ _ _ rfl rfl (Nat.le_of_ble_eq_true rfl) (.nil _))) ?_
  refine spub 35 rfl (by (repeat' first | exact PubA.nil _ | apply PubA.cons | apply PubV.one | apply PubV.agg | exact PubL.nil | exact PubL.ls _ _ _ _ _ _ rfl (flat_len (f := eGApiKV) (fun _ => rfl) ([(GApiKV.mk [(UInt8.ofBitVec (97#8))] [(UInt8.ofBitVec (49#8))]), (GApiKV.mk [(UInt8.ofBitVec (98#8))] [(UInt8.ofBitVec (50#8))])] : List GApiKV)).symm | exact PubL.ls _ _ _ _ _ _ rfl (flat_len (f := eGApiKV) (fun _ => rfl) _).symm | exact PubL.id _ rfl | exact PubLs.nil _ | apply PubLs.cons)) ?_
  obtain ⟨v3, hv3, h⟩ := bind_eq h
  refine scall1 rfl fn18 (opnds_cons rfl (opnds_cons rfl (opnds_cons rfl (opnds_cons rfl opnds_nil)))) (pubC rfl) (m18_buffer_Over_c hv3) ?_
  refine sv rfl (opv_as rfl) ?_
  refine snil ?_
  refine cseq ?_
  refine cregion ?_
  refine sv rfl (opv_mv rfl) ?_
  refine sv rfl (opv_ieql rfl rfl) ?_
  refine sv rfl (opv_mv rfl) ?_
  refine ssplit 40 rfl (fun hc => ?_) (fun hc => ?_)
  · replace h := ite_t hc h
    clear hc
    refine son rfl rfl rfl ?_
    refine sv rfl (opv_mv rfl) ?_
    refine son rfl rfl rfl ?_
    refine sv rfl (opv_ieql rfl rfl) ?_
    refine sv rfl (opv_pick_t rfl rfl) ?_
    refine sv rfl (opv_mv rfl) ?_
    refine ssplit 44 rfl (fun hc => ?_) (fun hc => ?_)
    · replace h := ite_t hc h
      clear hc
      refine son rfl rfl rfl ?_
      refine sv rfl (opv_mv rfl) ?_
      refine son rfl rfl rfl ?_
      refine sv rfl (opv_len_sl si38 rfl) ?_
      refine son rfl rfl rfl ?_
      refine sv rfl (opv_ieql rfl rfl) ?_
      refine sv rfl (opv_pick_t rfl rfl) ?_
      refine sv rfl (opv_mv rfl) ?_
      refine ssplit 49 rfl (fun hc => ?_) (fun hc => ?_)
      · replace h := ite_t hc h
        clear hc
        refine son rfl rfl rfl ?_
        refine sv rfl (opv_mv rfl) ?_
        refine son rfl rfl rfl ?_
        obtain ⟨u4, hu4, h⟩ := bind_eq h
        refine sv rfl (opv_ix (f := eGApiKV) si38 (fun _ => rfl) rfl rfl rfl rfl hu4) ?_
        refine son rfl rfl rfl ?_
        refine sv rfl (opv_fieldAddr_cp fi46_0 rfl) ?_
        refine son rfl rfl rfl ?_
        refine sv rfl (opv_load1 ti23 rfl (.cp _) rfl) ?_
        refine son rfl rfl rfl ?_
        refine sv rfl (opv_bs (l := u4.Key) Try.underlying23 Try.underlying5 Try.underlying9 rfl rfl rfl) ?_
        refine son rfl rfl rfl ?_
        refine sv rfl (opv_seql' rfl rfl) ?_
        refine sv rfl (opv_pick_t rfl rfl) ?_
        refine sv rfl (opv_mv rfl) ?_
        refine ssplit 57 rfl (fun hc => ?_) (fun hc => ?_)
        · replace h := ite_t hc h
          clear hc
          refine son rfl rfl rfl ?_
          refine sv rfl (opv_mv rfl) ?_
          refine son rfl rfl rfl ?_
          obtain ⟨u5, hu5, h⟩ := bind_eq h
          refine sv rfl (opv_ix (f := eGApiKV) si38 (fun _ => rfl) rfl rfl rfl rfl hu5) ?_
          refine son rfl rfl rfl ?_
          refine sv rfl (opv_fieldAddr_cp fi46_1 rfl) ?_
          refine son rfl rfl rfl ?_
          refine sv rfl (opv_load1 ti23 rfl (.cp _) rfl) ?_
          refine son rfl rfl rfl ?_
          refine sv rfl (opv_bs (l := u5.Val) Try.underlying23 Try.underlying5 Try.underlying9 rfl rfl rfl) ?_
          refine son rfl rfl rfl ?_
          refine sv rfl (opv_seql' rfl rfl) ?_
          refine sv rfl (opv_pick_t rfl rfl) ?_
          refine sv rfl (opv_as rfl) ?_
          refine snil ?_
          refine cret ?_
          obtain rfl := Option.some.inj h
          refine ⟨Or.inr rfl, _, _, _, (resVs_cons (ResV.tmp _ _ rfl) resVs_nil), (pubA_id rfl), ?_⟩
          rfl
        · replace h := ite_f hc h
          clear hc
          refine soff rfl rfl rfl rfl ?_
          refine soff rfl rfl rfl rfl ?_
          refine soff rfl rfl rfl rfl ?_
          refine soff rfl rfl rfl rfl ?_
          refine soff rfl rfl rfl rfl ?_
          refine soff rfl rfl rfl rfl ?_
          refine sv rfl (opv_pick_f rfl rfl) ?_
          refine sv rfl (opv_as rfl) ?_
          refine snil ?_
          refine cret ?_
          obtain rfl := Option.some.inj h
          refine ⟨Or.inr rfl, _, _, _, (resVs_cons (ResV.tmp _ _ rfl) resVs_nil), (pubA_id rfl), ?_⟩
          rfl
      · replace h := ite_f hc h
        clear hc
        refine soff rfl rfl rfl rfl ?_
        refine soff rfl rfl rfl rfl ?_
        refine soff rfl rfl rfl rfl ?_
        refine soff rfl rfl rfl rfl ?_
        refine soff rfl rfl rfl rfl ?_
        refine soff rfl rfl rfl rfl ?_
        refine sv rfl (opv_pick_f rfl rfl) ?_
        refine sv rfl (opv_mv rfl) ?_
        refine soff rfl rfl rfl rfl ?_
        refine soff rfl rfl rfl rfl ?_
        refine soff rfl rfl rfl rfl ?_
        refine soff rfl rfl rfl rfl ?_
        refine soff rfl rfl rfl rfl ?_
        refine soff rfl rfl rfl rfl ?_
        refine sv rfl (opv_pick_f rfl rfl) ?_
        refine sv rfl (opv_as rfl) ?_
        refine snil ?_
        refine cret ?_
        obtain rfl := Option.some.inj h
        refine ⟨Or.inr rfl, _, _, _, (resVs_cons (ResV.tmp _ _ rfl) resVs_nil), (pubA_id rfl), ?_⟩
        rfl
    · replace h := ite_f hc h
      clear hc
      refine soff rfl rfl rfl rfl ?_
      refine soff rfl rfl rfl rfl ?_
      refine soff rfl rfl rfl rfl ?_
      refine sv rfl (opv_pick_f rfl rfl) ?_
      refine sv rfl (opv_mv rfl) ?_
      refine soff rfl rfl rfl rfl ?_
      refine soff rfl rfl rfl rfl ?_
      refine soff rfl rfl rfl rfl ?_
      refine soff rfl rfl rfl rfl ?_
      refine soff rfl rfl rfl rfl ?_
      refine soff rfl rfl rfl rfl ?_
      refine sv rfl (opv_pick_f rfl rfl) ?_
      refine sv rfl (opv_mv rfl) ?_
      refine soff rfl rfl rfl rfl ?_
      refine soff rfl rfl rfl rfl ?_
      refine soff rfl rfl rfl rfl ?_
      refine soff rfl rfl rfl rfl ?_
      refine soff rfl rfl rfl rfl ?_
      refine soff rfl rfl rfl rfl ?_
      refine sv rfl (opv_pick_f rfl rfl) ?_
      refine sv rfl (opv_as rfl) ?_
      refine snil ?_
      refine cret ?_
      obtain rfl := Option.some.inj h
      refine ⟨Or.inr rfl, _, _, _, (resVs_cons (ResV.tmp _ _ rfl) resVs_nil), (pubA_id rfl), ?_⟩
      rfl
  · replace h := ite_f hc h
    clear hc
    refine soff rfl rfl rfl rfl ?_
    refine soff rfl rfl rfl rfl ?_
    refine sv rfl (opv_pick_f rfl rfl) ?_
    refine sv rfl (opv_mv rfl) ?_
    refine soff rfl rfl rfl rfl ?_
    refine soff rfl rfl rfl rfl ?_
    refine soff rfl rfl rfl rfl ?_
    refine sv rfl (opv_pick_f rfl rfl) ?_
    refine sv rfl (opv_mv rfl) ?_
    refine soff rfl rfl rfl rfl ?_
    refine soff rfl rfl rfl rfl ?_
    refine soff rfl rfl rfl rfl ?_
    refine soff rfl rfl rfl rfl ?_
    refine soff rfl rfl rfl rfl ?_
    refine soff rfl rfl rfl rfl ?_
    refine sv rfl (opv_pick_f rfl rfl) ?_
    refine sv rfl (opv_mv rfl) ?_
    refine soff rfl rfl rfl rfl ?_
    refine soff rfl rfl rfl rfl ?_
    refine soff rfl rfl rfl rfl ?_
    refine soff rfl rfl rfl rfl ?_
    refine soff rfl rfl rfl rfl ?_
    refine soff rfl rfl rfl rfl ?_
    refine sv rfl (opv_pick_f rfl rfl) ?_
    refine sv rfl (opv_as rfl) ?_
    refine snil ?_
    refine cret ?_
    obtain rfl := Option.some.inj h
    refine ⟨Or.inr rfl, _, _, _, (resVs_cons (ResV.tmp _ _ rfl) resVs_nil), (pubA_id rfl), ?_⟩
    rfl

def m9_r08_FewWrites_k1 (b1 : Unit) : Option Bool :=
  some true

def m9_r08_FewWrites_s2 (a0 : List GApiWrite) (s2 : Int) : Option (LR (Int) (Unit) (Bool)) :=
  if (decide (s2 < (a0.length : Int))) then ((idx a0 s2).bind fun u3 => if (decide (50 < (u3.Key.length : Int))) then (some (.ret false)) else ((idx a0 s2).bind fun u4 => if (decide (100 < (u4.Val.length : Int))) then (some (.ret false)) else (some (.cont (wI (s2 + 1)))))) else (some (.brk ()))
def m9_r08_FewWrites (a0 : List GApiWrite) : Option Bool :=
  if (decide (140 < (a0.length : Int))) then (some false) else ((iter (m9_r08_FewWrites_s2 a0) fuel 0).bind fun x => match x with | .inl r => some r | .inr e5 => m9_r08_FewWrites_k1 e5)

set_option maxRecDepth 100000 in
theorem m9_r08_FewWrites_c {a0 : List GApiWrite} {r : Bool} (h : m9_r08_FewWrites a0 = some r) : CallsA Try.prog 9 [.one (.sl a0.length (a0.flatMap eGApiWrite))] (· = .s (.one (.b r))) := by
  unfold m9_r08_FewWrites at h
  refine callsA_of Try.func9 rfl (nt := 29) rfl (Nat.le_of_ble_eq_true rfl) ?_
  intro w0 S0
  refine cseq ?_
  refine cregion ?_
  refine sv rfl (opv_as rfl) ?_
  refine snil ?_
  refine cseq ?_
  refine cseq ?_
  refine cregion ?_
  refine sv rfl (opv_mv rfl) ?_
  refine sv rfl (opv_len_sl si22 rfl) ?_
  refine sv rfl (opv_gtr rfl rfl) ?_
  refine snil ?_
  refine ccond rfl (fun hc => ?_) (fun hc => ?_)
  · replace h := ite_t hc h
    clear hc
    refine cseq ?_
    refine cregion ?_
    refine sv rfl (opv_as rfl) ?_
    refine snil ?_
    refine cret ?_
    refine then_ret ?_
    obtain rfl := Option.some.inj h
    refine ⟨Or.inr rfl, _, _, _, (resVs_cons (ResV.tmp _ _ rfl) resVs_nil), (pubA_id rfl), ?_⟩
    rfl
  · replace h := ite_f hc h
    clear hc
    refine cskip ?_
    refine then_normal ?_
    refine cseq ?_
    refine cseq ?_
    refine cregion ?_
    refine sv rfl (opv_as rfl) ?_
    refine snil ?_
    refine cjoin (Unit) (fun b1 => []) (fun b1 => []) (fun b1 => m9_r08_FewWrites_k1 b1 = some r) (fun _ _ => inbL_of rfl) (fun _ _ => blkinb_of rfl) (fun _ _ => Nat.le_of_ble_eq_true rfl) (fun b1 h => ?_) ?_
    · unfold m9_r08_FewWrites_k1 at h
      refine cseq ?_
      refine cregion ?_
      refine sv rfl (opv_as rfl) ?_
      refine snil ?_
      refine cret ?_
      obtain rfl := Option.some.inj h
      refine ⟨Or.inr rfl, _, _, _, (resVs_cons (ResV.tmp _ _ rfl) resVs_nil), (pubA_id rfl), ?_⟩
      rfl
    · skip
      refine cblock ?_
      obtain ⟨x2, hx2, ho2⟩ := bind_eq h
      refine awc_loop (G := Nat × (Int)) (fun g => [(0, .s (.one (.sl a0.length (a0.flatMap eGApiWrite)))), (3, .s (.one (.i .i64 g.2)))]) (fun g => []) (fun g => iter (m9_r08_FewWrites_s2 a0) g.1 g.2 = some x2) (fun g => g.1) (fuel, 0) hx2 ⟨rfl, rfl, trivial⟩ [] rfl (fun _ _ => inbL_of rfl) (fun _ _ => blkinb_of rfl) (fun _ _ => Nat.le_of_ble_eq_true rfl) ?_
      clear hx2 h
      rintro ⟨n2, s2⟩ h
      obtain ⟨n2, y2, rfl, h, hk2⟩ := iter_eq h
      unfold m9_r08_FewWrites_s2 at h
      refine cseq ?_
      refine cseq ?_
      refine cregion ?_
      refine sv rfl (opv_mv rfl) ?_
      refine sv rfl (opv_mv rfl) ?_
      refine sv rfl (opv_len_sl si22 rfl) ?_
      refine sv rfl (opv_lss rfl rfl) ?_
      refine snil ?_
      refine ccond rfl (fun hc => ?_) (fun hc => ?_)
      · replace h := ite_t hc h
        clear hc
        refine cskip ?_
        refine then_normal ?_
        refine cseq ?_
        refine cblock ?_
        refine cseq ?_
        refine cregion ?_
        refine sv rfl (opv_mv rfl) ?_
        refine sv rfl (opv_mv rfl) ?_
        obtain ⟨u3, hu3, h⟩ := bind_eq h
        refine sv rfl (opv_ix (f := eGApiWrite) si22 (fun _ => rfl) rfl rfl rfl rfl hu3) ?_
        refine sv rfl (opv_fieldAddr_cp fi29_0 rfl) ?_
        refine sv rfl (opv_load1 ti23 rfl (.cp _) rfl) ?_
        refine sv rfl (opv_len_sl si23 rfl) ?_
        refine sv rfl (opv_gtr rfl rfl) ?_
        refine sv rfl (opv_mv rfl) ?_
        refine ssplit 20 rfl (fun hc => ?_) (fun hc => ?_)
        · replace h := ite_t hc h
          clear hc
          refine soff rfl rfl rfl rfl ?_
          refine soff rfl rfl rfl rfl ?_
          refine soff rfl rfl rfl rfl ?_
          refine soff rfl rfl rfl rfl ?_
          refine soff rfl rfl rfl rfl ?_
          refine soff rfl rfl rfl rfl ?_
          refine soff rfl rfl rfl rfl ?_
          refine sv rfl (opv_pick_t rfl rfl) ?_
          refine snil ?_
          refine ccond rfl (fun _ => ?_) (fun hx => Bool.noConfusion hx)
          refine cseq ?_
          refine cregion ?_
          refine sv rfl (opv_as rfl) ?_
          refine snil ?_
          refine cret ?_
          refine block_ret ?_
          refine then_ret ?_
          refine then_ret ?_
          refine block_ret ?_
          refine then_ret ?_
          obtain rfl := Option.some.inj h
          obtain rfl : Sum.inl _ = x2 := hk2
          replace ho2 : some _ = some _ := ho2
          obtain rfl := Option.some.inj ho2
          refine ⟨Or.inr rfl, _, _, _, (resVs_cons (ResV.tmp _ _ rfl) resVs_nil), (pubA_id rfl), ?_⟩
          rfl
        · replace h := ite_f hc h
          clear hc
          refine son rfl rfl rfl ?_
          refine sv rfl (opv_mv rfl) ?_
          refine son rfl rfl rfl ?_
          refine sv rfl (opv_mv rfl) ?_
          refine son rfl rfl rfl ?_
          obtain ⟨u4, hu4, h⟩ := bind_eq h
          refine sv rfl (opv_ix (f := eGApiWrite) si22 (fun _ => rfl) rfl rfl rfl rfl hu4) ?_
          refine son rfl rfl rfl ?_
          refine sv rfl (opv_fieldAddr_cp fi29_1 rfl) ?_
          refine son rfl rfl rfl ?_
          refine sv rfl (opv_load1 ti23 rfl (.cp _) rfl) ?_
          refine son rfl rfl rfl ?_
          refine sv rfl (opv_len_sl si23 rfl) ?_
          refine son rfl rfl rfl ?_
          refine sv rfl (opv_gtr rfl rfl) ?_
          refine sv rfl (opv_pick_f rfl rfl) ?_
          refine snil ?_
          refine ccond rfl (fun hc => ?_) (fun hc => ?_)
          · replace h := ite_t hc h
            clear hc
            refine cseq ?_
            refine cregion ?_
            refine sv rfl (opv_as rfl) ?_
            refine snil ?_
            refine cret ?_
            refine block_ret ?_
            refine then_ret ?_
            refine then_ret ?_
            refine block_ret ?_
            refine then_ret ?_
            obtain rfl := Option.some.inj h
            obtain rfl : Sum.inl _ = x2 := hk2
            replace ho2 : some _ = some _ := ho2
            obtain rfl := Option.some.inj ho2
            refine ⟨Or.inr rfl, _, _, _, (resVs_cons (ResV.tmp _ _ rfl) resVs_nil), (pubA_id rfl), ?_⟩
            rfl
          · replace h := ite_f hc h
            clear hc
            refine cskip ?_
            refine block_normal ?_
            refine then_normal ?_
            refine cregion ?_
            refine sv rfl (opv_mv rfl) ?_
            refine sv rfl (opv_add rfl rfl) ?_
            refine sv rfl (opv_as rfl) ?_
            refine snil ?_
            obtain rfl := Option.some.inj h
            exact ⟨(n2, (wI (s2 + 1))), _, hk2, ⟨rfl, rfl, trivial⟩, rfl, Nat.lt_succ_self _⟩
      · replace h := ite_f hc h
        clear hc
        refine cexit ?_
        refine then_exit ?_
        refine then_exit ?_
        refine block_hit ?_
        refine then_normal ?_
        obtain rfl := Option.some.inj h
        obtain rfl : _ = x2 := hk2
        exact ⟨(), _, ho2, trivial, rfl⟩

def m11_buffer_Get_k1 (b1 : Unit) : Option (GApiWrite × Bool) :=
  some ((GApiWrite.mk ([] : List UInt8) ([] : List UInt8) false), false)

def m11_buffer_Get_s2 (a0 : GBufferBuf) (a1 : List UInt8) (s2 : Int) : Option (LR (Int) (Unit) (GApiWrite × Bool)) :=
  if (decide (s2 < (a0.L.length : Int))) then ((idx a0.L s2).bind fun u3 => (m28_bytes_Equal u3.Key a1).bind fun v4 => if v4 then (some (.ret (u3, true))) else (some (.cont (wI (s2 + 1))))) else (some (.brk ()))
def m11_buffer_Get (a0 : GBufferBuf) (a1 : List UInt8) : Option (GApiWrite × Bool) :=
  (iter (m11_buffer_Get_s2 a0 a1) fuel 0).bind fun x => match x with | .inl r => some r | .inr e5 => m11_buffer_Get_k1 e5

set_option maxRecDepth 100000 in
theorem m11_buffer_Get_c {a0 : GBufferBuf} {a1 : List UInt8} {r : GApiWrite × Bool} (h : m11_buffer_Get a0 a1 = some r) : CallsA Try.prog 11 [.agg [.sl a0.L.length (a0.L.flatMap eGApiWrite)], .one (.sl a1.length (a1.flatMap eU8))] (· = .tup [.agg [.sl r.1.Key.length (r.1.Key.flatMap eU8), .sl r.1.Val.length (r.1.Val.flatMap eU8), .b r.1.Del], .one (.b r.2)]) := by
  unfold m11_buffer_Get at h
  refine callsA_of Try.func11 rfl (nt := 22) rfl (Nat.le_of_ble_eq_true rfl) ?_
  intro w0 S0
  refine cseq ?_
  refine cregion ?_
  refine sbox rfl rfl ?_
  refine salloc rfl zi29 ?_
  refine sv rfl (opv_as rfl) ?_
  refine snil ?_
  refine cseq ?_
  refine cseq ?_
  refine cregion ?_
  refine sv rfl (opv_fieldAddr_lp fi27_0 rfl) ?_
  refine sv rfl (opv_load1 ti22 rfl (.lp _ _ _ rfl) rfl) ?_
  refine sv rfl (opv_len_sl si22 rfl) ?_
  refine sv rfl (opv_mv rfl) ?_
  refine snil ?_
  refine cjoin (Unit) (fun b1 => [(4, .s (.one (.lp 1 0)))]) (fun b1 => [.box [.sl a0.L.length (a0.L.flatMap eGApiWrite)], .box [.raw (.slice none 0 0), .raw (.slice none 0 0), .b false]]) (fun b1 => m11_buffer_Get_k1 b1 = some r) (fun _ _ => inbL_of rfl) (fun _ _ => blkinb_of rfl) (fun _ _ => Nat.le_of_ble_eq_true rfl) (fun b1 h => ?_) ?_
  · unfold m11_buffer_Get_k1 at h
    refine cseq ?_
    refine cregion ?_
    refine sv rfl (opv_build zi29 pi29 parts_nil (.nil _)) ?_
    refine sstore sz29 rfl rfl rfl rfl (Nat.le_of_ble_eq_true rfl) ?_
    refine smem [.box [.sl a0.L.length (a0.L.flatMap eGApiWrite)], .box [.raw (.slice none 0 0), .raw (.slice none 0 0), .b false]] rfl ?_
    refine sv rfl (opv_as rfl) ?_
    refine snil ?_
    refine cret ?_
    obtain rfl := Option.some.inj h
    refine ⟨Or.inr rfl, _, _, _, (resVs_cons (ResV.agg _ _ _ _ _ ti29 rfl (.lp _ _ _ rfl) (Nat.le_of_ble_eq_true rfl)) (resVs_cons (ResV.tmp _ _ rfl) resVs_nil)), (pubC rfl), ?_⟩
    rfl
  · skip
    refine cblock ?_
    obtain ⟨x2, hx2, ho2⟩ := bind_eq h
    refine awc_loop (G := Nat × (Int)) (fun g => [(1, .s (.one (.sl a1.length (a1.flatMap eU8)))), (4, .s (.one (.lp 1 0))), (9, .s (.one (.sl a0.L.length (a0.L.flatMap eGApiWrite)))), (10, .s (.one (.i .i64 (a0.L.length : Int)))), (11, .s (.one (.i .i64 g.2)))]) (fun g => [.box [.sl a0.L.length (a0.L.flatMap eGApiWrite)], .box [.raw (.slice none 0 0), .raw (.slice none 0 0), .b false]]) (fun g => iter (m11_buffer_Get_s2 a0 a1) g.1 g.2 = some x2) (fun g => g.1) (fuel, 0) hx2 ⟨rfl, rfl, rfl, rfl, rfl, trivial⟩ [] rfl (fun _ _ => inbL_of rfl) (fun _ _ => blkinb_of rfl) (fun _ _ => Nat.le_of_ble_eq_true rfl) ?_
    clear hx2 h
    rintro ⟨n2, s2⟩ h
    obtain ⟨n2, y2, rfl, h, hk2⟩ := iter_eq h
    unfold m11_buffer_Get_s2 at h
    refine cseq ?_
    refine cregion ?_
    refine sv rfl (opv_lss rfl rfl) ?_
    refine snil ?_
    refine cseq ?_
    refine ccond rfl (fun hc => ?_) (fun hc => ?_)
    · replace h := ite_t hc h
      clear hc
      refine cskip ?_
      refine then_normal ?_
      refine cseq ?_
      refine cblock ?_
      refine cseq ?_
      refine cregion ?_
      obtain ⟨u3, hu3, h⟩ := bind_eq h
      refine sv rfl (opv_ix (f := eGApiWrite) si22 (fun _ => rfl) rfl rfl rfl rfl hu3) ?_
      refine sv rfl (opv_loadNe (ys := [.sl u3.Key.length (u3.Key.flatMap eU8), .sl u3.Val.length (u3.Val.flatMap eU8), .b u3.Del]) ti29 rfl (.cp _) rfl rfl) ?_
      refine salloc rfl zi29 ?_
      refine sstore sz29 rfl rfl rfl rfl (Nat.le_of_ble_eq_true rfl) ?_
      refine smem [.box [.sl a0.L.length (a0.L.flatMap eGApiWrite)], .box [.raw (.slice none 0 0), .raw (.slice none 0 0), .b false], .box [.sl u3.Key.length (u3.Key.flatMap eU8), .sl u3.Val.length (u3.Val.flatMap eU8), .b u3.Del]] rfl ?_
      refine snil ?_
      refine cseq ?_
      refine cregion ?_
      refine sv rfl (opv_fieldAddr_lp fi29_0 rfl) ?_
      refine sv rfl (opv_load1 ti23 rfl (.lp _ _ _ rfl) rfl) ?_
      refine sv rfl (opv_mv rfl) ?_
      obtain ⟨v4, hv4, h⟩ := bind_eq h
      refine scall1 rfl fn28 (opnds_cons rfl (opnds_cons rfl opnds_nil)) (pubA_id rfl) (m28_bytes_Equal_c hv4) ?_
      refine snil ?_
      refine ccond rfl (fun hc => ?_) (fun hc => ?_)
      · replace h := ite_t hc h
        clear hc
        refine cseq ?_
        refine cregion ?_
        refine sv rfl (opv_loadN ti29 rfl (.lp _ _ _ rfl) (Nat.le_of_ble_eq_true rfl)) ?_
        refine sstore sz29 rfl rfl rfl rfl (Nat.le_of_ble_eq_true rfl) ?_
        refine smem [.box [.sl a0.L.length (a0.L.flatMap eGApiWrite)], .box [.sl u3.Key.length (u3.Key.flatMap eU8), .sl u3.Val.length (u3.Val.flatMap eU8), .b u3.Del], .box [.sl u3.Key.length (u3.Key.flatMap eU8), .sl u3.Val.length (u3.Val.flatMap eU8), .b u3.Del]] rfl ?_
        refine sv rfl (opv_as rfl) ?_
        refine snil ?_
        refine cret ?_
        refine block_ret ?_
        refine then_ret ?_
        refine then_ret ?_
        refine block_ret ?_
        refine then_ret ?_
        obtain rfl := Option.some.inj h
        obtain rfl : Sum.inl _ = x2 := hk2
        replace ho2 : some _ = some _ := ho2
        obtain rfl := Option.some.inj ho2
        refine ⟨Or.inr rfl, _, _, _, (resVs_cons (ResV.agg _ _ _ _ _ ti29 rfl (.lp _ _ _ rfl) (Nat.le_of_ble_eq_true rfl)) (resVs_cons (ResV.tmp _ _ rfl) resVs_nil)), (pubA_id rfl), ?_⟩
        rfl
      · replace h := ite_f hc h
        clear hc
        refine cskip ?_
        refine block_normal ?_
        refine then_normal ?_
        refine cregion ?_
        refine sv rfl (opv_add rfl rfl) ?_
        refine sv rfl (opv_mv rfl) ?_
        refine snil ?_
        obtain rfl := Option.some.inj h
        exact ⟨(n2, (wI (s2 + 1))), _, hk2, ⟨rfl, rfl, rfl, rfl, rfl, trivial⟩, rfl, Nat.lt_succ_self _⟩
    · replace h := ite_f hc h
      clear hc
      refine cexit ?_
      refine then_exit ?_
      refine then_exit ?_
      refine block_hit ?_
      refine then_normal ?_
      obtain rfl := Option.some.inj h
      obtain rfl : _ = x2 := hk2
      exact ⟨(), _, ho2, ⟨rfl, trivial⟩, rfl⟩

def m12_r09_Same_k1 (b1 : Unit) : Option Bool :=
  some true

def m12_r09_Same_s2 (a0 : List GApiWrite) (a1 : List GApiWrite) (s2 : Int) : Option (LR (Int) (Unit) (Bool)) :=
  if (decide (s2 < (a0.length : Int))) then ((idx a0 s2).bind fun u3 => (idx a1 s2).bind fun u4 => if (!(u3.Key == u4.Key)) then (some (.ret false)) else ((idx a0 s2).bind fun u5 => (idx a1 s2).bind fun u6 => if (!(u5.Val == u6.Val)) then (some (.ret false)) else ((idx a0 s2).bind fun u7 => (idx a1 s2).bind fun u8 => if (!(u7.Del == u8.Del)) then (some (.ret false)) else (some (.cont (wI (s2 + 1))))))) else (some (.brk ()))
def m12_r09_Same (a0 : List GApiWrite) (a1 : List GApiWrite) : Option Bool :=
  if (!decide ((a0.length : Int) = (a1.length : Int))) then (some false) else ((iter (m12_r09_Same_s2 a0 a1) fuel 0).bind fun x => match x with | .inl r => some r | .inr e9 => m12_r09_Same_k1 e9)

set_option maxRecDepth 100000 in
theorem m12_r09_Same_c {a0 : List GApiWrite} {a1 : List GApiWrite} {r : Bool} (h : m12_r09_Same a0 a1 = some r) : CallsA Try.prog 12 [.one (.sl a0.length (a0.flatMap eGApiWrite)), .one (.sl a1.length (a1.flatMap eGApiWrite))] (· = .s (.one (.b r))) := by
  unfold m12_r09_Same at h
  refine callsA_of Try.func12 rfl (nt := 58) rfl (Nat.le_of_ble_eq_true rfl) ?_
  intro w0 S0
  refine cseq ?_
  refine cregion ?_
  refine sv rfl (opv_as rfl) ?_
  refine snil ?_
  refine cseq ?_
  refine cseq ?_
  refine cregion ?_
  refine sv rfl (opv_mv rfl) ?_
  refine sv rfl (opv_len_sl si22 rfl) ?_
  refine sv rfl (opv_mv rfl) ?_
  refine sv rfl (opv_len_sl si22 rfl) ?_
  refine sv rfl (opv_ineq rfl rfl) ?_
  refine snil ?_
  refine ccond rfl (fun hc => ?_) (fun hc => ?_)
  · replace h := ite_t hc h
    clear hc
    refine cseq ?_
    refine cregion ?_
    refine sv rfl (opv_as rfl) ?_
    refine snil ?_
    refine cret ?_
    refine then_ret ?_
    obtain rfl := Option.some.inj h
    refine ⟨Or.inr rfl, _, _, _, (resVs_cons (ResV.tmp _ _ rfl) resVs_nil), (pubA_id rfl), ?_⟩
    rfl
  · replace h := ite_f hc h
    clear hc
    refine cskip ?_
    refine then_normal ?_
    refine cseq ?_
    refine cseq ?_
    refine cregion ?_
    refine sv rfl (opv_as rfl) ?_
    refine snil ?_
    refine cjoin (Unit) (fun b1 => []) (fun b1 => []) (fun b1 => m12_r09_Same_k1 b1 = some r) (fun _ _ => inbL_of rfl) (fun _ _ => blkinb_of rfl) (fun _ _ => Nat.le_of_ble_eq_true rfl) (fun b1 h => ?_) ?_
    · unfold m12_r09_Same_k1 at h
      refine cseq ?_
      refine cregion ?_
      refine sv rfl (opv_as rfl) ?_
      refine snil ?_
      refine cret ?_
      obtain rfl := Option.some.inj h
      refine ⟨Or.inr rfl, _, _, _, (resVs_cons (ResV.tmp _ _ rfl) resVs_nil), (pubA_id rfl), ?_⟩
      rfl
    · skip
      refine cblock ?_
      obtain ⟨x2, hx2, ho2⟩ := bind_eq h
      refine awc_loop (G := Nat × (Int)) (fun g => [(0, .s (.one (.sl a0.length (a0.flatMap eGApiWrite)))), (1, .s (.one (.sl a1.length (a1.flatMap eGApiWrite)))), (5, .s (.one (.i .i64 g.2)))]) (fun g => []) (fun g => iter (m12_r09_Same_s2 a0 a1) g.1 g.2 = some x2) (fun g => g.1) (fuel, 0) hx2 ⟨rfl, rfl, rfl, trivial⟩ [] rfl (fun _ _ => inbL_of rfl) (fun _ _ => blkinb_of rfl) (fun _ _ => Nat.le_of_ble_eq_true rfl) ?_
      clear hx2 h
      rintro ⟨n2, s2⟩ h
      obtain ⟨n2, y2, rfl, h, hk2⟩ := iter_eq h
      unfold m12_r09_Same_s2 at h
      refine cseq ?_
      refine cseq ?_
      refine cregion ?_
      refine sv rfl (opv_mv rfl) ?_
      refine sv rfl (opv_mv rfl) ?_
      refine sv rfl (opv_len_sl si22 rfl) ?_
      refine sv rfl (opv_lss rfl rfl) ?_
      refine snil ?_
      refine ccond rfl (fun hc => ?_) (fun hc => ?_)
      · replace h := ite_t hc h
        clear hc
        refine cskip ?_
        refine then_normal ?_
        refine cseq ?_
        refine cblock ?_
        refine cseq ?_
        refine cdraw mixed (by kernel_rfl) ?_
        refine dv rfl (opv_mv rfl) ?_
        refine dv rfl (opv_mv rfl) ?_
        obtain ⟨u3, hu3, h⟩ := bind_eq h
        refine dv rfl (opv_ix (f := eGApiWrite) si22 (fun _ => rfl) rfl rfl rfl rfl hu3) ?_
        refine dv rfl (opv_fieldAddr_cp fi29_0 rfl) ?_
        refine dv rfl (opv_load1 ti23 rfl (.cp _) rfl) ?_
        refine dv rfl (opv_bs (l := u3.Key) Try.underlying23 Try.underlying5 Try.underlying9 rfl rfl rfl) ?_
        refine dv rfl (opv_mv rfl) ?_
        refine dv rfl (opv_mv rfl) ?_
        obtain ⟨u4, hu4, h⟩ := bind_eq h
        refine dv rfl (opv_ix (f := eGApiWrite) si22 (fun _ => rfl) rfl rfl rfl rfl hu4) ?_
        refine dv rfl (opv_fieldAddr_cp fi29_0 rfl) ?_
        refine dv rfl (opv_load1 ti23 rfl (.cp _) rfl) ?_
        refine dv rfl (opv_bs (l := u4.Key) Try.underlying23 Try.underlying5 Try.underlying9 rfl rfl rfl) ?_
        refine dv rfl (opv_sneq' rfl rfl) ?_
        refine dv rfl (opv_mv rfl) ?_
        refine dsplit 30 rfl (fun hc => ?_) (fun hc => ?_)
        · replace h := ite_t hc h
          clear hc
          refine doff rfl rfl rfl rfl ?_
          refine doff rfl rfl rfl rfl ?_
          refine doff rfl rfl rfl rfl ?_
          refine doff rfl rfl rfl rfl ?_
          refine doff rfl rfl rfl rfl ?_
          refine doff rfl rfl rfl rfl ?_
          refine doff rfl rfl rfl rfl ?_
          refine doff rfl rfl rfl rfl ?_
          refine doff rfl rfl rfl rfl ?_
          refine doff rfl rfl rfl rfl ?_
          refine doff rfl rfl rfl rfl ?_
          refine doff rfl rfl rfl rfl ?_
          refine doff rfl rfl rfl rfl ?_
          refine dv rfl (opv_pick_t rfl rfl) ?_
          refine dv rfl (opv_mv rfl) ?_
          refine doff rfl rfl rfl rfl ?_
          refine doff rfl rfl rfl rfl ?_
          refine doff rfl rfl rfl rfl ?_
          refine doff rfl rfl rfl rfl ?_
          refine doff rfl rfl rfl rfl ?_
          refine doff rfl rfl rfl rfl ?_
          refine doff rfl rfl rfl rfl ?_
          refine doff rfl rfl rfl rfl ?_
          refine doff rfl rfl rfl rfl ?_
          refine doff rfl rfl rfl rfl ?_
          refine doff rfl rfl rfl rfl ?_
          refine dv rfl (opv_pick_t rfl rfl) ?_
          refine dnil ?_
          refine then_normal ?_
          refine ccond rfl (fun _ => ?_) (fun hx => Bool.noConfusion hx)
          refine cseq ?_
          refine cregion ?_
          refine sv rfl (opv_as rfl) ?_
          refine snil ?_
          refine cret ?_
          refine block_ret ?_
          refine then_ret ?_
          refine then_ret ?_
          refine block_ret ?_
          refine then_ret ?_
          obtain rfl := Option.some.inj h
          obtain rfl : Sum.inl _ = x2 := hk2
          replace ho2 : some _ = some _ := ho2
          obtain rfl := Option.some.inj ho2
          refine ⟨Or.inr rfl, _, _, _, (resVs_cons (ResV.tmp _ _ rfl) resVs_nil), (pubA_id rfl), ?_⟩
          rfl
        · replace h := ite_f hc h
          clear hc
          refine dvg rfl rfl rfl (opv_mv rfl) ?_
          refine dvg rfl rfl rfl (opv_mv rfl) ?_
          obtain ⟨u5, hu5, h⟩ := bind_eq h
          refine dvg rfl rfl rfl (opv_ix (f := eGApiWrite) si22 (fun _ => rfl) rfl rfl rfl rfl hu5) ?_
          refine dvg rfl rfl rfl (opv_fieldAddr_cp fi29_1 rfl) ?_
          refine dvg rfl rfl rfl (opv_load1 ti23 rfl (.cp _) rfl) ?_
          refine dvg rfl rfl rfl (opv_bs (l := u5.Val) Try.underlying23 Try.underlying5 Try.underlying9 rfl rfl rfl) ?_
          refine dvg rfl rfl rfl (opv_mv rfl) ?_
          refine dvg rfl rfl rfl (opv_mv rfl) ?_
          obtain ⟨u6, hu6, h⟩ := bind_eq h
          refine dvg rfl rfl rfl (opv_ix (f := eGApiWrite) si22 (fun _ => rfl) rfl rfl rfl rfl hu6) ?_
          refine dvg rfl rfl rfl (opv_fieldAddr_cp fi29_1 rfl) ?_
          refine dvg rfl rfl rfl (opv_load1 ti23 rfl (.cp _) rfl) ?_
          refine dvg rfl rfl rfl (opv_bs (l := u6.Val) Try.underlying23 Try.underlying5 Try.underlying9 rfl rfl rfl) ?_
          refine dvg rfl rfl rfl (opv_sneq' rfl rfl) ?_
          refine dv rfl (opv_pick_f rfl rfl) ?_
          refine dv rfl (opv_mv rfl) ?_
          refine dsplit 45 rfl (fun hc => ?_) (fun hc => ?_)
          · replace h := ite_t hc h
            clear hc
            refine doff rfl rfl rfl rfl ?_
            refine doff rfl rfl rfl rfl ?_
            refine doff rfl rfl rfl rfl ?_
            refine doff rfl rfl rfl rfl ?_
            refine doff rfl rfl rfl rfl ?_
            refine doff rfl rfl rfl rfl ?_
            refine doff rfl rfl rfl rfl ?_
            refine doff rfl rfl rfl rfl ?_
            refine doff rfl rfl rfl rfl ?_
            refine doff rfl rfl rfl rfl ?_
            refine doff rfl rfl rfl rfl ?_
            refine dv rfl (opv_pick_t rfl rfl) ?_
            refine dnil ?_
            refine then_normal ?_
            refine ccond rfl (fun _ => ?_) (fun hx => Bool.noConfusion hx)
            refine cseq ?_
            refine cregion ?_
            refine sv rfl (opv_as rfl) ?_
            refine snil ?_
            refine cret ?_
            refine block_ret ?_
            refine then_ret ?_
            refine then_ret ?_
            refine block_ret ?_
            refine then_ret ?_
            obtain rfl := Option.some.inj h
            obtain rfl : Sum.inl _ = x2 := hk2
            replace ho2 : some _ = some _ := ho2
            obtain rfl := Option.some.inj ho2
            refine ⟨Or.inr rfl, _, _, _, (resVs_cons (ResV.tmp _ _ rfl) resVs_nil), (pubA_id rfl), ?_⟩
            rfl
          · replace h := ite_f hc h
            clear hc
            refine dvg rfl rfl rfl (opv_mv rfl) ?_
            refine dvg rfl rfl rfl (opv_mv rfl) ?_
            obtain ⟨u7, hu7, h⟩ := bind_eq h
            refine dvg rfl rfl rfl (opv_ix (f := eGApiWrite) si22 (fun _ => rfl) rfl rfl rfl rfl hu7) ?_
            refine dvg rfl rfl rfl (opv_fieldAddr_cp fi29_2 rfl) ?_
            refine dvg rfl rfl rfl (opv_load1 ti4 rfl (.cp _) rfl) ?_
            refine dvg rfl rfl rfl (opv_mv rfl) ?_
            refine dvg rfl rfl rfl (opv_mv rfl) ?_
            obtain ⟨u8, hu8, h⟩ := bind_eq h
            refine dvg rfl rfl rfl (opv_ix (f := eGApiWrite) si22 (fun _ => rfl) rfl rfl rfl rfl hu8) ?_
            refine dvg rfl rfl rfl (opv_fieldAddr_cp fi29_2 rfl) ?_
            refine dvg rfl rfl rfl (opv_load1 ti4 rfl (.cp _) rfl) ?_
            refine dvg rfl rfl rfl (opv_bneq Try.underlying4 rfl rfl) ?_
            refine dv rfl (opv_pick_f rfl rfl) ?_
            refine dnil ?_
            refine then_normal ?_
            refine ccond rfl (fun hc => ?_) (fun hc => ?_)
            · replace h := ite_t hc h
              clear hc
              refine cseq ?_
              refine cregion ?_
              refine sv rfl (opv_as rfl) ?_
              refine snil ?_
              refine cret ?_
              refine block_ret ?_
              refine then_ret ?_
              refine then_ret ?_
              refine block_ret ?_
              refine then_ret ?_
              obtain rfl := Option.some.inj h
              obtain rfl : Sum.inl _ = x2 := hk2
              replace ho2 : some _ = some _ := ho2
              obtain rfl := Option.some.inj ho2
              refine ⟨Or.inr rfl, _, _, _, (resVs_cons (ResV.tmp _ _ rfl) resVs_nil), (pubA_id rfl), ?_⟩
              rfl
            · replace h := ite_f hc h
              clear hc
              refine cskip ?_
              refine block_normal ?_
              refine then_normal ?_
              refine cregion ?_
              refine sv rfl (opv_mv rfl) ?_
              refine sv rfl (opv_add rfl rfl) ?_
              refine sv rfl (opv_as rfl) ?_
              refine snil ?_
              obtain rfl := Option.some.inj h
              exact ⟨(n2, (wI (s2 + 1))), _, hk2, ⟨rfl, rfl, rfl, trivial⟩, rfl, Nat.lt_succ_self _⟩
      · replace h := ite_f hc h
        clear hc
        refine cexit ?_
        refine then_exit ?_
        refine then_exit ?_
        refine block_hit ?_
        refine then_normal ?_
        obtain rfl := Option.some.inj h
        obtain rfl : _ = x2 := hk2
        exact ⟨(), _, ho2, trivial, rfl⟩

def m3_l09_BufferGets_k3 (a1 : List UInt8) (v1 : Bool) (b3 : Bool × (List GApiWrite) × (List UInt8) × (List UInt8) × Bool) : Option Bool :=
  (m11_buffer_Get (GBufferBuf.mk b3.2.1) a1).bind fun v4 => if v1 then (if (v4.2 == b3.1) then ((m12_r09_Same [v4.1] [(GApiWrite.mk b3.2.2.1 b3.2.2.2.1 b3.2.2.2.2)]).bind fun v5 => if v5 then ((m13_buffer_Sane (GBufferBuf.mk b3.2.1)).bind fun v6 => some v6) else (some false)) else (some false)) else (some false)

def m3_l09_BufferGets_s7 (a0 : List GApiWrite) (a1 : List UInt8) (s7 : Bool × Int × (List GApiWrite) × (List UInt8) × (List UInt8) × Bool) : Option (LB (Bool × Int × (List GApiWrite) × (List UInt8) × (List UInt8) × Bool) (Bool × (List GApiWrite) × (List UInt8) × (List UInt8) × Bool)) :=
  if (decide (s7.2.1 < (a0.length : Int))) then ((idx a0 s7.2.1).bind fun u8 => (m10_buffer_Set (GBufferBuf.mk s7.2.2.1) u8).bind fun v9 => if (!decide (v9.2 = 0)) then (some (.cont (s7.1, (wI (s7.2.1 + 1)), s7.2.2.1, s7.2.2.2.1, s7.2.2.2.2.1, s7.2.2.2.2.2))) else ((idx a0 s7.2.1).bind fun u10 => if (u10.Key == a1) then ((idx a0 s7.2.1).bind fun u11 => some (.cont (true, (wI (s7.2.1 + 1)), v9.1.L, u11.Key, u11.Val, u11.Del))) else (some (.cont (s7.1, (wI (s7.2.1 + 1)), v9.1.L, s7.2.2.2.1, s7.2.2.2.2.1, s7.2.2.2.2.2))))) else (some (.brk (s7.1, s7.2.2.1, s7.2.2.2.1, s7.2.2.2.2.1, s7.2.2.2.2.2)))

def m3_l09_BufferGets_k2 (a0 : List GApiWrite) (a1 : List UInt8) (v1 : Bool) (b2 : Unit) : Option Bool :=
  (iterB (m3_l09_BufferGets_s7 a0 a1) fuel (false, 0, ([] : List GApiWrite), ([] : List UInt8), ([] : List UInt8), false)).bind fun e12 => m3_l09_BufferGets_k3 a1 v1 e12
def m3_l09_BufferGets (a0 : List GApiWrite) (a1 : List UInt8) : Option Bool :=
  (m8_l09_awake).bind fun v1 => (m9_r08_FewWrites a0).bind fun v13 => if (!v13) then (some v1) else (if (decide (50 < (a1.length : Int))) then (some v1) else (m3_l09_BufferGets_k2 a0 a1 v1 ()))

set_option maxRecDepth 100000 in
theorem m3_l09_BufferGets_c {a0 : List GApiWrite} {a1 : List UInt8} {r : Bool} (h : m3_l09_BufferGets a0 a1 = some r) : CallsA Try.prog 3 [.one (.sl a0.length (a0.flatMap eGApiWrite)), .one (.sl a1.length (a1.flatMap eU8))] (· = .s (.one (.b r))) := by
  unfold m3_l09_BufferGets at h
  refine callsA_of Try.func3 rfl (nt := 80) rfl (Nat.le_of_ble_eq_true rfl) ?_
  intro w0 S0
  refine cseq ?_
  refine cregion ?_
  refine sv rfl (opv_as rfl) ?_
  refine snil ?_
  refine cseq ?_
  refine cregion ?_
  obtain ⟨v1, hv1, h⟩ := bind_eq h
  refine scall1 rfl fn8 opnds_nil (pubA_id rfl) (m8_l09_awake_c hv1) ?_
  refine sv rfl (opv_as rfl) ?_
  refine snil ?_
  refine cseq ?_
  refine cseq ?_
  refine cjoin3 (Unit) (fun b2 => [(0, .s (.one (.sl a0.length (a0.flatMap eGApiWrite)))), (1, .s (.one (.sl a1.length (a1.flatMap eU8)))), (5, .s (.one (.b v1)))]) (fun b2 => []) (fun b2 => m3_l09_BufferGets_k2 a0 a1 v1 b2 = some r) (fun _ _ => inbL_of rfl) (fun _ _ => blkinb_of rfl) (fun _ _ => Nat.le_of_ble_eq_true rfl) (fun b2 h => ?_) ?_
  · unfold m3_l09_BufferGets_k2 at h
    refine cseq ?_
    refine cregion ?_
    refine sv rfl (opv_build zi27 pi27 parts_nil (.nil _)) ?_
    refine salloc rfl zi27 ?_
    refine sstore sz27 rfl rfl rfl rfl (Nat.le_of_ble_eq_true rfl) ?_
    refine smem [.box [.raw (.slice none 0 0)]] rfl ?_
    refine snil ?_
    refine cseq ?_
    refine cregion ?_
    refine sv rfl (opv_build zi29 pi29 parts_nil (.nil _)) ?_
    refine salloc rfl zi29 ?_
    refine sstore sz29 rfl rfl rfl rfl (Nat.le_of_ble_eq_true rfl) ?_
    refine smem [.box [.raw (.slice none 0 0)], .box [.raw (.slice none 0 0), .raw (.slice none 0 0), .b false]] rfl ?_
    refine snil ?_
    refine cseq ?_
    refine cregion ?_
    refine sv rfl (opv_as rfl) ?_
    refine snil ?_
    refine cseq ?_
    refine cseq ?_
    refine cregion ?_
    refine sv rfl (opv_as rfl) ?_
    refine snil ?_
    refine cjoin (Bool × (List GApiWrite) × (List UInt8) × (List UInt8) × Bool) (fun b3 => [(1, .s (.one (.sl a1.length (a1.flatMap eU8)))), (5, .s (.one (.b v1))), (6, .s (.one (.lp 0 0))), (7, .s (.one (.lp 1 0))), (8, .s (.one (.b b3.1)))]) (fun b3 => [.box [.sl b3.2.1.length (b3.2.1.flatMap eGApiWrite)], .box [.sl b3.2.2.1.length (b3.2.2.1.flatMap eU8), .sl b3.2.2.2.1.length (b3.2.2.2.1.flatMap eU8), .b b3.2.2.2.2]]) (fun b3 => m3_l09_BufferGets_k3 a1 v1 b3 = some r) (fun _ _ => inbL_of rfl) (fun _ _ => blkinb_of rfl) (fun _ _ => Nat.le_of_ble_eq_true rfl) (fun b3 h => ?_) ?_
    · unfold m3_l09_BufferGets_k3 at h
      refine cseq ?_
      refine cregion ?_
      refine sv rfl (opv_loadN ti27 rfl (.lp _ _ _ rfl) (Nat.le_of_ble_eq_true rfl)) ?_
      refine sv rfl (opv_mv rfl) ?_
      obtain ⟨v4, hv4, h⟩ := bind_eq h
      refine scall1 rfl fn11 (opnds_cons rfl (opnds_cons rfl opnds_nil)) (pubA_id rfl) (m11_buffer_Get_c hv4) ?_
      refine sv rfl (opv_mvt rfl) ?_
      refine sv rfl (opv_extract rfl rfl) ?_
      refine sv rfl (opv_extract rfl rfl) ?_
      refine salloc rfl zi29 ?_
      refine sstore sz29 rfl rfl rfl rfl (Nat.le_of_ble_eq_true rfl) ?_
      refine smem [.box [.sl b3.2.1.length (b3.2.1.flatMap eGApiWrite)], .box [.sl b3.2.2.1.length (b3.2.2.1.flatMap eU8), .sl b3.2.2.2.1.length (b3.2.2.2.1.flatMap eU8), .b b3.2.2.2.2], .box [.sl v4.1.Key.length (v4.1.Key.flatMap eU8), .sl v4.1.Val.length (v4.1.Val.flatMap eU8), .b v4.1.Del]] rfl ?_
      refine sv rfl (opv_as rfl) ?_
      refine snil ?_
      refine cseq ?_
      refine cregion ?_
      refine sv rfl (opv_mv rfl) ?_
      refine sv rfl (opv_mv rfl) ?_
      refine ssplit 64 rfl (fun hc => ?_) (fun hc => ?_)
      · replace h := ite_t hc h
        clear hc
        refine son rfl rfl rfl ?_
        refine sv rfl (opv_mv rfl) ?_
        refine son rfl rfl rfl ?_
        refine sv rfl (opv_mv rfl) ?_
        refine son rfl rfl rfl ?_
        refine sv rfl (opv_beql Try.underlying4 rfl rfl) ?_
        refine sv rfl (opv_pick_t rfl rfl) ?_
        refine sv rfl (opv_mv rfl) ?_
        refine ssplit 69 rfl (fun hc => ?_) (fun hc => ?_)
        · replace h := ite_t hc h
          clear hc
          refine son rfl rfl rfl ?_
          refine sv rfl (opv_loadN ti29 rfl (.lp _ _ _ rfl) (Nat.le_of_ble_eq_true rfl)) ?_
          refine son rfl rfl rfl ?_
          refine sbuild1 rfl Try.underlying22 ei29 rfl rfl (List.all_eq_true.1 rfl) (by decide) ?_
          refine smem [.box [.sl b3.2.1.length (b3.2.1.flatMap eGApiWrite)], .box [.sl b3.2.2.1.length (b3.2.2.1.flatMap eU8), .sl b3.2.2.2.1.length (b3.2.2.2.1.flatMap eU8), .b b3.2.2.2.2], .box [.sl v4.1.Key.length (v4.1.Key.flatMap eU8), .sl v4.1.Val.length (v4.1.Val.flatMap eU8), .b v4.1.Del], .arr 29 3 0 ([v4.1].flatMap eGApiWrite)] rfl ?_
          refine son rfl rfl rfl ?_
          refine sv rfl (opv_loadN ti29 rfl (.lp _ _ _ rfl) (Nat.le_of_ble_eq_true rfl)) ?_
          refine son rfl rfl rfl ?_
          refine sbuild1 rfl Try.underlying22 ei29 rfl rfl (List.all_eq_true.1 rfl) (by decide) ?_
          refine smem [.box [.sl b3.2.1.length (b3.2.1.flatMap eGApiWrite)], .box [.sl b3.2.2.1.length (b3.2.2.1.flatMap eU8), .sl b3.2.2.2.1.length (b3.2.2.2.1.flatMap eU8), .b b3.2.2.2.2], .box [.sl v4.1.Key.length (v4.1.Key.flatMap eU8), .sl v4.1.Val.length (v4.1.Val.flatMap eU8), .b v4.1.Del], .arr 29 3 0 ([v4.1].flatMap eGApiWrite), .arr 29 3 0 ([(GApiWrite.mk b3.2.2.1 b3.2.2.2.1 b3.2.2.2.2)].flatMap eGApiWrite)] rfl ?_
          refine son rfl rfl rfl ?_
          refine spub 71 rfl (by (repeat' first | exact PubA.nil _ | apply PubA.cons | apply PubV.one | apply PubV.agg | exact PubL.nil | exact PubL.ls _ _ _ _ _ _ rfl (flat_len (f := eGApiWrite) (fun _ => rfl) ([v4.1] : List GApiWrite)).symm | exact PubL.ls _ _ _ _ _ _ rfl (flat_len (f := eGApiWrite) (fun _ => rfl) _).symm | exact PubL.id _ rfl | exact PubLs.nil _ | apply PubLs.cons)) ?_
          refine spub 73 rfl (by (repeat' first | exact PubA.nil _ | apply PubA.cons | apply PubV.one | apply PubV.agg | exact PubL.nil | exact PubL.ls _ _ _ _ _ _ rfl (flat_len (f := eGApiWrite) (fun _ => rfl) ([(GApiWrite.mk b3.2.2.1 b3.2.2.2.1 b3.2.2.2.2)] : List GApiWrite)).symm | exact PubL.ls _ _ _ _ _ _ rfl (flat_len (f := eGApiWrite) (fun _ => rfl) _).symm | exact PubL.id _ rfl | exact PubLs.nil _ | apply PubLs.cons)) ?_
          obtain ⟨v5, hv5, h⟩ := bind_eq h
          refine scall1 rfl fn12 (opnds_cons rfl (opnds_cons rfl opnds_nil)) (pubA_id rfl) (m12_r09_Same_c hv5) ?_
          refine sv rfl (opv_pick_t rfl rfl) ?_
          refine sv rfl (opv_mv rfl) ?_
          refine ssplit 76 rfl (fun hc => ?_) (fun hc => ?_)
          · replace h := ite_t hc h
            clear hc
            refine son rfl rfl rfl ?_
            refine sv rfl (opv_loadN ti27 rfl (.lp _ _ _ rfl) (Nat.le_of_ble_eq_true rfl)) ?_
            refine son rfl rfl rfl ?_
            obtain ⟨v6, hv6, h⟩ := bind_eq h
            refine scall1 rfl fn13 (opnds_cons rfl opnds_nil) (pubA_id rfl) (m13_buffer_Sane_c hv6) ?_
            refine sv rfl (opv_pick_t rfl rfl) ?_
            refine sv rfl (opv_as rfl) ?_
            refine snil ?_
            refine cret ?_
            obtain rfl := Option.some.inj h
            refine ⟨Or.inr rfl, _, _, _, (resVs_cons (ResV.tmp _ _ rfl) resVs_nil), (pubA_id rfl), ?_⟩
            rfl
          · replace h := ite_f hc h
            clear hc
            refine soff rfl rfl rfl rfl ?_
            refine soff rfl rfl rfl rfl ?_
            refine sv rfl (opv_pick_f rfl rfl) ?_
            refine sv rfl (opv_as rfl) ?_
            refine snil ?_
            refine cret ?_
            obtain rfl := Option.some.inj h
            refine ⟨Or.inr rfl, _, _, _, (resVs_cons (ResV.tmp _ _ rfl) resVs_nil), (pubA_id rfl), ?_⟩
            rfl
        · replace h := ite_f hc h
          clear hc
          refine soff rfl rfl rfl rfl ?_
          refine soff rfl rfl rfl rfl ?_
          refine soff rfl rfl rfl rfl ?_
          refine soff rfl rfl rfl rfl ?_
          refine soff rfl rfl rfl rfl ?_
          refine sv rfl (opv_pick_f rfl rfl) ?_
          refine sv rfl (opv_mv rfl) ?_
          refine soff rfl rfl rfl rfl ?_
          refine soff rfl rfl rfl rfl ?_
          refine sv rfl (opv_pick_f rfl rfl) ?_
          refine sv rfl (opv_as rfl) ?_
          refine snil ?_
          refine cret ?_
          obtain rfl := Option.some.inj h
          refine ⟨Or.inr rfl, _, _, _, (resVs_cons (ResV.tmp _ _ rfl) resVs_nil), (pubA_id rfl), ?_⟩
          rfl
      · replace h := ite_f hc h
        clear hc
        refine soff rfl rfl rfl rfl ?_
        refine soff rfl rfl rfl rfl ?_
        refine soff rfl rfl rfl rfl ?_
        refine sv rfl (opv_pick_f rfl rfl) ?_
        refine sv rfl (opv_mv rfl) ?_
        refine soff rfl rfl rfl rfl ?_
        refine soff rfl rfl rfl rfl ?_
        refine soff rfl rfl rfl rfl ?_
        refine soff rfl rfl rfl rfl ?_
        refine soff rfl rfl rfl rfl ?_
        refine sv rfl (opv_pick_f rfl rfl) ?_
        refine sv rfl (opv_mv rfl) ?_
        refine soff rfl rfl rfl rfl ?_
        refine soff rfl rfl rfl rfl ?_
        refine sv rfl (opv_pick_f rfl rfl) ?_
        refine sv rfl (opv_as rfl) ?_
        refine snil ?_
        refine cret ?_
        obtain rfl := Option.some.inj h
        refine ⟨Or.inr rfl, _, _, _, (resVs_cons (ResV.tmp _ _ rfl) resVs_nil), (pubA_id rfl), ?_⟩
        rfl
    · skip
      refine cblock ?_
      refine cpubbox 0 0 rfl rfl PubL.nil rfl ?_
      refine cpubbox 1 0 rfl rfl PubL.nil rfl ?_
      refine cpubbox 1 1 rfl rfl PubL.nil rfl ?_
      obtain ⟨x7, hx7, ho7⟩ := bind_eq h
      refine awc_loop (G := Nat × (Bool × Int × (List GApiWrite) × (List UInt8) × (List UInt8) × Bool)) (fun g => [(0, .s (.one (.sl a0.length (a0.flatMap eGApiWrite)))), (1, .s (.one (.sl a1.length (a1.flatMap eU8)))), (5, .s (.one (.b v1))), (6, .s (.one (.lp 0 0))), (7, .s (.one (.lp 1 0))), (8, .s (.one (.b g.2.1))), (9, .s (.one (.i .i64 g.2.2.1)))]) (fun g => [.box [.sl g.2.2.2.1.length (g.2.2.2.1.flatMap eGApiWrite)], .box [.sl g.2.2.2.2.1.length (g.2.2.2.2.1.flatMap eU8), .sl g.2.2.2.2.2.1.length (g.2.2.2.2.2.1.flatMap eU8), .b g.2.2.2.2.2.2]]) (fun g => iterB (m3_l09_BufferGets_s7 a0 a1) g.1 g.2 = some x7) (fun g => g.1) (fuel, (false, 0, ([] : List GApiWrite), ([] : List UInt8), ([] : List UInt8), false)) hx7 ⟨rfl, rfl, rfl, rfl, rfl, rfl, rfl, trivial⟩ [] rfl (fun _ _ => inbL_of rfl) (fun _ _ => blkinb_of rfl) (fun _ _ => Nat.le_of_ble_eq_true rfl) ?_
      clear hx7 h
      rintro ⟨n7, s7⟩ h
      obtain ⟨n7, y7, rfl, h, hk7⟩ := iterB_eq h
      unfold m3_l09_BufferGets_s7 at h
      refine cseq ?_
      refine cseq ?_
      refine cregion ?_
      refine sv rfl (opv_mv rfl) ?_
      refine sv rfl (opv_mv rfl) ?_
      refine sv rfl (opv_len_sl si22 rfl) ?_
      refine sv rfl (opv_lss rfl rfl) ?_
      refine snil ?_
      refine ccond rfl (fun hc => ?_) (fun hc => ?_)
      · replace h := ite_t hc h
        clear hc
        refine cskip ?_
        refine then_normal ?_
        refine cseq ?_
        refine cblock ?_
        refine cseq ?_
        refine chole ?_
        obtain ⟨u8, hu8, h⟩ := bind_eq h
        obtain ⟨v9, hv9, h⟩ := bind_eq h
        refine cdraw_e [9, 10] [0, 0, 0, 6, 14, 31, 63, 127, 127, 0, 767, 2047] [[.box [.sl s7.2.2.1.length (s7.2.2.1.flatMap eGApiWrite)], .box [.sl s7.2.2.2.1.length (s7.2.2.2.1.flatMap eU8), .sl s7.2.2.2.2.1.length (s7.2.2.2.2.1.flatMap eU8), .b s7.2.2.2.2.2], .hole], [.box [.sl s7.2.2.1.length (s7.2.2.1.flatMap eGApiWrite)], .box [.sl s7.2.2.2.1.length (s7.2.2.2.1.flatMap eU8), .sl s7.2.2.2.2.1.length (s7.2.2.2.2.1.flatMap eU8), .b s7.2.2.2.2.2], .box [.raw (.slice none 0 0)]], [.box [.sl s7.2.2.1.length (s7.2.2.1.flatMap eGApiWrite)], .box [.sl s7.2.2.2.1.length (s7.2.2.2.1.flatMap eU8), .sl s7.2.2.2.2.1.length (s7.2.2.2.2.1.flatMap eU8), .b s7.2.2.2.2.2], .box [.sl v9.1.L.length (v9.1.L.flatMap eGApiWrite)]]] (by kernel_rfl) mixed (by kernel_rfl) (by decide) rfl rfl rfl rfl ?_
        refine ev (sees_all (md := [.box [.sl s7.2.2.1.length (s7.2.2.1.flatMap eGApiWrite)], .box [.sl s7.2.2.2.1.length (s7.2.2.2.1.flatMap eU8), .sl s7.2.2.2.2.1.length (s7.2.2.2.2.1.flatMap eU8), .b s7.2.2.2.2.2], .dead]) ⟨⟨rfl, ⟨rfl, ⟨trivial, trivial⟩⟩⟩, ⟨⟨rfl, ⟨rfl, ⟨trivial, trivial⟩⟩⟩, ⟨⟨rfl, ⟨rfl, ⟨trivial, trivial⟩⟩⟩, trivial⟩⟩⟩) rfl rfl (opv_loadN ti27 rfl (.lp _ _ _ rfl) (Nat.le_of_ble_eq_true rfl)) ?_
        refine emv rfl rfl (fun _ => opv_mv rfl) ?_
        refine emv rfl rfl (fun _ => opv_mv rfl) ?_
        refine ev (sees_all (md := [.box [.sl s7.2.2.1.length (s7.2.2.1.flatMap eGApiWrite)], .box [.sl s7.2.2.2.1.length (s7.2.2.2.1.flatMap eU8), .sl s7.2.2.2.2.1.length (s7.2.2.2.2.1.flatMap eU8), .b s7.2.2.2.2.2], .dead]) ⟨⟨rfl, ⟨rfl, ⟨trivial, trivial⟩⟩⟩, ⟨⟨rfl, ⟨rfl, ⟨trivial, trivial⟩⟩⟩, ⟨⟨rfl, ⟨rfl, ⟨trivial, trivial⟩⟩⟩, trivial⟩⟩⟩) rfl rfl (opv_ix (f := eGApiWrite) si22 (fun _ => rfl) rfl rfl rfl rfl hu8) ?_
        refine ev (sees_all (md := [.box [.sl s7.2.2.1.length (s7.2.2.1.flatMap eGApiWrite)], .box [.sl s7.2.2.2.1.length (s7.2.2.2.1.flatMap eU8), .sl s7.2.2.2.2.1.length (s7.2.2.2.2.1.flatMap eU8), .b s7.2.2.2.2.2], .dead]) ⟨⟨rfl, ⟨rfl, ⟨trivial, trivial⟩⟩⟩, ⟨⟨rfl, ⟨rfl, ⟨trivial, trivial⟩⟩⟩, ⟨⟨rfl, ⟨rfl, ⟨trivial, trivial⟩⟩⟩, trivial⟩⟩⟩) rfl rfl (opv_loadNe (ys := [.sl u8.Key.length (u8.Key.flatMap eU8), .sl u8.Val.length (u8.Val.flatMap eU8), .b u8.Del]) ti29 rfl (.cp _) rfl rfl) ?_
        refine ed (sees_all (md := [.box [.sl s7.2.2.1.length (s7.2.2.1.flatMap eGApiWrite)], .box [.sl s7.2.2.2.1.length (s7.2.2.2.1.flatMap eU8), .sl s7.2.2.2.2.1.length (s7.2.2.2.2.1.flatMap eU8), .b s7.2.2.2.2.2], .dead]) ⟨⟨rfl, ⟨rfl, ⟨trivial, trivial⟩⟩⟩, ⟨⟨rfl, ⟨rfl, ⟨trivial, trivial⟩⟩⟩, ⟨⟨rfl, ⟨rfl, ⟨trivial, trivial⟩⟩⟩, trivial⟩⟩⟩) rfl rfl (opD_call fn10 (opnds_cons rfl (opnds_cons rfl opnds_nil)) rfl (m10_buffer_Set_c hv9)) ?_
        refine emv rfl rfl (fun _ => opv_mvt rfl) ?_
        refine ev (sees_all (md := [.box [.sl s7.2.2.1.length (s7.2.2.1.flatMap eGApiWrite)], .box [.sl s7.2.2.2.1.length (s7.2.2.2.1.flatMap eU8), .sl s7.2.2.2.2.1.length (s7.2.2.2.2.1.flatMap eU8), .b s7.2.2.2.2.2], .dead]) ⟨⟨rfl, ⟨rfl, ⟨trivial, trivial⟩⟩⟩, ⟨⟨rfl, ⟨rfl, ⟨trivial, trivial⟩⟩⟩, ⟨⟨rfl, ⟨rfl, ⟨trivial, trivial⟩⟩⟩, trivial⟩⟩⟩) rfl rfl (opv_extract rfl rfl) ?_
        refine ev (sees_all (md := [.box [.sl s7.2.2.1.length (s7.2.2.1.flatMap eGApiWrite)], .box [.sl s7.2.2.2.1.length (s7.2.2.2.1.flatMap eU8), .sl s7.2.2.2.2.1.length (s7.2.2.2.2.1.flatMap eU8), .b s7.2.2.2.2.2], .dead]) ⟨⟨rfl, ⟨rfl, ⟨trivial, trivial⟩⟩⟩, ⟨⟨rfl, ⟨rfl, ⟨trivial, trivial⟩⟩⟩, ⟨⟨rfl, ⟨rfl, ⟨trivial, trivial⟩⟩⟩, trivial⟩⟩⟩) rfl rfl (opv_extract rfl rfl) ?_
        refine ee (x := .s (.one (.lp 2 0))) 0 rfl rfl rfl rfl rfl (fun ζ => ?_) ?_
        · refine salloc_at 2 rfl zi27 rfl ?_
          exact eend
        refine ee0 1 rfl rfl rfl rfl (fun ζ => ?_) ?_
        · refine sstore sz27 rfl rfl rfl rfl (Nat.le_of_ble_eq_true rfl) ?_
          refine smem [.box [.sl s7.2.2.1.length (s7.2.2.1.flatMap eGApiWrite)], .box [.sl s7.2.2.2.1.length (s7.2.2.2.1.flatMap eU8), .sl s7.2.2.2.2.1.length (s7.2.2.2.2.1.flatMap eU8), .b s7.2.2.2.2.2], .box [.sl v9.1.L.length (v9.1.L.flatMap eGApiWrite)]] rfl ?_
          exact eend
        refine ev (sees_at 2 rfl rfl) rfl rfl (opv_as rfl) ?_
        refine enil ?_
        refine then_normal ?_
        refine cseq ?_
        refine cseq ?_
        refine cregion ?_
        refine sv rfl (opv_mv rfl) ?_
        refine sv rfl (opv_ineq rfl rfl) ?_
        refine snil ?_
        refine ccond rfl (fun hc => ?_) (fun hc => ?_)
        · replace h := ite_t hc h
          clear hc
          refine cexit ?_
          refine then_exit ?_
          refine block_hit ?_
          refine then_normal ?_
          refine cregion ?_
          refine sv rfl (opv_mv rfl) ?_
          refine sv rfl (opv_add rfl rfl) ?_
          refine sv rfl (opv_as rfl) ?_
          refine snil ?_
          obtain rfl := Option.some.inj h
          exact ⟨(n7, (s7.1, (wI (s7.2.1 + 1)), s7.2.2.1, s7.2.2.2.1, s7.2.2.2.2.1, s7.2.2.2.2.2)), _, hk7, ⟨rfl, rfl, rfl, rfl, rfl, rfl, rfl, trivial⟩, rfl, Nat.lt_succ_self _⟩
        · replace h := ite_f hc h
          clear hc
          refine cskip ?_
          refine then_normal ?_
          refine cseq ?_
          refine cregion ?_
          refine sv rfl (opv_loadN ti27 rfl (.lp _ _ _ rfl) (Nat.le_of_ble_eq_true rfl)) ?_
          refine sstore sz27 rfl rfl rfl rfl (Nat.le_of_ble_eq_true rfl) ?_
          refine smem [.box [.sl v9.1.L.length (v9.1.L.flatMap eGApiWrite)], .box [.sl s7.2.2.2.1.length (s7.2.2.2.1.flatMap eU8), .sl s7.2.2.2.2.1.length (s7.2.2.2.2.1.flatMap eU8), .b s7.2.2.2.2.2], .box [.sl v9.1.L.length (v9.1.L.flatMap eGApiWrite)]] rfl ?_
          refine snil ?_
          refine cseq ?_
          refine cdraw mixed (by kernel_rfl) ?_
          refine dv rfl (opv_mv rfl) ?_
          refine dv rfl (opv_mv rfl) ?_
          obtain ⟨u10, hu10, h⟩ := bind_eq h
          refine dv rfl (opv_ix (f := eGApiWrite) si22 (fun _ => rfl) rfl rfl rfl rfl hu10) ?_
          refine dv rfl (opv_fieldAddr_cp fi29_0 rfl) ?_
          refine dv rfl (opv_load1 ti23 rfl (.cp _) rfl) ?_
          refine dv rfl (opv_bs (l := u10.Key) Try.underlying23 Try.underlying5 Try.underlying9 rfl rfl rfl) ?_
          refine dv rfl (opv_mv rfl) ?_
          refine dv rfl (opv_bs (l := a1) Try.underlying23 Try.underlying5 Try.underlying9 rfl rfl rfl) ?_
          refine dv rfl (opv_seql' rfl rfl) ?_
          refine dnil ?_
          refine then_normal ?_
          refine ccond rfl (fun hc => ?_) (fun hc => ?_)
          · replace h := ite_t hc h
            clear hc
            refine cseq ?_
            refine cregion ?_
            refine sv rfl (opv_mv rfl) ?_
            refine sv rfl (opv_mv rfl) ?_
            obtain ⟨u11, hu11, h⟩ := bind_eq h
            refine sv rfl (opv_ix (f := eGApiWrite) si22 (fun _ => rfl) rfl rfl rfl rfl hu11) ?_
            refine sv rfl (opv_loadNe (ys := [.sl u11.Key.length (u11.Key.flatMap eU8), .sl u11.Val.length (u11.Val.flatMap eU8), .b u11.Del]) ti29 rfl (.cp _) rfl rfl) ?_
            refine sstore sz29 rfl rfl rfl rfl (Nat.le_of_ble_eq_true rfl) ?_
            refine smem [.box [.sl v9.1.L.length (v9.1.L.flatMap eGApiWrite)], .box [.sl u11.Key.length (u11.Key.flatMap eU8), .sl u11.Val.length (u11.Val.flatMap eU8), .b u11.Del], .box [.sl v9.1.L.length (v9.1.L.flatMap eGApiWrite)]] rfl ?_
            refine snil ?_
            refine cregion ?_
            refine sv rfl (opv_as rfl) ?_
            refine snil0 ?_
            refine block_normal ?_
            refine then_normal ?_
            refine cregion ?_
            refine sv rfl (opv_mv rfl) ?_
            refine sv rfl (opv_add rfl rfl) ?_
            refine sv rfl (opv_as rfl) ?_
            refine snil ?_
            obtain rfl := Option.some.inj h
            exact ⟨(n7, (true, (wI (s7.2.1 + 1)), v9.1.L, u11.Key, u11.Val, u11.Del)), _, hk7, ⟨rfl, rfl, rfl, rfl, rfl, rfl, rfl, trivial⟩, rfl, Nat.lt_succ_self _⟩
          · replace h := ite_f hc h
            clear hc
            refine cskip ?_
            refine block_normal ?_
            refine then_normal ?_
            refine cregion ?_
            refine sv rfl (opv_mv rfl) ?_
            refine sv rfl (opv_add rfl rfl) ?_
            refine sv rfl (opv_as rfl) ?_
            refine snil ?_
            obtain rfl := Option.some.inj h
            exact ⟨(n7, (s7.1, (wI (s7.2.1 + 1)), v9.1.L, s7.2.2.2.1, s7.2.2.2.2.1, s7.2.2.2.2.2)), _, hk7, ⟨rfl, rfl, rfl, rfl, rfl, rfl, rfl, trivial⟩, rfl, Nat.lt_succ_self _⟩
      · replace h := ite_f hc h
        clear hc
        refine cexit ?_
        refine then_exit ?_
        refine then_exit ?_
        refine block_hit ?_
        refine then_normal ?_
        obtain rfl := Option.some.inj h
        obtain rfl : _ = x7 := hk7
        exact ⟨(s7.1, s7.2.2.1, s7.2.2.2.1, s7.2.2.2.2.1, s7.2.2.2.2.2), _, ho7, ⟨rfl, rfl, rfl, rfl, rfl, trivial⟩, rfl⟩
  · skip
    refine cregion ?_
    refine sv rfl (opv_mv rfl) ?_
    obtain ⟨v13, hv13, h⟩ := bind_eq h
    refine scall1 rfl fn9 (opnds_cons rfl opnds_nil) (pubA_id rfl) (m9_r08_FewWrites_c hv13) ?_
    refine sv rfl (opv_not rfl) ?_
    refine sv rfl (opv_mv rfl) ?_
    refine ssplit 18 rfl (fun hc => ?_) (fun hc => ?_)
    · replace h := ite_t hc h
      clear hc
      refine soff rfl rfl rfl rfl ?_
      refine soff rfl rfl rfl rfl ?_
      refine soff rfl rfl rfl rfl ?_
      refine sv rfl (opv_pick_t rfl rfl) ?_
      refine snil ?_
      refine ccond rfl (fun _ => ?_) (fun hx => Bool.noConfusion hx)
      refine cseq ?_
      refine cregion ?_
      refine sv rfl (opv_mv rfl) ?_
      refine sv rfl (opv_as rfl) ?_
      refine snil ?_
      refine cret ?_
      refine then_ret ?_
      obtain rfl := Option.some.inj h
      refine ⟨Or.inr rfl, _, _, _, (resVs_cons (ResV.tmp _ _ rfl) resVs_nil), (pubA_id rfl), ?_⟩
      rfl
    · replace h := ite_f hc h
      clear hc
      refine son rfl rfl rfl ?_
      refine sv rfl (opv_mv rfl) ?_
      refine son rfl rfl rfl ?_
      refine sv rfl (opv_len_sl si23 rfl) ?_
      refine son rfl rfl rfl ?_
      refine sv rfl (opv_gtr rfl rfl) ?_
      refine sv rfl (opv_pick_f rfl rfl) ?_
      refine snil ?_
      refine ccond rfl (fun hc => ?_) (fun hc => ?_)
      · replace h := ite_t hc h
        clear hc
        refine cseq ?_
        refine cregion ?_
        refine sv rfl (opv_mv rfl) ?_
        refine sv rfl (opv_as rfl) ?_
        refine snil ?_
        refine cret ?_
        refine then_ret ?_
        obtain rfl := Option.some.inj h
        refine ⟨Or.inr rfl, _, _, _, (resVs_cons (ResV.tmp _ _ rfl) resVs_nil), (pubA_id rfl), ?_⟩
        rfl
      · replace h := ite_f hc h
        clear hc
        refine cskip ?_
        refine then_normal ?_
        exact ⟨(), _, h, ⟨rfl, rfl, rfl, trivial⟩, rfl⟩

def m14_l09_short_k1 (b1 : Unit) : Option Bool :=
  some true

def m14_l09_short_s2 (a0 : List GApiKV) (s2 : Int) : Option (LR (Int) (Unit) (Bool)) :=
  if (decide (s2 < (a0.length : Int))) then ((idx a0 s2).bind fun u3 => if (decide (50 < (u3.Key.length : Int))) then (some (.ret false)) else ((idx a0 s2).bind fun u4 => if (decide (100 < (u4.Val.length : Int))) then (some (.ret false)) else (some (.cont (wI (s2 + 1)))))) else (some (.brk ()))
def m14_l09_short (a0 : List GApiKV) : Option Bool :=
  if (decide (60 < (a0.length : Int))) then (some false) else ((iter (m14_l09_short_s2 a0) fuel 0).bind fun x => match x with | .inl r => some r | .inr e5 => m14_l09_short_k1 e5)

set_option maxRecDepth 100000 in
theorem m14_l09_short_c {a0 : List GApiKV} {r : Bool} (h : m14_l09_short a0 = some r) : CallsA Try.prog 14 [.one (.sl a0.length (a0.flatMap eGApiKV))] (· = .s (.one (.b r))) := by
  unfold m14_l09_short at h
  refine callsA_of Try.func14 rfl (nt := 29) rfl (Nat.le_of_ble_eq_true rfl) ?_
  intro w0 S0
  refine cseq ?_
  refine cregion ?_
  refine sv rfl (opv_as rfl) ?_
  refine snil ?_
  refine cseq ?_
  refine cseq ?_
  refine cregion ?_
  refine sv rfl (opv_mv rfl) ?_
  refine sv rfl (opv_len_sl si38 rfl) ?_
  refine sv rfl (opv_gtr rfl rfl) ?_
  refine snil ?_
  refine ccond rfl (fun hc => ?_) (fun hc => ?_)
  · replace h := ite_t hc h
    clear hc
    refine cseq ?_
    refine cregion ?_
    refine sv rfl (opv_as rfl) ?_
    refine snil ?_
    refine cret ?_
    refine then_ret ?_
    obtain rfl := Option.some.inj h
    refine ⟨Or.inr rfl, _, _, _, (resVs_cons (ResV.tmp _ _ rfl) resVs_nil), (pubA_id rfl), ?_⟩
    rfl
  · replace h := ite_f hc h
    clear hc
    refine cskip ?_
    refine then_normal ?_
    refine cseq ?_
    refine cseq ?_
    refine cregion ?_
    refine sv rfl (opv_as rfl) ?_
    refine snil ?_
    refine cjoin (Unit) (fun b1 => []) (fun b1 => []) (fun b1 => m14_l09_short_k1 b1 = some r) (fun _ _ => inbL_of rfl) (fun _ _ => blkinb_of rfl) (fun _ _ => Nat.le_of_ble_eq_true rfl) (fun b1 h => ?_) ?_
    · unfold m14_l09_short_k1 at h
      refine cseq ?_
      refine cregion ?_
      refine sv rfl (opv_as rfl) ?_
      refine snil ?_
      refine cret ?_
      obtain rfl := Option.some.inj h
      refine ⟨Or.inr rfl, _, _, _, (resVs_cons (ResV.tmp _ _ rfl) resVs_nil), (pubA_id rfl), ?_⟩
      rfl
    · skip
      refine cblock ?_
      obtain ⟨x2, hx2, ho2⟩ := bind_eq h
      refine awc_loop (G := Nat × (Int)) (fun g => [(0, .s (.one (.sl a0.length (a0.flatMap eGApiKV)))), (3, .s (.one (.i .i64 g.2)))]) (fun g => []) (fun g => iter (m14_l09_short_s2 a0) g.1 g.2 = some x2) (fun g => g.1) (fuel, 0) hx2 ⟨rfl, rfl, trivial⟩ [] rfl (fun _ _ => inbL_of rfl) (fun _ _ => blkinb_of rfl) (fun _ _ => Nat.le_of_ble_eq_true rfl) ?_
      clear hx2 h
      rintro ⟨n2, s2⟩ h
      obtain ⟨n2, y2, rfl, h, hk2⟩ := iter_eq h
      unfold m14_l09_short_s2 at h
      refine cseq ?_
      refine cseq ?_
      refine cregion ?_
      refine sv rfl (opv_mv rfl) ?_
      refine sv rfl (opv_mv rfl) ?_
      refine sv rfl (opv_len_sl si38 rfl) ?_
      refine sv rfl (opv_lss rfl rfl) ?_
      refine snil ?_
      refine ccond rfl (fun hc => ?_) (fun hc => ?_)
      · replace h := ite_t hc h
        clear hc
        refine cskip ?_
        refine then_normal ?_
        refine cseq ?_
        refine cblock ?_
        refine cseq ?_
        refine cregion ?_
        refine sv rfl (opv_mv rfl) ?_
        refine sv rfl (opv_mv rfl) ?_
        obtain ⟨u3, hu3, h⟩ := bind_eq h
        refine sv rfl (opv_ix (f := eGApiKV) si38 (fun _ => rfl) rfl rfl rfl rfl hu3) ?_
        refine sv rfl (opv_fieldAddr_cp fi46_0 rfl) ?_
        refine sv rfl (opv_load1 ti23 rfl (.cp _) rfl) ?_
        refine sv rfl (opv_len_sl si23 rfl) ?_
        refine sv rfl (opv_gtr rfl rfl) ?_
        refine sv rfl (opv_mv rfl) ?_
        refine ssplit 20 rfl (fun hc => ?_) (fun hc => ?_)
        · replace h := ite_t hc h
          clear hc
          refine soff rfl rfl rfl rfl ?_
          refine soff rfl rfl rfl rfl ?_
          refine soff rfl rfl rfl rfl ?_
          refine soff rfl rfl rfl rfl ?_
          refine soff rfl rfl rfl rfl ?_
          refine soff rfl rfl rfl rfl ?_
          refine soff rfl rfl rfl rfl ?_
          refine sv rfl (opv_pick_t rfl rfl) ?_
          refine snil ?_
          refine ccond rfl (fun _ => ?_) (fun hx => Bool.noConfusion hx)
          refine cseq ?_
          refine cregion ?_
          refine sv rfl (opv_as rfl) ?_
          refine snil ?_
          refine cret ?_
          refine block_ret ?_
          refine then_ret ?_
          refine then_ret ?_
          refine block_ret ?_
          refine then_ret ?_
          obtain rfl := Option.some.inj h
          obtain rfl : Sum.inl _ = x2 := hk2
          replace ho2 : some _ = some _ := ho2
          obtain rfl := Option.some.inj ho2
          refine ⟨Or.inr rfl, _, _, _, (resVs_cons (ResV.tmp _ _ rfl) resVs_nil), (pubA_id rfl), ?_⟩
          rfl
        · replace h := ite_f hc h
          clear hc
          refine son rfl rfl rfl ?_
          refine sv rfl (opv_mv rfl) ?_
          refine son rfl rfl rfl ?_
          refine sv rfl (opv_mv rfl) ?_
          refine son rfl rfl rfl ?_
          obtain ⟨u4, hu4, h⟩ := bind_eq h
          refine sv rfl (opv_ix (f := eGApiKV) si38 (fun _ => rfl) rfl rfl rfl rfl hu4) ?_
          refine son rfl rfl rfl ?_
          refine sv rfl (opv_fieldAddr_cp fi46_1 rfl) ?_
          refine son rfl rfl rfl ?_
          refine sv rfl (opv_load1 ti23 rfl (.cp _) rfl) ?_
          refine son rfl rfl rfl ?_
          refine sv rfl (opv_len_sl si23 rfl) ?_
          refine son rfl rfl rfl ?_
          refine sv rfl (opv_gtr rfl rfl) ?_
          refine sv rfl (opv_pick_f rfl rfl) ?_
          refine snil ?_
          refine ccond rfl (fun hc => ?_) (fun hc => ?_)
          · replace h := ite_t hc h
            clear hc
            refine cseq ?_
            refine cregion ?_
            refine sv rfl (opv_as rfl) ?_
            refine snil ?_
            refine cret ?_
            refine block_ret ?_
            refine then_ret ?_
            refine then_ret ?_
            refine block_ret ?_
            refine then_ret ?_
            obtain rfl := Option.some.inj h
            obtain rfl : Sum.inl _ = x2 := hk2
            replace ho2 : some _ = some _ := ho2
            obtain rfl := Option.some.inj ho2
            refine ⟨Or.inr rfl, _, _, _, (resVs_cons (ResV.tmp _ _ rfl) resVs_nil), (pubA_id rfl), ?_⟩
            rfl
          · replace h := ite_f hc h
            clear hc
            refine cskip ?_
            refine block_normal ?_
            refine then_normal ?_
            refine cregion ?_
            refine sv rfl (opv_mv rfl) ?_
            refine sv rfl (opv_add rfl rfl) ?_
            refine sv rfl (opv_as rfl) ?_
            refine snil ?_
            obtain rfl := Option.some.inj h
            exact ⟨(n2, (wI (s2 + 1))), _, hk2, ⟨rfl, rfl, trivial⟩, rfl, Nat.lt_succ_self _⟩
      · replace h := ite_f hc h
        clear hc
        refine cexit ?_
        refine then_exit ?_
        refine then_exit ?_
        refine block_hit ?_
        refine then_normal ?_
        obtain rfl := Option.some.inj h
        obtain rfl : _ = x2 := hk2
        exact ⟨(), _, ho2, trivial, rfl⟩

def m15_r06_Short (a0 : GApiRange) : Option Bool :=
  if (decide ((a0.Lo.length : Int) ≤ 100)) then (some (decide ((a0.Hi.length : Int) ≤ 100))) else (some false)

set_option maxRecDepth 100000 in
theorem m15_r06_Short_c {a0 : GApiRange} {r : Bool} (h : m15_r06_Short a0 = some r) : CallsA Try.prog 15 [.agg [.sl a0.Lo.length (a0.Lo.flatMap eU8), .sl a0.Hi.length (a0.Hi.flatMap eU8), .b a0.Open]] (· = .s (.one (.b r))) := by
  unfold m15_r06_Short at h
  refine callsA_of Try.func15 rfl (nt := 13) rfl (Nat.le_of_ble_eq_true rfl) ?_
  intro w0 S0
  refine cseq ?_
  refine cregion ?_
  refine sbox rfl rfl ?_
  refine sv rfl (opv_as rfl) ?_
  refine snil ?_
  refine cseq ?_
  refine cregion ?_
  refine sv rfl (opv_fieldAddr_lp fi40_0 rfl) ?_
  refine sv rfl (opv_load1 ti23 rfl (.lp _ _ _ rfl) rfl) ?_
  refine sv rfl (opv_len_sl si23 rfl) ?_
  refine sv rfl (opv_leq rfl rfl) ?_
  refine sv rfl (opv_mv rfl) ?_
  refine ssplit 7 rfl (fun hc => ?_) (fun hc => ?_)
  · replace h := ite_t hc h
    clear hc
    refine son rfl rfl rfl ?_
    refine sv rfl (opv_fieldAddr_lp fi40_1 rfl) ?_
    refine son rfl rfl rfl ?_
    refine sv rfl (opv_load1 ti23 rfl (.lp _ _ _ rfl) rfl) ?_
    refine son rfl rfl rfl ?_
    refine sv rfl (opv_len_sl si23 rfl) ?_
    refine son rfl rfl rfl ?_
    refine sv rfl (opv_leq rfl rfl) ?_
    refine sv rfl (opv_pick_t rfl rfl) ?_
    refine sv rfl (opv_as rfl) ?_
    refine snil ?_
    refine cret ?_
    obtain rfl := Option.some.inj h
    refine ⟨Or.inr rfl, _, _, _, (resVs_cons (ResV.tmp _ _ rfl) resVs_nil), (pubA_id rfl), ?_⟩
    rfl
  · replace h := ite_f hc h
    clear hc
    refine soff rfl rfl rfl rfl ?_
    refine soff rfl rfl rfl rfl ?_
    refine soff rfl rfl rfl rfl ?_
    refine soff rfl rfl rfl rfl ?_
    refine sv rfl (opv_pick_f rfl rfl) ?_
    refine sv rfl (opv_as rfl) ?_
    refine snil ?_
    refine cret ?_
    obtain rfl := Option.some.inj h
    refine ⟨Or.inr rfl, _, _, _, (resVs_cons (ResV.tmp _ _ rfl) resVs_nil), (pubA_id rfl), ?_⟩
    rfl

def m30_r06_Cmp_k1 (a0 : List UInt8) (a1 : List UInt8) (b1 : Unit) : Option Int :=
  if (decide ((a0.length : Int) < (a1.length : Int))) then (some (-1)) else (if (decide ((a1.length : Int) < (a0.length : Int))) then (some 1) else (some 0))

def m30_r06_Cmp_k3 (a0 : List UInt8) (a1 : List UInt8) (s2 : Int) (b3 : Unit) : Option (LR (Int) (Unit) (Int)) :=
  (idx a0 s2).bind fun u4 => (idx a1 s2).bind fun u5 => if (decide ((u4.toBitVec.toNat : Int) < (u5.toBitVec.toNat : Int))) then (some (.ret (-1))) else ((idx a0 s2).bind fun u6 => (idx a1 s2).bind fun u7 => if (decide ((u7.toBitVec.toNat : Int) < (u6.toBitVec.toNat : Int))) then (some (.ret 1)) else (some (.cont (wI (s2 + 1)))))

def m30_r06_Cmp_s2 (a0 : List UInt8) (a1 : List UInt8) (s2 : Int) : Option (LR (Int) (Unit) (Int)) :=
  if (decide (s2 < (a0.length : Int))) then (if (decide (s2 < (a1.length : Int))) then (m30_r06_Cmp_k3 a0 a1 s2 ()) else (some (.brk ()))) else (some (.brk ()))
def m30_r06_Cmp (a0 : List UInt8) (a1 : List UInt8) : Option Int :=
  (iter (m30_r06_Cmp_s2 a0 a1) fuel 0).bind fun x => match x with | .inl r => some r | .inr e8 => m30_r06_Cmp_k1 a0 a1 e8

set_option maxRecDepth 100000 in
theorem m30_r06_Cmp_c {a0 : List UInt8} {a1 : List UInt8} {r : Int} (h : m30_r06_Cmp a0 a1 = some r) : CallsA Try.prog 30 [.one (.sl a0.length (a0.flatMap eU8)), .one (.sl a1.length (a1.flatMap eU8))] (· = .s (.one (.i .i64 r))) := by
  unfold m30_r06_Cmp at h
  refine callsA_of Try.func30 rfl (nt := 46) rfl (Nat.le_of_ble_eq_true rfl) ?_
  intro w0 S0
  refine cseq ?_
  refine cregion ?_
  refine sv rfl (opv_as rfl) ?_
  refine snil ?_
  refine cseq ?_
  refine cseq ?_
  refine cregion ?_
  refine sv rfl (opv_as rfl) ?_
  refine snil ?_
  refine cjoin (Unit) (fun b1 => [(0, .s (.one (.sl a0.length (a0.flatMap eU8)))), (1, .s (.one (.sl a1.length (a1.flatMap eU8))))]) (fun b1 => []) (fun b1 => m30_r06_Cmp_k1 a0 a1 b1 = some r) (fun _ _ => inbL_of rfl) (fun _ _ => blkinb_of rfl) (fun _ _ => Nat.le_of_ble_eq_true rfl) (fun b1 h => ?_) ?_
  · unfold m30_r06_Cmp_k1 at h
    refine cseq ?_
    refine cseq ?_
    refine cregion ?_
    refine sv rfl (opv_mv rfl) ?_
    refine sv rfl (opv_len_sl si23 rfl) ?_
    refine sv rfl (opv_mv rfl) ?_
    refine sv rfl (opv_len_sl si23 rfl) ?_
    refine sv rfl (opv_lss rfl rfl) ?_
    refine snil ?_
    refine ccond rfl (fun hc => ?_) (fun hc => ?_)
    · replace h := ite_t hc h
      clear hc
      refine cseq ?_
      refine cregion ?_
      refine sv rfl (opv_as rfl) ?_
      refine snil ?_
      refine cret ?_
      refine then_ret ?_
      obtain rfl := Option.some.inj h
      refine ⟨Or.inr rfl, _, _, _, (resVs_cons (ResV.tmp _ _ rfl) resVs_nil), (pubA_id rfl), ?_⟩
      rfl
    · replace h := ite_f hc h
      clear hc
      refine cskip ?_
      refine then_normal ?_
      refine cseq ?_
      refine cseq ?_
      refine cregion ?_
      refine sv rfl (opv_mv rfl) ?_
      refine sv rfl (opv_len_sl si23 rfl) ?_
      refine sv rfl (opv_mv rfl) ?_
      refine sv rfl (opv_len_sl si23 rfl) ?_
      refine sv rfl (opv_gtr rfl rfl) ?_
      refine snil ?_
      refine ccond rfl (fun hc => ?_) (fun hc => ?_)
      · replace h := ite_t hc h
        clear hc
        refine cseq ?_
        refine cregion ?_
        refine sv rfl (opv_as rfl) ?_
        refine snil ?_
        refine cret ?_
        refine then_ret ?_
        obtain rfl := Option.some.inj h
        refine ⟨Or.inr rfl, _, _, _, (resVs_cons (ResV.tmp _ _ rfl) resVs_nil), (pubA_id rfl), ?_⟩
        rfl
      · replace h := ite_f hc h
        clear hc
        refine cskip ?_
        refine then_normal ?_
        refine cseq ?_
        refine cregion ?_
        refine sv rfl (opv_as rfl) ?_
        refine snil ?_
        refine cret ?_
        obtain rfl := Option.some.inj h
        refine ⟨Or.inr rfl, _, _, _, (resVs_cons (ResV.tmp _ _ rfl) resVs_nil), (pubA_id rfl), ?_⟩
        rfl
  · skip
    refine cblock ?_
    obtain ⟨x2, hx2, ho2⟩ := bind_eq h
    refine awc_loop (G := Nat × (Int)) (fun g => [(0, .s (.one (.sl a0.length (a0.flatMap eU8)))), (1, .s (.one (.sl a1.length (a1.flatMap eU8)))), (5, .s (.one (.i .i64 g.2)))]) (fun g => []) (fun g => iter (m30_r06_Cmp_s2 a0 a1) g.1 g.2 = some x2) (fun g => g.1) (fuel, 0) hx2 ⟨rfl, rfl, rfl, trivial⟩ [] rfl (fun _ _ => inbL_of rfl) (fun _ _ => blkinb_of rfl) (fun _ _ => Nat.le_of_ble_eq_true rfl) ?_
    clear hx2 h
    rintro ⟨n2, s2⟩ h
    obtain ⟨n2, y2, rfl, h, hk2⟩ := iter_eq h
    unfold m30_r06_Cmp_s2 at h
    refine cseq ?_
    refine cseq ?_
    refine cjoin3 (Unit) (fun b3 => [(0, .s (.one (.sl a0.length (a0.flatMap eU8)))), (1, .s (.one (.sl a1.length (a1.flatMap eU8)))), (5, .s (.one (.i .i64 s2)))]) (fun b3 => []) (fun b3 => m30_r06_Cmp_k3 a0 a1 s2 b3 = some y2) (fun _ _ => inbL_of rfl) (fun _ _ => blkinb_of rfl) (fun _ _ => Nat.le_of_ble_eq_true rfl) (fun b3 h => ?_) ?_
    · unfold m30_r06_Cmp_k3 at h
      refine cseq ?_
      refine cblock ?_
      refine cseq ?_
      refine cseq ?_
      refine cdraw mixed (by kernel_rfl) ?_
      refine dv rfl (opv_mv rfl) ?_
      refine dv rfl (opv_mv rfl) ?_
      obtain ⟨u4, hu4, h⟩ := bind_eq h
      refine dv rfl (opv_ix (f := eU8) si23 (fun _ => rfl) rfl rfl rfl rfl hu4) ?_
      refine dv rfl (opv_load1 ti5 rfl (.cp _) rfl) ?_
      refine dv rfl (opv_mv rfl) ?_
      refine dv rfl (opv_mv rfl) ?_
      obtain ⟨u5, hu5, h⟩ := bind_eq h
      refine dv rfl (opv_ix (f := eU8) si23 (fun _ => rfl) rfl rfl rfl rfl hu5) ?_
      refine dv rfl (opv_load1 ti5 rfl (.cp _) rfl) ?_
      refine dv rfl (opv_lss rfl rfl) ?_
      refine dnil ?_
      refine then_normal ?_
      refine ccond rfl (fun hc => ?_) (fun hc => ?_)
      · replace h := ite_t hc h
        clear hc
        refine cseq ?_
        refine cregion ?_
        refine sv rfl (opv_as rfl) ?_
        refine snil ?_
        refine cret ?_
        refine then_ret ?_
        refine block_ret ?_
        refine then_ret ?_
        refine then_ret ?_
        refine block_ret ?_
        refine then_ret ?_
        obtain rfl := Option.some.inj h
        obtain rfl : Sum.inl _ = x2 := hk2
        replace ho2 : some _ = some _ := ho2
        obtain rfl := Option.some.inj ho2
        refine ⟨Or.inr rfl, _, _, _, (resVs_cons (ResV.tmp _ _ rfl) resVs_nil), (pubA_id rfl), ?_⟩
        rfl
      · replace h := ite_f hc h
        clear hc
        refine cskip ?_
        refine then_normal ?_
        refine cseq ?_
        refine cdraw mixed (by kernel_rfl) ?_
        refine dv rfl (opv_mv rfl) ?_
        refine dv rfl (opv_mv rfl) ?_
        obtain ⟨u6, hu6, h⟩ := bind_eq h
        refine dv rfl (opv_ix (f := eU8) si23 (fun _ => rfl) rfl rfl rfl rfl hu6) ?_
        refine dv rfl (opv_load1 ti5 rfl (.cp _) rfl) ?_
        refine dv rfl (opv_mv rfl) ?_
        refine dv rfl (opv_mv rfl) ?_
        obtain ⟨u7, hu7, h⟩ := bind_eq h
        refine dv rfl (opv_ix (f := eU8) si23 (fun _ => rfl) rfl rfl rfl rfl hu7) ?_
        refine dv rfl (opv_load1 ti5 rfl (.cp _) rfl) ?_
        refine dv rfl (opv_gtr rfl rfl) ?_
        refine dnil ?_
        refine then_normal ?_
        refine ccond rfl (fun hc => ?_) (fun hc => ?_)
        · replace h := ite_t hc h
          clear hc
          refine cseq ?_
          refine cregion ?_
          refine sv rfl (opv_as rfl) ?_
          refine snil ?_
          refine cret ?_
          refine block_ret ?_
          refine then_ret ?_
          refine then_ret ?_
          refine block_ret ?_
          refine then_ret ?_
          obtain rfl := Option.some.inj h
          obtain rfl : Sum.inl _ = x2 := hk2
          replace ho2 : some _ = some _ := ho2
          obtain rfl := Option.some.inj ho2
          refine ⟨Or.inr rfl, _, _, _, (resVs_cons (ResV.tmp _ _ rfl) resVs_nil), (pubA_id rfl), ?_⟩
          rfl
        · replace h := ite_f hc h
          clear hc
          refine cskip ?_
          refine block_normal ?_
          refine then_normal ?_
          refine cregion ?_
          refine sv rfl (opv_mv rfl) ?_
          refine sv rfl (opv_add rfl rfl) ?_
          refine sv rfl (opv_as rfl) ?_
          refine snil ?_
          obtain rfl := Option.some.inj h
          exact ⟨(n2, (wI (s2 + 1))), _, hk2, ⟨rfl, rfl, rfl, trivial⟩, rfl, Nat.lt_succ_self _⟩
    · skip
      refine cregion ?_
      refine sv rfl (opv_mv rfl) ?_
      refine sv rfl (opv_mv rfl) ?_
      refine sv rfl (opv_len_sl si23 rfl) ?_
      refine sv rfl (opv_lss rfl rfl) ?_
      refine sv rfl (opv_mv rfl) ?_
      refine ssplit 10 rfl (fun hc => ?_) (fun hc => ?_)
      · replace h := ite_t hc h
        clear hc
        refine son rfl rfl rfl ?_
        refine sv rfl (opv_mv rfl) ?_
        refine son rfl rfl rfl ?_
        refine sv rfl (opv_mv rfl) ?_
        refine son rfl rfl rfl ?_
        refine sv rfl (opv_len_sl si23 rfl) ?_
        refine son rfl rfl rfl ?_
        refine sv rfl (opv_lss rfl rfl) ?_
        refine sv rfl (opv_pick_t rfl rfl) ?_
        refine snil ?_
        refine ccond rfl (fun hc => ?_) (fun hc => ?_)
        · replace h := ite_t hc h
          clear hc
          refine cskip ?_
          refine then_normal ?_
          exact ⟨(), _, h, ⟨rfl, rfl, rfl, trivial⟩, rfl⟩
        · replace h := ite_f hc h
          clear hc
          refine cexit ?_
          refine then_exit ?_
          refine then_exit ?_
          refine block_hit ?_
          refine then_normal ?_
          obtain rfl := Option.some.inj h
          obtain rfl : _ = x2 := hk2
          exact ⟨(), _, ho2, ⟨rfl, rfl, trivial⟩, rfl⟩
      · replace h := ite_f hc h
        clear hc
        refine soff rfl rfl rfl rfl ?_
        refine soff rfl rfl rfl rfl ?_
        refine soff rfl rfl rfl rfl ?_
        refine soff rfl rfl rfl rfl ?_
        refine sv rfl (opv_pick_f rfl rfl) ?_
        refine snil ?_
        refine ccond rfl (fun hx => Bool.noConfusion hx) (fun _ => ?_)
        refine cexit ?_
        refine then_exit ?_
        refine then_exit ?_
        refine block_hit ?_
        refine then_normal ?_
        obtain rfl := Option.some.inj h
        obtain rfl : _ = x2 := hk2
        exact ⟨(), _, ho2, ⟨rfl, rfl, trivial⟩, rfl⟩

def m16_r09_Rising_k1 (b1 : Unit) : Option Bool :=
  some true

def m16_r09_Rising_s2 (a0 : List GApiKV) (s2 : Int) : Option (LR (Int) (Unit) (Bool)) :=
  if (decide (s2 < (a0.length : Int))) then ((idx a0 (wI (s2 - 1))).bind fun u3 => (idx a0 s2).bind fun u4 => (m30_r06_Cmp u3.Key u4.Key).bind fun v5 => if (decide (0 ≤ v5)) then (some (.ret false)) else (some (.cont (wI (s2 + 1))))) else (some (.brk ()))
def m16_r09_Rising (a0 : List GApiKV) : Option Bool :=
  (iter (m16_r09_Rising_s2 a0) fuel 1).bind fun x => match x with | .inl r => some r | .inr e6 => m16_r09_Rising_k1 e6

set_option maxRecDepth 100000 in
theorem m16_r09_Rising_c {a0 : List GApiKV} {r : Bool} (h : m16_r09_Rising a0 = some r) : CallsA Try.prog 16 [.one (.sl a0.length (a0.flatMap eGApiKV))] (· = .s (.one (.b r))) := by
  unfold m16_r09_Rising at h
  refine callsA_of Try.func16 rfl (nt := 23) rfl (Nat.le_of_ble_eq_true rfl) ?_
  intro w0 S0
  refine cseq ?_
  refine cregion ?_
  refine sv rfl (opv_as rfl) ?_
  refine snil ?_
  refine cseq ?_
  refine cseq ?_
  refine cregion ?_
  refine sv rfl (opv_as rfl) ?_
  refine snil ?_
  refine cjoin (Unit) (fun b1 => []) (fun b1 => []) (fun b1 => m16_r09_Rising_k1 b1 = some r) (fun _ _ => inbL_of rfl) (fun _ _ => blkinb_of rfl) (fun _ _ => Nat.le_of_ble_eq_true rfl) (fun b1 h => ?_) ?_
  · unfold m16_r09_Rising_k1 at h
    refine cseq ?_
    refine cregion ?_
    refine sv rfl (opv_as rfl) ?_
    refine snil ?_
    refine cret ?_
    obtain rfl := Option.some.inj h
    refine ⟨Or.inr rfl, _, _, _, (resVs_cons (ResV.tmp _ _ rfl) resVs_nil), (pubA_id rfl), ?_⟩
    rfl
  · skip
    refine cblock ?_
    obtain ⟨x2, hx2, ho2⟩ := bind_eq h
    refine awc_loop (G := Nat × (Int)) (fun g => [(0, .s (.one (.sl a0.length (a0.flatMap eGApiKV)))), (3, .s (.one (.i .i64 g.2)))]) (fun g => []) (fun g => iter (m16_r09_Rising_s2 a0) g.1 g.2 = some x2) (fun g => g.1) (fuel, 1) hx2 ⟨rfl, rfl, trivial⟩ [] rfl (fun _ _ => inbL_of rfl) (fun _ _ => blkinb_of rfl) (fun _ _ => Nat.le_of_ble_eq_true rfl) ?_
    clear hx2 h
    rintro ⟨n2, s2⟩ h
    obtain ⟨n2, y2, rfl, h, hk2⟩ := iter_eq h
    unfold m16_r09_Rising_s2 at h
    refine cseq ?_
    refine cseq ?_
    refine cregion ?_
    refine sv rfl (opv_mv rfl) ?_
    refine sv rfl (opv_mv rfl) ?_
    refine sv rfl (opv_len_sl si38 rfl) ?_
    refine sv rfl (opv_lss rfl rfl) ?_
    refine snil ?_
    refine ccond rfl (fun hc => ?_) (fun hc => ?_)
    · replace h := ite_t hc h
      clear hc
      refine cskip ?_
      refine then_normal ?_
      refine cseq ?_
      refine cblock ?_
      refine cseq ?_
      refine cdraw mixed (by kernel_rfl) ?_
      refine dv rfl (opv_mv rfl) ?_
      refine dv rfl (opv_mv rfl) ?_
      refine dv rfl (opv_sub rfl rfl) ?_
      obtain ⟨u3, hu3, h⟩ := bind_eq h
      refine dv rfl (opv_ix (f := eGApiKV) si38 (fun _ => rfl) rfl rfl rfl rfl hu3) ?_
      refine dv rfl (opv_fieldAddr_cp fi46_0 rfl) ?_
      refine dv rfl (opv_load1 ti23 rfl (.cp _) rfl) ?_
      refine dv rfl (opv_mv rfl) ?_
      refine dv rfl (opv_mv rfl) ?_
      obtain ⟨u4, hu4, h⟩ := bind_eq h
      refine dv rfl (opv_ix (f := eGApiKV) si38 (fun _ => rfl) rfl rfl rfl rfl hu4) ?_
      refine dv rfl (opv_fieldAddr_cp fi46_0 rfl) ?_
      refine dv rfl (opv_load1 ti23 rfl (.cp _) rfl) ?_
      obtain ⟨v5, hv5, h⟩ := bind_eq h
      refine dd rfl (opD_call fn30 (opnds_cons rfl (opnds_cons rfl opnds_nil)) rfl (m30_r06_Cmp_c hv5)) ?_
      refine dv rfl (opv_geq rfl rfl) ?_
      refine dnil ?_
      refine then_normal ?_
      refine ccond rfl (fun hc => ?_) (fun hc => ?_)
      · replace h := ite_t hc h
        clear hc
        refine cseq ?_
        refine cregion ?_
        refine sv rfl (opv_as rfl) ?_
        refine snil ?_
        refine cret ?_
        refine block_ret ?_
        refine then_ret ?_
        refine then_ret ?_
        refine block_ret ?_
        refine then_ret ?_
        obtain rfl := Option.some.inj h
        obtain rfl : Sum.inl _ = x2 := hk2
        replace ho2 : some _ = some _ := ho2
        obtain rfl := Option.some.inj ho2
        refine ⟨Or.inr rfl, _, _, _, (resVs_cons (ResV.tmp _ _ rfl) resVs_nil), (pubA_id rfl), ?_⟩
        rfl
      · replace h := ite_f hc h
        clear hc
        refine cskip ?_
        refine block_normal ?_
        refine then_normal ?_
        refine cregion ?_
        refine sv rfl (opv_mv rfl) ?_
        refine sv rfl (opv_add rfl rfl) ?_
        refine sv rfl (opv_as rfl) ?_
        refine snil ?_
        obtain rfl := Option.some.inj h
        exact ⟨(n2, (wI (s2 + 1))), _, hk2, ⟨rfl, rfl, trivial⟩, rfl, Nat.lt_succ_self _⟩
    · replace h := ite_f hc h
      clear hc
      refine cexit ?_
      refine then_exit ?_
      refine then_exit ?_
      refine block_hit ?_
      refine then_normal ?_
      obtain rfl := Option.some.inj h
      obtain rfl : _ = x2 := hk2
      exact ⟨(), _, ho2, trivial, rfl⟩

def m17_l09_grown_k1 (b1 : (List GApiWrite)) : Option GBufferBuf :=
  some (GBufferBuf.mk b1)

def m17_l09_grown_s2 (a0 : List GApiWrite) (s2 : Int × (List GApiWrite)) : Option (LB (Int × (List GApiWrite)) ((List GApiWrite))) :=
  if (decide (s2.1 < (a0.length : Int))) then ((idx a0 s2.1).bind fun u3 => (m10_buffer_Set (GBufferBuf.mk s2.2) u3).bind fun v4 => if (decide (v4.2 = 0)) then (some (.cont ((wI (s2.1 + 1)), v4.1.L))) else (some (.cont ((wI (s2.1 + 1)), s2.2)))) else (some (.brk s2.2))
def m17_l09_grown (a0 : List GApiWrite) : Option GBufferBuf :=
  (iterB (m17_l09_grown_s2 a0) fuel (0, ([] : List GApiWrite))).bind fun e5 => m17_l09_grown_k1 e5

set_option maxRecDepth 100000 in
theorem m17_l09_grown_c {a0 : List GApiWrite} {r : GBufferBuf} (h : m17_l09_grown a0 = some r) : CallsA Try.prog 17 [.one (.sl a0.length (a0.flatMap eGApiWrite))] (· = .s (.agg [.sl r.L.length (r.L.flatMap eGApiWrite)])) := by
  unfold m17_l09_grown at h
  refine callsA_of Try.func17 rfl (nt := 27) rfl (Nat.le_of_ble_eq_true rfl) ?_
  intro w0 S0
  refine cseq ?_
  refine cregion ?_
  refine salloc rfl zi27 ?_
  refine snil ?_
  refine cseq ?_
  refine cregion ?_
  refine sv rfl (opv_build zi27 pi27 parts_nil (.nil _)) ?_
  refine salloc rfl zi27 ?_
  refine sstore sz27 rfl rfl rfl rfl (Nat.le_of_ble_eq_true rfl) ?_
  refine smem [.box [.raw (.slice none 0 0)], .box [.raw (.slice none 0 0)]] rfl ?_
  refine snil ?_
  refine cseq ?_
  refine cseq ?_
  refine cregion ?_
  refine sv rfl (opv_as rfl) ?_
  refine snil ?_
  refine cjoin ((List GApiWrite)) (fun b1 => [(2, .s (.one (.lp 0 0))), (3, .s (.one (.lp 1 0)))]) (fun b1 => [.box [.raw (.slice none 0 0)], .box [.sl b1.length (b1.flatMap eGApiWrite)]]) (fun b1 => m17_l09_grown_k1 b1 = some r) (fun _ _ => inbL_of rfl) (fun _ _ => blkinb_of rfl) (fun _ _ => Nat.le_of_ble_eq_true rfl) (fun b1 h => ?_) ?_
  · unfold m17_l09_grown_k1 at h
    refine cseq ?_
    refine cregion ?_
    refine sv rfl (opv_loadN ti27 rfl (.lp _ _ _ rfl) (Nat.le_of_ble_eq_true rfl)) ?_
    refine sstore sz27 rfl rfl rfl rfl (Nat.le_of_ble_eq_true rfl) ?_
    refine smem [.box [.sl b1.length (b1.flatMap eGApiWrite)], .box [.sl b1.length (b1.flatMap eGApiWrite)]] rfl ?_
    refine snil ?_
    refine cret ?_
    obtain rfl := Option.some.inj h
    refine ⟨Or.inr rfl, _, _, _, (resVs_cons (ResV.agg _ _ _ _ _ ti27 rfl (.lp _ _ _ rfl) (Nat.le_of_ble_eq_true rfl)) resVs_nil), (pubA_id rfl), ?_⟩
    rfl
  · skip
    refine cblock ?_
    refine cpubbox 1 0 rfl rfl PubL.nil rfl ?_
    obtain ⟨x2, hx2, ho2⟩ := bind_eq h
    refine awc_loop (G := Nat × (Int × (List GApiWrite))) (fun g => [(0, .s (.one (.sl a0.length (a0.flatMap eGApiWrite)))), (2, .s (.one (.lp 0 0))), (3, .s (.one (.lp 1 0))), (4, .s (.one (.i .i64 g.2.1)))]) (fun g => [.box [.raw (.slice none 0 0)], .box [.sl g.2.2.length (g.2.2.flatMap eGApiWrite)]]) (fun g => iterB (m17_l09_grown_s2 a0) g.1 g.2 = some x2) (fun g => g.1) (fuel, (0, ([] : List GApiWrite))) hx2 ⟨rfl, rfl, rfl, rfl, trivial⟩ [] rfl (fun _ _ => inbL_of rfl) (fun _ _ => blkinb_of rfl) (fun _ _ => Nat.le_of_ble_eq_true rfl) ?_
    clear hx2 h
    rintro ⟨n2, s2⟩ h
    obtain ⟨n2, y2, rfl, h, hk2⟩ := iterB_eq h
    unfold m17_l09_grown_s2 at h
    refine cseq ?_
    refine cseq ?_
    refine cregion ?_
    refine sv rfl (opv_mv rfl) ?_
    refine sv rfl (opv_mv rfl) ?_
    refine sv rfl (opv_len_sl si22 rfl) ?_
    refine sv rfl (opv_lss rfl rfl) ?_
    refine snil ?_
    refine ccond rfl (fun hc => ?_) (fun hc => ?_)
    · replace h := ite_t hc h
      clear hc
      refine cskip ?_
      refine then_normal ?_
      refine cseq ?_
      refine cblock ?_
      refine cseq ?_
      refine chole ?_
      obtain ⟨u3, hu3, h⟩ := bind_eq h
      obtain ⟨v4, hv4, h⟩ := bind_eq h
      refine cdraw_e [9, 10] [0, 0, 0, 6, 14, 31, 63, 127, 127, 0, 767, 2047] [[.box [.raw (.slice none 0 0)], .box [.sl s2.2.length (s2.2.flatMap eGApiWrite)], .hole], [.box [.raw (.slice none 0 0)], .box [.sl s2.2.length (s2.2.flatMap eGApiWrite)], .box [.raw (.slice none 0 0)]], [.box [.raw (.slice none 0 0)], .box [.sl s2.2.length (s2.2.flatMap eGApiWrite)], .box [.sl v4.1.L.length (v4.1.L.flatMap eGApiWrite)]]] (by kernel_rfl) mixed (by kernel_rfl) (by decide) rfl rfl rfl rfl ?_
      refine ev (sees_all (md := [.box [.raw (.slice none 0 0)], .box [.sl s2.2.length (s2.2.flatMap eGApiWrite)], .dead]) ⟨⟨rfl, ⟨rfl, ⟨trivial, trivial⟩⟩⟩, ⟨⟨rfl, ⟨rfl, ⟨trivial, trivial⟩⟩⟩, ⟨⟨rfl, ⟨rfl, ⟨trivial, trivial⟩⟩⟩, trivial⟩⟩⟩) rfl rfl (opv_loadN ti27 rfl (.lp _ _ _ rfl) (Nat.le_of_ble_eq_true rfl)) ?_
      refine emv rfl rfl (fun _ => opv_mv rfl) ?_
      refine emv rfl rfl (fun _ => opv_mv rfl) ?_
      refine ev (sees_all (md := [.box [.raw (.slice none 0 0)], .box [.sl s2.2.length (s2.2.flatMap eGApiWrite)], .dead]) ⟨⟨rfl, ⟨rfl, ⟨trivial, trivial⟩⟩⟩, ⟨⟨rfl, ⟨rfl, ⟨trivial, trivial⟩⟩⟩, ⟨⟨rfl, ⟨rfl, ⟨trivial, trivial⟩⟩⟩, trivial⟩⟩⟩) rfl rfl (opv_ix (f := eGApiWrite) si22 (fun _ => rfl) rfl rfl rfl rfl hu3) ?_
      refine ev (sees_all (md := [.box [.raw (.slice none 0 0)], .box [.sl s2.2.length (s2.2.flatMap eGApiWrite)], .dead]) ⟨⟨rfl, ⟨rfl, ⟨trivial, trivial⟩⟩⟩, ⟨⟨rfl, ⟨rfl, ⟨trivial, trivial⟩⟩⟩, ⟨⟨rfl, ⟨rfl, ⟨trivial, trivial⟩⟩⟩, trivial⟩⟩⟩) rfl rfl (opv_loadNe (ys := [.sl u3.Key.length (u3.Key.flatMap eU8), .sl u3.Val.length (u3.Val.flatMap eU8), .b u3.Del]) ti29 rfl (.cp _) rfl rfl) ?_
      refine ed (sees_all (md := [.box [.raw (.slice none 0 0)], .box [.sl s2.2.length (s2.2.flatMap eGApiWrite)], .dead]) ⟨⟨rfl, ⟨rfl, ⟨trivial, trivial⟩⟩⟩, ⟨⟨rfl, ⟨rfl, ⟨trivial, trivial⟩⟩⟩, ⟨⟨rfl, ⟨rfl, ⟨trivial, trivial⟩⟩⟩, trivial⟩⟩⟩) rfl rfl (opD_call fn10 (opnds_cons rfl (opnds_cons rfl opnds_nil)) rfl (m10_buffer_Set_c hv4)) ?_
      refine emv rfl rfl (fun _ => opv_mvt rfl) ?_
      refine ev (sees_all (md := [.box [.raw (.slice none 0 0)], .box [.sl s2.2.length (s2.2.flatMap eGApiWrite)], .dead]) ⟨⟨rfl, ⟨rfl, ⟨trivial, trivial⟩⟩⟩, ⟨⟨rfl, ⟨rfl, ⟨trivial, trivial⟩⟩⟩, ⟨⟨rfl, ⟨rfl, ⟨trivial, trivial⟩⟩⟩, trivial⟩⟩⟩) rfl rfl (opv_extract rfl rfl) ?_
      refine ev (sees_all (md := [.box [.raw (.slice none 0 0)], .box [.sl s2.2.length (s2.2.flatMap eGApiWrite)], .dead]) ⟨⟨rfl, ⟨rfl, ⟨trivial, trivial⟩⟩⟩, ⟨⟨rfl, ⟨rfl, ⟨trivial, trivial⟩⟩⟩, ⟨⟨rfl, ⟨rfl, ⟨trivial, trivial⟩⟩⟩, trivial⟩⟩⟩) rfl rfl (opv_extract rfl rfl) ?_
      refine ee (x := .s (.one (.lp 2 0))) 0 rfl rfl rfl rfl rfl (fun ζ => ?_) ?_
      · refine salloc_at 2 rfl zi27 rfl ?_
        exact eend
      refine ee0 1 rfl rfl rfl rfl (fun ζ => ?_) ?_
      · refine sstore sz27 rfl rfl rfl rfl (Nat.le_of_ble_eq_true rfl) ?_
        refine smem [.box [.raw (.slice none 0 0)], .box [.sl s2.2.length (s2.2.flatMap eGApiWrite)], .box [.sl v4.1.L.length (v4.1.L.flatMap eGApiWrite)]] rfl ?_
        exact eend
      refine ev (sees_at 2 rfl rfl) rfl rfl (opv_as rfl) ?_
      refine enil ?_
      refine then_normal ?_
      refine cseq ?_
      refine cregion ?_
      refine sv rfl (opv_mv rfl) ?_
      refine sv rfl (opv_ieql rfl rfl) ?_
      refine snil ?_
      refine ccond rfl (fun hc => ?_) (fun hc => ?_)
      · replace h := ite_t hc h
        clear hc
        refine cregion ?_
        refine sv rfl (opv_loadN ti27 rfl (.lp _ _ _ rfl) (Nat.le_of_ble_eq_true rfl)) ?_
        refine sstore sz27 rfl rfl rfl rfl (Nat.le_of_ble_eq_true rfl) ?_
        refine smem [.box [.raw (.slice none 0 0)], .box [.sl v4.1.L.length (v4.1.L.flatMap eGApiWrite)], .box [.sl v4.1.L.length (v4.1.L.flatMap eGApiWrite)]] rfl ?_
        refine snil0 ?_
        refine block_normal ?_
        refine then_normal ?_
        refine cregion ?_
        refine sv rfl (opv_mv rfl) ?_
        refine sv rfl (opv_add rfl rfl) ?_
        refine sv rfl (opv_as rfl) ?_
        refine snil ?_
        obtain rfl := Option.some.inj h
        exact ⟨(n2, ((wI (s2.1 + 1)), v4.1.L)), _, hk2, ⟨rfl, rfl, rfl, rfl, trivial⟩, rfl, Nat.lt_succ_self _⟩
      · replace h := ite_f hc h
        clear hc
        refine cskip ?_
        refine block_normal ?_
        refine then_normal ?_
        refine cregion ?_
        refine sv rfl (opv_mv rfl) ?_
        refine sv rfl (opv_add rfl rfl) ?_
        refine sv rfl (opv_as rfl) ?_
        refine snil ?_
        obtain rfl := Option.some.inj h
        exact ⟨(n2, ((wI (s2.1 + 1)), s2.2)), _, hk2, ⟨rfl, rfl, rfl, rfl, trivial⟩, rfl, Nat.lt_succ_self _⟩
    · replace h := ite_f hc h
      clear hc
      refine cexit ?_
      refine then_exit ?_
      refine then_exit ?_
      refine block_hit ?_
      refine then_normal ?_
      obtain rfl := Option.some.inj h
      obtain rfl : _ = x2 := hk2
      exact ⟨s2.2, _, ho2, ⟨rfl, rfl, trivial⟩, rfl⟩

def m19_r06_Has (a0 : GApiRange) (a1 : List UInt8) : Option Bool :=
  (m30_r06_Cmp a1 a0.Lo).bind fun v1 => if (decide (0 ≤ v1)) then (if a0.Open then (some true) else ((m30_r06_Cmp a1 a0.Hi).bind fun v2 => some (decide (v2 < 0)))) else (some false)

set_option maxRecDepth 100000 in
theorem m19_r06_Has_c {a0 : GApiRange} {a1 : List UInt8} {r : Bool} (h : m19_r06_Has a0 a1 = some r) : CallsA Try.prog 19 [.agg [.sl a0.Lo.length (a0.Lo.flatMap eU8), .sl a0.Hi.length (a0.Hi.flatMap eU8), .b a0.Open], .one (.sl a1.length (a1.flatMap eU8))] (· = .s (.one (.b r))) := by
  unfold m19_r06_Has at h
  refine callsA_of Try.func19 rfl (nt := 21) rfl (Nat.le_of_ble_eq_true rfl) ?_
  intro w0 S0
  refine cseq ?_
  refine cregion ?_
  refine sbox rfl rfl ?_
  refine sv rfl (opv_as rfl) ?_
  refine snil ?_
  refine cseq ?_
  refine cregion ?_
  refine sv rfl (opv_mv rfl) ?_
  refine sv rfl (opv_fieldAddr_lp fi40_0 rfl) ?_
  refine sv rfl (opv_load1 ti23 rfl (.lp _ _ _ rfl) rfl) ?_
  obtain ⟨v1, hv1, h⟩ := bind_eq h
  refine scall1 rfl fn30 (opnds_cons rfl (opnds_cons rfl opnds_nil)) (pubA_id rfl) (m30_r06_Cmp_c hv1) ?_
  refine sv rfl (opv_geq rfl rfl) ?_
  refine sv rfl (opv_mv rfl) ?_
  refine ssplit 10 rfl (fun hc => ?_) (fun hc => ?_)
  · replace h := ite_t hc h
    clear hc
    refine son rfl rfl rfl ?_
    refine sv rfl (opv_fieldAddr_lp fi40_2 rfl) ?_
    refine son rfl rfl rfl ?_
    refine sv rfl (opv_load1 ti4 rfl (.lp _ _ _ rfl) rfl) ?_
    refine son rfl rfl rfl ?_
    refine sv rfl (opv_mv rfl) ?_
    refine ssplit 13 rfl (fun hc => ?_) (fun hc => ?_)
    · replace h := ite_t hc h
      clear hc
      refine soff rfl rfl rfl rfl ?_
      refine soff rfl rfl rfl rfl ?_
      refine soff rfl rfl rfl rfl ?_
      refine soff rfl rfl rfl rfl ?_
      refine soff rfl rfl rfl rfl ?_
      refine son rfl rfl rfl ?_
      refine sv rfl (opv_pick_t rfl rfl) ?_
      refine sv rfl (opv_pick_t rfl rfl) ?_
      refine sv rfl (opv_as rfl) ?_
      refine snil ?_
      refine cret ?_
      obtain rfl := Option.some.inj h
      refine ⟨Or.inr rfl, _, _, _, (resVs_cons (ResV.tmp _ _ rfl) resVs_nil), (pubA_id rfl), ?_⟩
      rfl
    · replace h := ite_f hc h
      clear hc
      refine son rfl rfl rfl ?_
      refine sv rfl (opv_mv rfl) ?_
      refine son rfl rfl rfl ?_
      refine sv rfl (opv_fieldAddr_lp fi40_1 rfl) ?_
      refine son rfl rfl rfl ?_
      refine sv rfl (opv_load1 ti23 rfl (.lp _ _ _ rfl) rfl) ?_
      refine son rfl rfl rfl ?_
      obtain ⟨v2, hv2, h⟩ := bind_eq h
      refine scall1 rfl fn30 (opnds_cons rfl (opnds_cons rfl opnds_nil)) (pubA_id rfl) (m30_r06_Cmp_c hv2) ?_
      refine son rfl rfl rfl ?_
      refine sv rfl (opv_lss rfl rfl) ?_
      refine son rfl rfl rfl ?_
      refine sv rfl (opv_pick_f rfl rfl) ?_
      refine sv rfl (opv_pick_t rfl rfl) ?_
      refine sv rfl (opv_as rfl) ?_
      refine snil ?_
      refine cret ?_
      obtain rfl := Option.some.inj h
      refine ⟨Or.inr rfl, _, _, _, (resVs_cons (ResV.tmp _ _ rfl) resVs_nil), (pubA_id rfl), ?_⟩
      rfl
  · replace h := ite_f hc h
    clear hc
    refine soff rfl rfl rfl rfl ?_
    refine soff rfl rfl rfl rfl ?_
    refine soff rfl rfl rfl rfl ?_
    refine soffu rfl rfl rfl ?_
    refine soffu rfl rfl rfl ?_
    refine soffu rfl rfl rfl ?_
    refine soffu rfl rfl rfl ?_
    refine soffu rfl rfl rfl ?_
    refine soff rfl rfl rfl rfl ?_
    refine sv rfl (opv_pick_f rfl rfl) ?_
    refine sv rfl (opv_as rfl) ?_
    refine snil ?_
    refine cret ?_
    obtain rfl := Option.some.inj h
    refine ⟨Or.inr rfl, _, _, _, (resVs_cons (ResV.tmp _ _ rfl) resVs_nil), (pubA_id rfl), ?_⟩
    rfl

def m20_l09_has_k1 (b1 : Unit) : Option Bool :=
  some false

def m20_l09_has_s2 (a0 : List GApiKV) (a1 : List UInt8) (a2 : List UInt8) (s2 : Int) : Option (LR (Int) (Unit) (Bool)) :=
  if (decide (s2 < (a0.length : Int))) then ((idx a0 s2).bind fun u3 => if (u3.Key == a1) then ((idx a0 s2).bind fun u4 => some (.ret (u4.Val == a2))) else (some (.cont (wI (s2 + 1))))) else (some (.brk ()))
def m20_l09_has (a0 : List GApiKV) (a1 : List UInt8) (a2 : List UInt8) : Option Bool :=
  (iter (m20_l09_has_s2 a0 a1 a2) fuel 0).bind fun x => match x with | .inl r => some r | .inr e5 => m20_l09_has_k1 e5

set_option maxRecDepth 100000 in
theorem m20_l09_has_c {a0 : List GApiKV} {a1 : List UInt8} {a2 : List UInt8} {r : Bool} (h : m20_l09_has a0 a1 a2 = some r) : CallsA Try.prog 20 [.one (.sl a0.length (a0.flatMap eGApiKV)), .one (.sl a1.length (a1.flatMap eU8)), .one (.sl a2.length (a2.flatMap eU8))] (· = .s (.one (.b r))) := by
  unfold m20_l09_has at h
  refine callsA_of Try.func20 rfl (nt := 32) rfl (Nat.le_of_ble_eq_true rfl) ?_
  intro w0 S0
  refine cseq ?_
  refine cregion ?_
  refine sv rfl (opv_as rfl) ?_
  refine snil ?_
  refine cseq ?_
  refine cseq ?_
  refine cregion ?_
  refine sv rfl (opv_as rfl) ?_
  refine snil ?_
  refine cjoin (Unit) (fun b1 => []) (fun b1 => []) (fun b1 => m20_l09_has_k1 b1 = some r) (fun _ _ => inbL_of rfl) (fun _ _ => blkinb_of rfl) (fun _ _ => Nat.le_of_ble_eq_true rfl) (fun b1 h => ?_) ?_
  · unfold m20_l09_has_k1 at h
    refine cseq ?_
    refine cregion ?_
    refine sv rfl (opv_as rfl) ?_
    refine snil ?_
    refine cret ?_
    obtain rfl := Option.some.inj h
    refine ⟨Or.inr rfl, _, _, _, (resVs_cons (ResV.tmp _ _ rfl) resVs_nil), (pubA_id rfl), ?_⟩
    rfl
  · skip
    refine cblock ?_
    obtain ⟨x2, hx2, ho2⟩ := bind_eq h
    refine awc_loop (G := Nat × (Int)) (fun g => [(0, .s (.one (.sl a0.length (a0.flatMap eGApiKV)))), (1, .s (.one (.sl a1.length (a1.flatMap eU8)))), (2, .s (.one (.sl a2.length (a2.flatMap eU8)))), (7, .s (.one (.i .i64 g.2)))]) (fun g => []) (fun g => iter (m20_l09_has_s2 a0 a1 a2) g.1 g.2 = some x2) (fun g => g.1) (fuel, 0) hx2 ⟨rfl, rfl, rfl, rfl, trivial⟩ [] rfl (fun _ _ => inbL_of rfl) (fun _ _ => blkinb_of rfl) (fun _ _ => Nat.le_of_ble_eq_true rfl) ?_
    clear hx2 h
    rintro ⟨n2, s2⟩ h
    obtain ⟨n2, y2, rfl, h, hk2⟩ := iter_eq h
    unfold m20_l09_has_s2 at h
    refine cseq ?_
    refine cseq ?_
    refine cregion ?_
    refine sv rfl (opv_mv rfl) ?_
    refine sv rfl (opv_mv rfl) ?_
    refine sv rfl (opv_len_sl si38 rfl) ?_
    refine sv rfl (opv_lss rfl rfl) ?_
    refine snil ?_
    refine ccond rfl (fun hc => ?_) (fun hc => ?_)
    · replace h := ite_t hc h
      clear hc
      refine cskip ?_
      refine then_normal ?_
      refine cseq ?_
      refine cblock ?_
      refine cseq ?_
      refine cdraw mixed (by kernel_rfl) ?_
      refine dv rfl (opv_mv rfl) ?_
      refine dv rfl (opv_mv rfl) ?_
      obtain ⟨u3, hu3, h⟩ := bind_eq h
      refine dv rfl (opv_ix (f := eGApiKV) si38 (fun _ => rfl) rfl rfl rfl rfl hu3) ?_
      refine dv rfl (opv_fieldAddr_cp fi46_0 rfl) ?_
      refine dv rfl (opv_load1 ti23 rfl (.cp _) rfl) ?_
      refine dv rfl (opv_bs (l := u3.Key) Try.underlying23 Try.underlying5 Try.underlying9 rfl rfl rfl) ?_
      refine dv rfl (opv_mv rfl) ?_
      refine dv rfl (opv_bs (l := a1) Try.underlying23 Try.underlying5 Try.underlying9 rfl rfl rfl) ?_
      refine dv rfl (opv_seql' rfl rfl) ?_
      refine dnil ?_
      refine then_normal ?_
      refine ccond rfl (fun hc => ?_) (fun hc => ?_)
      · replace h := ite_t hc h
        clear hc
        refine cseq ?_
        refine cdraw mixed (by kernel_rfl) ?_
        refine dv rfl (opv_mv rfl) ?_
        refine dv rfl (opv_mv rfl) ?_
        obtain ⟨u4, hu4, h⟩ := bind_eq h
        refine dv rfl (opv_ix (f := eGApiKV) si38 (fun _ => rfl) rfl rfl rfl rfl hu4) ?_
        refine dv rfl (opv_fieldAddr_cp fi46_1 rfl) ?_
        refine dv rfl (opv_load1 ti23 rfl (.cp _) rfl) ?_
        refine dv rfl (opv_bs (l := u4.Val) Try.underlying23 Try.underlying5 Try.underlying9 rfl rfl rfl) ?_
        refine dv rfl (opv_mv rfl) ?_
        refine dv rfl (opv_bs (l := a2) Try.underlying23 Try.underlying5 Try.underlying9 rfl rfl rfl) ?_
        refine dv rfl (opv_seql' rfl rfl) ?_
        refine dv rfl (opv_as rfl) ?_
        refine dnil ?_
        refine then_normal ?_
        refine cret ?_
        refine block_ret ?_
        refine then_ret ?_
        refine then_ret ?_
        refine block_ret ?_
        refine then_ret ?_
        obtain rfl := Option.some.inj h
        obtain rfl : Sum.inl _ = x2 := hk2
        replace ho2 : some _ = some _ := ho2
        obtain rfl := Option.some.inj ho2
        refine ⟨Or.inr rfl, _, _, _, (resVs_cons (ResV.tmp _ _ rfl) resVs_nil), (pubA_id rfl), ?_⟩
        rfl
      · replace h := ite_f hc h
        clear hc
        refine cskip ?_
        refine block_normal ?_
        refine then_normal ?_
        refine cregion ?_
        refine sv rfl (opv_mv rfl) ?_
        refine sv rfl (opv_add rfl rfl) ?_
        refine sv rfl (opv_as rfl) ?_
        refine snil ?_
        obtain rfl := Option.some.inj h
        exact ⟨(n2, (wI (s2 + 1))), _, hk2, ⟨rfl, rfl, rfl, rfl, trivial⟩, rfl, Nat.lt_succ_self _⟩
    · replace h := ite_f hc h
      clear hc
      refine cexit ?_
      refine then_exit ?_
      refine then_exit ?_
      refine block_hit ?_
      refine then_normal ?_
      obtain rfl := Option.some.inj h
      obtain rfl : _ = x2 := hk2
      exact ⟨(), _, ho2, trivial, rfl⟩

def m21_r05_KVs_k1 (b1 : Unit) : Option Bool :=
  some true

def m21_r05_KVs_s2 (a0 : List GApiKV) (a1 : List GApiKV) (s2 : Int) : Option (LR (Int) (Unit) (Bool)) :=
  if (decide (s2 < (a0.length : Int))) then ((idx a0 s2).bind fun u3 => (idx a1 s2).bind fun u4 => if (!(u3.Key == u4.Key)) then (some (.ret false)) else ((idx a0 s2).bind fun u5 => (idx a1 s2).bind fun u6 => if (!(u5.Val == u6.Val)) then (some (.ret false)) else (some (.cont (wI (s2 + 1)))))) else (some (.brk ()))
def m21_r05_KVs (a0 : List GApiKV) (a1 : List GApiKV) : Option Bool :=
  if (!decide ((a0.length : Int) = (a1.length : Int))) then (some false) else ((iter (m21_r05_KVs_s2 a0 a1) fuel 0).bind fun x => match x with | .inl r => some r | .inr e7 => m21_r05_KVs_k1 e7)

set_option maxRecDepth 100000 in
theorem m21_r05_KVs_c {a0 : List GApiKV} {a1 : List GApiKV} {r : Bool} (h : m21_r05_KVs a0 a1 = some r) : CallsA Try.prog 21 [.one (.sl a0.length (a0.flatMap eGApiKV)), .one (.sl a1.length (a1.flatMap eGApiKV))] (· = .s (.one (.b r))) := by
  unfold m21_r05_KVs at h
  refine callsA_of Try.func21 rfl (nt := 45) rfl (Nat.le_of_ble_eq_true rfl) ?_
  intro w0 S0
  refine cseq ?_
  refine cregion ?_
  refine sv rfl (opv_as rfl) ?_
  refine snil ?_
  refine cseq ?_
  refine cseq ?_
  refine cregion ?_
  refine sv rfl (opv_mv rfl) ?_
  refine sv rfl (opv_len_sl si38 rfl) ?_
  refine sv rfl (opv_mv rfl) ?_
  refine sv rfl (opv_len_sl si38 rfl) ?_
  refine sv rfl (opv_ineq rfl rfl) ?_
  refine snil ?_
  refine ccond rfl (fun hc => ?_) (fun hc => ?_)
  · replace h := ite_t hc h
    clear hc
    refine cseq ?_
    refine cregion ?_
    refine sv rfl (opv_as rfl) ?_
    refine snil ?_
    refine cret ?_
    refine then_ret ?_
    obtain rfl := Option.some.inj h
    refine ⟨Or.inr rfl, _, _, _, (resVs_cons (ResV.tmp _ _ rfl) resVs_nil), (pubA_id rfl), ?_⟩
    rfl
  · replace h := ite_f hc h
    clear hc
    refine cskip ?_
    refine then_normal ?_
    refine cseq ?_
    refine cseq ?_
    refine cregion ?_
    refine sv rfl (opv_as rfl) ?_
    refine snil ?_
    refine cjoin (Unit) (fun b1 => []) (fun b1 => []) (fun b1 => m21_r05_KVs_k1 b1 = some r) (fun _ _ => inbL_of rfl) (fun _ _ => blkinb_of rfl) (fun _ _ => Nat.le_of_ble_eq_true rfl) (fun b1 h => ?_) ?_
    · unfold m21_r05_KVs_k1 at h
      refine cseq ?_
      refine cregion ?_
      refine sv rfl (opv_as rfl) ?_
      refine snil ?_
      refine cret ?_
      obtain rfl := Option.some.inj h
      refine ⟨Or.inr rfl, _, _, _, (resVs_cons (ResV.tmp _ _ rfl) resVs_nil), (pubA_id rfl), ?_⟩
      rfl
    · skip
      refine cblock ?_
      obtain ⟨x2, hx2, ho2⟩ := bind_eq h
      refine awc_loop (G := Nat × (Int)) (fun g => [(0, .s (.one (.sl a0.length (a0.flatMap eGApiKV)))), (1, .s (.one (.sl a1.length (a1.flatMap eGApiKV)))), (5, .s (.one (.i .i64 g.2)))]) (fun g => []) (fun g => iter (m21_r05_KVs_s2 a0 a1) g.1 g.2 = some x2) (fun g => g.1) (fuel, 0) hx2 ⟨rfl, rfl, rfl, trivial⟩ [] rfl (fun _ _ => inbL_of rfl) (fun _ _ => blkinb_of rfl) (fun _ _ => Nat.le_of_ble_eq_true rfl) ?_
      clear hx2 h
      rintro ⟨n2, s2⟩ h
      obtain ⟨n2, y2, rfl, h, hk2⟩ := iter_eq h
      unfold m21_r05_KVs_s2 at h
      refine cseq ?_
      refine cseq ?_
      refine cregion ?_
      refine sv rfl (opv_mv rfl) ?_
      refine sv rfl (opv_mv rfl) ?_
      refine sv rfl (opv_len_sl si38 rfl) ?_
      refine sv rfl (opv_lss rfl rfl) ?_
      refine snil ?_
      refine ccond rfl (fun hc => ?_) (fun hc => ?_)
      · replace h := ite_t hc h
        clear hc
        refine cskip ?_
        refine then_normal ?_
        refine cseq ?_
        refine cblock ?_
        refine cseq ?_
        refine cdraw mixed (by kernel_rfl) ?_
        refine dv rfl (opv_mv rfl) ?_
        refine dv rfl (opv_mv rfl) ?_
        obtain ⟨u3, hu3, h⟩ := bind_eq h
        refine dv rfl (opv_ix (f := eGApiKV) si38 (fun _ => rfl) rfl rfl rfl rfl hu3) ?_
        refine dv rfl (opv_fieldAddr_cp fi46_0 rfl) ?_
        refine dv rfl (opv_load1 ti23 rfl (.cp _) rfl) ?_
        refine dv rfl (opv_bs (l := u3.Key) Try.underlying23 Try.underlying5 Try.underlying9 rfl rfl rfl) ?_
        refine dv rfl (opv_mv rfl) ?_
        refine dv rfl (opv_mv rfl) ?_
        obtain ⟨u4, hu4, h⟩ := bind_eq h
        refine dv rfl (opv_ix (f := eGApiKV) si38 (fun _ => rfl) rfl rfl rfl rfl hu4) ?_
        refine dv rfl (opv_fieldAddr_cp fi46_0 rfl) ?_
        refine dv rfl (opv_load1 ti23 rfl (.cp _) rfl) ?_
        refine dv rfl (opv_bs (l := u4.Key) Try.underlying23 Try.underlying5 Try.underlying9 rfl rfl rfl) ?_
        refine dv rfl (opv_sneq' rfl rfl) ?_
        refine dv rfl (opv_mv rfl) ?_
        refine dsplit 30 rfl (fun hc => ?_) (fun hc => ?_)
        · replace h := ite_t hc h
          clear hc
          refine doff rfl rfl rfl rfl ?_
          refine doff rfl rfl rfl rfl ?_
          refine doff rfl rfl rfl rfl ?_
          refine doff rfl rfl rfl rfl ?_
          refine doff rfl rfl rfl rfl ?_
          refine doff rfl rfl rfl rfl ?_
          refine doff rfl rfl rfl rfl ?_
          refine doff rfl rfl rfl rfl ?_
          refine doff rfl rfl rfl rfl ?_
          refine doff rfl rfl rfl rfl ?_
          refine doff rfl rfl rfl rfl ?_
          refine doff rfl rfl rfl rfl ?_
          refine doff rfl rfl rfl rfl ?_
          refine dv rfl (opv_pick_t rfl rfl) ?_
          refine dnil ?_
          refine then_normal ?_
          refine ccond rfl (fun _ => ?_) (fun hx => Bool.noConfusion hx)
          refine cseq ?_
          refine cregion ?_
          refine sv rfl (opv_as rfl) ?_
          refine snil ?_
          refine cret ?_
          refine block_ret ?_
          refine then_ret ?_
          refine then_ret ?_
          refine block_ret ?_
          refine then_ret ?_
          obtain rfl := Option.some.inj h
          obtain rfl : Sum.inl _ = x2 := hk2
          replace ho2 : some _ = some _ := ho2
          obtain rfl := Option.some.inj ho2
          refine ⟨Or.inr rfl, _, _, _, (resVs_cons (ResV.tmp _ _ rfl) resVs_nil), (pubA_id rfl), ?_⟩
          rfl
        · replace h := ite_f hc h
          clear hc
          refine dvg rfl rfl rfl (opv_mv rfl) ?_
          refine dvg rfl rfl rfl (opv_mv rfl) ?_
          obtain ⟨u5, hu5, h⟩ := bind_eq h
          refine dvg rfl rfl rfl (opv_ix (f := eGApiKV) si38 (fun _ => rfl) rfl rfl rfl rfl hu5) ?_
          refine dvg rfl rfl rfl (opv_fieldAddr_cp fi46_1 rfl) ?_
          refine dvg rfl rfl rfl (opv_load1 ti23 rfl (.cp _) rfl) ?_
          refine dvg rfl rfl rfl (opv_bs (l := u5.Val) Try.underlying23 Try.underlying5 Try.underlying9 rfl rfl rfl) ?_
          refine dvg rfl rfl rfl (opv_mv rfl) ?_
          refine dvg rfl rfl rfl (opv_mv rfl) ?_
          obtain ⟨u6, hu6, h⟩ := bind_eq h
          refine dvg rfl rfl rfl (opv_ix (f := eGApiKV) si38 (fun _ => rfl) rfl rfl rfl rfl hu6) ?_
          refine dvg rfl rfl rfl (opv_fieldAddr_cp fi46_1 rfl) ?_
          refine dvg rfl rfl rfl (opv_load1 ti23 rfl (.cp _) rfl) ?_
          refine dvg rfl rfl rfl (opv_bs (l := u6.Val) Try.underlying23 Try.underlying5 Try.underlying9 rfl rfl rfl) ?_
          refine dvg rfl rfl rfl (opv_sneq' rfl rfl) ?_
          refine dv rfl (opv_pick_f rfl rfl) ?_
          refine dnil ?_
          refine then_normal ?_
          refine ccond rfl (fun hc => ?_) (fun hc => ?_)
          · replace h := ite_t hc h
            clear hc
            refine cseq ?_
            refine cregion ?_
            refine sv rfl (opv_as rfl) ?_
            refine snil ?_
            refine cret ?_
            refine block_ret ?_
            refine then_ret ?_
            refine then_ret ?_
            refine block_ret ?_
            refine then_ret ?_
            obtain rfl := Option.some.inj h
            obtain rfl : Sum.inl _ = x2 := hk2
            replace ho2 : some _ = some _ := ho2
            obtain rfl := Option.some.inj ho2
            refine ⟨Or.inr rfl, _, _, _, (resVs_cons (ResV.tmp _ _ rfl) resVs_nil), (pubA_id rfl), ?_⟩
            rfl
          · replace h := ite_f hc h
            clear hc
            refine cskip ?_
            refine block_normal ?_
            refine then_normal ?_
            refine cregion ?_
            refine sv rfl (opv_mv rfl) ?_
            refine sv rfl (opv_add rfl rfl) ?_
            refine sv rfl (opv_as rfl) ?_
            refine snil ?_
            obtain rfl := Option.some.inj h
            exact ⟨(n2, (wI (s2 + 1))), _, hk2, ⟨rfl, rfl, rfl, trivial⟩, rfl, Nat.lt_succ_self _⟩
      · replace h := ite_f hc h
        clear hc
        refine cexit ?_
        refine then_exit ?_
        refine then_exit ?_
        refine block_hit ?_
        refine then_normal ?_
        obtain rfl := Option.some.inj h
        obtain rfl : _ = x2 := hk2
        exact ⟨(), _, ho2, trivial, rfl⟩

def m22_buffer_Touches_k1 (b1 : Unit) : Option Bool :=
  some false

def m22_buffer_Touches_s2 (a0 : GBufferBuf) (a1 : GApiRange) (s2 : Int) : Option (LR (Int) (Unit) (Bool)) :=
  if (decide (s2 < (a0.L.length : Int))) then ((idx a0.L s2).bind fun u3 => (m32_keys_Has a1 u3.Key).bind fun v4 => if v4 then (some (.ret true)) else (some (.cont (wI (s2 + 1))))) else (some (.brk ()))
end Go.Proofs.Ytmkcigfeebippaa.Abs
