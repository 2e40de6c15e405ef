/-
  t
-/
import Derived.Test.YtoojcpiigkmhiaaT04a
namespace Go.Proofs.Ytoojcpiigkmhiaa.Abs
open Go.RowKit Go.Proofs
def m3_l04_StreamIs (a0 : GR04Stream) (a1 : List UInt8) : Option Bool :=
  (m10_l04_awake).bind fun v1 => if (decide (2000 < (a0.Buf.length : Int))) then (some v1) else (if (decide (2000 < (a1.length : Int))) then (some v1) else (m3_l04_StreamIs_k2 a0 a1 v1 ()))

set_option maxRecDepth 100000 in
theorem m3_l04_StreamIs_c {a0 : GR04Stream} {a1 : List UInt8} {r : Bool} (h : m3_l04_StreamIs a0 a1 = some r) : CallsA Try.prog 3 [.agg [.sl a0.Buf.length (a0.Buf.flatMap eU8), .i .i64 a0.Dead], .one (.sl a1.length (a1.flatMap eU8))] (· = .s (.one (.b r))) := by
  unfold m3_l04_StreamIs at h
  refine callsA_of Try.func3 rfl (nt := 71) rfl (Nat.le_of_ble_eq_true rfl) ?_
  intro w0 S0
  refine cseq ?_
  refine cregion ?_
  refine sbox rfl rfl ?_
  refine sv rfl (opv_as rfl) ?_
  refine snil ?_
  refine cseq ?_
  refine cregion ?_
  obtain ⟨v1, hv1, h⟩ := bind_eq h
  refine scall1 rfl fn10 opnds_nil (pubA_id rfl) (m10_l04_awake_c hv1) ?_
  refine sv rfl (opv_as rfl) ?_
  refine snil ?_
  refine cseq ?_
  refine cseq ?_
  refine cjoin3 (Unit) (fun b2 => [(1, .s (.one (.sl a1.length (a1.flatMap eU8)))), (2, .s (.one (.lp 0 0))), (5, .s (.one (.b v1)))]) (fun b2 => [.box [.sl a0.Buf.length (a0.Buf.flatMap eU8), .i .i64 a0.Dead]]) (fun b2 => m3_l04_StreamIs_k2 a0 a1 v1 b2 = some r) (fun _ _ => inbL_of rfl) (fun _ _ => blkinb_of rfl) (fun _ _ => Nat.le_of_ble_eq_true rfl) (fun b2 h => ?_) ?_
  · unfold m3_l04_StreamIs_k2 at h
    refine cseq ?_
    refine cregion ?_
    refine sv rfl (opv_loadN ti25 rfl (.lp _ _ _ rfl) (Nat.le_of_ble_eq_true rfl)) ?_
    obtain ⟨v3, hv3, h⟩ := bind_eq h
    refine scall1 rfl fn12 (opnds_cons rfl opnds_nil) (pubA_id rfl) (m12_l04_ours_c hv3) ?_
    refine sv rfl (opv_mv rfl) ?_
    obtain ⟨v4, hv4, h⟩ := bind_eq h
    refine scall1 rfl fn11 (opnds_cons rfl (opnds_cons rfl opnds_nil)) (pubA_id rfl) (m11_stream_Feed_c hv4) ?_
    refine sv rfl (opv_mvt rfl) ?_
    refine sv rfl (opv_extract rfl rfl) ?_
    refine sv rfl (opv_extract rfl rfl) ?_
    refine sv rfl (opv_extract rfl rfl) ?_
    refine salloc rfl zi27 ?_
    refine sstore sz27 rfl rfl rfl rfl (Nat.le_of_ble_eq_true rfl) ?_
    refine smem [.box [.sl a0.Buf.length (a0.Buf.flatMap eU8), .i .i64 a0.Dead], .box [.sl v4.1.Buf.length (v4.1.Buf.flatMap eU8), .i .i64 v4.1.Dead]] rfl ?_
    refine sv rfl (opv_as rfl) ?_
    refine sv rfl (opv_as rfl) ?_
    refine snil ?_
    refine cseq ?_
    refine cregion ?_
    refine sv rfl (opv_loadN ti25 rfl (.lp _ _ _ rfl) (Nat.le_of_ble_eq_true rfl)) ?_
    refine sv rfl (opv_mv rfl) ?_
    obtain ⟨v5, hv5, h⟩ := bind_eq h
    refine scall1 rfl fn13 (opnds_cons rfl (opnds_cons rfl opnds_nil)) (pubA_id rfl) (m13_r04_Feed_c hv5) ?_
    refine sv rfl (opv_mvt rfl) ?_
    refine sv rfl (opv_extract rfl rfl) ?_
    refine sv rfl (opv_extract rfl rfl) ?_
    refine sv rfl (opv_extract rfl rfl) ?_
    refine salloc rfl zi25 ?_
    refine sstore sz25 rfl rfl rfl rfl (Nat.le_of_ble_eq_true rfl) ?_
    refine smem [.box [.sl a0.Buf.length (a0.Buf.flatMap eU8), .i .i64 a0.Dead], .box [.sl v4.1.Buf.length (v4.1.Buf.flatMap eU8), .i .i64 v4.1.Dead], .box [.sl v5.1.Buf.length (v5.1.Buf.flatMap eU8), .i .i64 v5.1.Dead]] rfl ?_
    refine sv rfl (opv_as rfl) ?_
    refine sv rfl (opv_as rfl) ?_
    refine snil ?_
    refine cseq ?_
    refine cdraw mixed (by kernel_rfl) ?_
    refine dv rfl (opv_mv rfl) ?_
    refine dv rfl (opv_mv rfl) ?_
    refine dsplit 39 rfl (fun hc => ?_) (fun hc => ?_)
    · replace h := ite_t hc h
      clear hc
      refine dvg rfl rfl rfl (opv_loadN ti27 rfl (.lp _ _ _ rfl) (Nat.le_of_ble_eq_true rfl)) ?_
      obtain ⟨v6, hv6, h⟩ := bind_eq h
      refine ddg rfl rfl rfl (opD_call fn15 (opnds_cons rfl opnds_nil) rfl (m15_l04_theirs_c hv6)) ?_
      refine dvg rfl rfl rfl (opv_loadN ti25 rfl (.lp _ _ _ rfl) (Nat.le_of_ble_eq_true rfl)) ?_
      obtain ⟨v7, hv7, h⟩ := bind_eq h
      refine ddg rfl rfl rfl (opD_call fn14 (opnds_cons rfl (opnds_cons rfl opnds_nil)) rfl (m14_r04_Same_c hv7)) ?_
      refine dv rfl (opv_pick_t rfl rfl) ?_
      refine dv rfl (opv_mv rfl) ?_
      refine dsplit 45 rfl (fun hc => ?_) (fun hc => ?_)
      · replace h := ite_t hc h
        clear hc
        refine dvg rfl rfl rfl (opv_mv rfl) ?_
        refine dvg rfl rfl rfl (opv_mv rfl) ?_
        obtain ⟨v8, hv8, h⟩ := bind_eq h
        refine ddg rfl rfl rfl (opD_call fn16 (opnds_cons rfl (opnds_cons rfl opnds_nil)) rfl (m16_r03_Lists_c hv8)) ?_
        refine dv rfl (opv_pick_t rfl rfl) ?_
        refine dv rfl (opv_mv rfl) ?_
        refine dsplit 50 rfl (fun hc => ?_) (fun hc => ?_)
        · replace h := ite_t hc h
          clear hc
          refine dvg rfl rfl rfl (opv_mv rfl) ?_
          refine dvg rfl rfl rfl (opv_mv rfl) ?_
          refine dvg rfl rfl rfl (opv_ieql rfl rfl) ?_
          refine dv rfl (opv_pick_t rfl rfl) ?_
          refine dv rfl (opv_mv rfl) ?_
          refine dsplit 55 rfl (fun hc => ?_) (fun hc => ?_)
          · replace h := ite_t hc h
            clear hc
            refine dvg rfl rfl rfl (opv_loadN ti25 rfl (.lp _ _ _ rfl) (Nat.le_of_ble_eq_true rfl)) ?_
            obtain ⟨v9, hv9, h⟩ := bind_eq h
            refine ddg rfl rfl rfl (opD_call fn12 (opnds_cons rfl opnds_nil) rfl (m12_l04_ours_c hv9)) ?_
            obtain ⟨v10, hv10, h⟩ := bind_eq h
            refine ddg rfl rfl rfl (opD_call fn17 (opnds_cons rfl opnds_nil) rfl (m17_stream_Sane_c hv10)) ?_
            refine dvg rfl rfl rfl (opv_loadN ti25 rfl (.lp _ _ _ rfl) (Nat.le_of_ble_eq_true rfl)) ?_
            obtain ⟨v11, hv11, h⟩ := bind_eq h
            refine ddg rfl rfl rfl (opD_call fn18 (opnds_cons rfl opnds_nil) rfl (m18_r04_Sane_c hv11)) ?_
            refine dvg rfl rfl rfl (opv_beql Try.underlying4 rfl rfl) ?_
            refine dv rfl (opv_pick_t rfl rfl) ?_
            refine dv rfl (opv_mv rfl) ?_
            refine dsplit 63 rfl (fun hc => ?_) (fun hc => ?_)
            · replace h := ite_t hc h
              clear hc
              refine dvg rfl rfl rfl (opv_loadN ti25 rfl (.lp _ _ _ rfl) (Nat.le_of_ble_eq_true rfl)) ?_
              obtain ⟨v12, hv12, h⟩ := bind_eq h
              refine ddg rfl rfl rfl (opD_call fn12 (opnds_cons rfl opnds_nil) rfl (m12_l04_ours_c hv12)) ?_
              obtain ⟨v13, hv13, h⟩ := bind_eq h
              refine ddg rfl rfl rfl (opD_call fn19 (opnds_cons rfl opnds_nil) rfl (m19_stream_Wants_c hv13)) ?_
              refine dvg rfl rfl rfl (opv_loadN ti25 rfl (.lp _ _ _ rfl) (Nat.le_of_ble_eq_true rfl)) ?_
              obtain ⟨v14, hv14, h⟩ := bind_eq h
              refine ddg rfl rfl rfl (opD_call fn20 (opnds_cons rfl opnds_nil) rfl (m20_r04_Wants_c hv14)) ?_
              refine dvg rfl rfl rfl (opv_ieql rfl rfl) ?_
              refine dv rfl (opv_pick_t rfl rfl) ?_
              refine dv rfl (opv_as rfl) ?_
              refine dnil ?_
              refine then_normal ?_
              refine cret ?_
              obtain rfl := Option.some.inj h
              refine ⟨Or.inr rfl, _, _, _, (resVs_cons (ResV.tmp _ _ rfl) resVs_nil), (pubA_id rfl), ?_⟩
              rfl
            · replace h := ite_f hc h
              clear hc
              refine doff rfl rfl rfl rfl ?_
              refine doff rfl rfl rfl rfl ?_
              refine doff rfl rfl rfl rfl ?_
              refine doff rfl rfl rfl rfl ?_
              refine doff rfl rfl rfl rfl ?_
              refine doff rfl rfl rfl rfl ?_
              refine dv rfl (opv_pick_f rfl rfl) ?_
              refine dv rfl (opv_as rfl) ?_
              refine dnil ?_
              refine then_normal ?_
              refine cret ?_
              obtain rfl := Option.some.inj h
              refine ⟨Or.inr rfl, _, _, _, (resVs_cons (ResV.tmp _ _ rfl) resVs_nil), (pubA_id rfl), ?_⟩
              rfl
          · replace h := ite_f hc h
            clear hc
            refine doff rfl rfl rfl rfl ?_
            refine doff rfl rfl rfl rfl ?_
            refine doff rfl rfl rfl rfl ?_
            refine doff rfl rfl rfl rfl ?_
            refine doff rfl rfl rfl rfl ?_
            refine doff rfl rfl rfl rfl ?_
            refine dv rfl (opv_pick_f rfl rfl) ?_
            refine dv rfl (opv_mv rfl) ?_
            refine doff rfl rfl rfl rfl ?_
            refine doff rfl rfl rfl rfl ?_
            refine doff rfl rfl rfl rfl ?_
            refine doff rfl rfl rfl rfl ?_
            refine doff rfl rfl rfl rfl ?_
            refine doff rfl rfl rfl rfl ?_
            refine dv rfl (opv_pick_f rfl rfl) ?_
            refine dv rfl (opv_as rfl) ?_
            refine dnil ?_
            refine then_normal ?_
            refine cret ?_
            obtain rfl := Option.some.inj h
            refine ⟨Or.inr rfl, _, _, _, (resVs_cons (ResV.tmp _ _ rfl) resVs_nil), (pubA_id rfl), ?_⟩
            rfl
        · replace h := ite_f hc h
          clear hc
          refine doff rfl rfl rfl rfl ?_
          refine doff rfl rfl rfl rfl ?_
          refine doff rfl rfl rfl rfl ?_
          refine dv rfl (opv_pick_f rfl rfl) ?_
          refine dv rfl (opv_mv rfl) ?_
          refine doff rfl rfl rfl rfl ?_
          refine doff rfl rfl rfl rfl ?_
          refine doff rfl rfl rfl rfl ?_
          refine doff rfl rfl rfl rfl ?_
          refine doff rfl rfl rfl rfl ?_
          refine doff rfl rfl rfl rfl ?_
          refine dv rfl (opv_pick_f rfl rfl) ?_
          refine dv rfl (opv_mv rfl) ?_
          refine doff rfl rfl rfl rfl ?_
          refine doff rfl rfl rfl rfl ?_
          refine doff rfl rfl rfl rfl ?_
          refine doff rfl rfl rfl rfl ?_
          refine doff rfl rfl rfl rfl ?_
          refine doff rfl rfl rfl rfl ?_
          refine dv rfl (opv_pick_f rfl rfl) ?_
          refine dv rfl (opv_as rfl) ?_
          refine dnil ?_
          refine then_normal ?_
          refine cret ?_
          obtain rfl := Option.some.inj h
          refine ⟨Or.inr rfl, _, _, _, (resVs_cons (ResV.tmp _ _ rfl) resVs_nil), (pubA_id rfl), ?_⟩
          rfl
      · replace h := ite_f hc h
        clear hc
        refine doff rfl rfl rfl rfl ?_
        refine doff rfl rfl rfl rfl ?_
        refine doff rfl rfl rfl rfl ?_
        refine dv rfl (opv_pick_f rfl rfl) ?_
        refine dv rfl (opv_mv rfl) ?_
        refine doff rfl rfl rfl rfl ?_
        refine doff rfl rfl rfl rfl ?_
        refine doff rfl rfl rfl rfl ?_
        refine dv rfl (opv_pick_f rfl rfl) ?_
        refine dv rfl (opv_mv rfl) ?_
        refine doff rfl rfl rfl rfl ?_
        refine doff rfl rfl rfl rfl ?_
        refine doff rfl rfl rfl rfl ?_
        refine doff rfl rfl rfl rfl ?_
        refine doff rfl rfl rfl rfl ?_
        refine doff rfl rfl rfl rfl ?_
        refine dv rfl (opv_pick_f rfl rfl) ?_
        refine dv rfl (opv_mv rfl) ?_
        refine doff rfl rfl rfl rfl ?_
        refine doff rfl rfl rfl rfl ?_
        refine doff rfl rfl rfl rfl ?_
        refine doff rfl rfl rfl rfl ?_
        refine doff rfl rfl rfl rfl ?_
        refine doff rfl rfl rfl rfl ?_
        refine dv rfl (opv_pick_f rfl rfl) ?_
        refine dv rfl (opv_as rfl) ?_
        refine dnil ?_
        refine then_normal ?_
        refine cret ?_
        obtain rfl := Option.some.inj h
        refine ⟨Or.inr rfl, _, _, _, (resVs_cons (ResV.tmp _ _ rfl) resVs_nil), (pubA_id rfl), ?_⟩
        rfl
    · replace h := ite_f hc h
      clear hc
      refine doff rfl rfl rfl rfl ?_
      refine doff rfl rfl rfl rfl ?_
      refine doff rfl rfl rfl rfl ?_
      refine doff rfl rfl rfl rfl ?_
      refine dv rfl (opv_pick_f rfl rfl) ?_
      refine dv rfl (opv_mv rfl) ?_
      refine doff rfl rfl rfl rfl ?_
      refine doff rfl rfl rfl rfl ?_
      refine doff rfl rfl rfl rfl ?_
      refine dv rfl (opv_pick_f rfl rfl) ?_
      refine dv rfl (opv_mv rfl) ?_
      refine doff rfl rfl rfl rfl ?_
      refine doff rfl rfl rfl rfl ?_
      refine doff rfl rfl rfl rfl ?_
      refine dv rfl (opv_pick_f rfl rfl) ?_
      refine dv rfl (opv_mv rfl) ?_
      refine doff rfl rfl rfl rfl ?_
      refine doff rfl rfl rfl rfl ?_
      refine doff rfl rfl rfl rfl ?_
      refine doff rfl rfl rfl rfl ?_
      refine doff rfl rfl rfl rfl ?_
      refine doff rfl rfl rfl rfl ?_
      refine dv rfl (opv_pick_f rfl rfl) ?_
      refine dv rfl (opv_mv rfl) ?_
      refine doff rfl rfl rfl rfl ?_
      refine doff rfl rfl rfl rfl ?_
      refine doff rfl rfl rfl rfl ?_
      refine doff rfl rfl rfl rfl ?_
      refine doff rfl rfl rfl rfl ?_
      refine doff rfl rfl rfl rfl ?_
      refine dv rfl (opv_pick_f rfl rfl) ?_
      refine dv rfl (opv_as rfl) ?_
      refine dnil ?_
      refine then_normal ?_
      refine cret ?_
      obtain rfl := Option.some.inj h
      refine ⟨Or.inr rfl, _, _, _, (resVs_cons (ResV.tmp _ _ rfl) resVs_nil), (pubA_id rfl), ?_⟩
      rfl
  · skip
    refine cregion ?_
    refine sv rfl (opv_fieldAddr_lp fi25_0 rfl) ?_
    refine sv rfl (opv_load1 ti22 rfl (.lp _ _ _ rfl) rfl) ?_
    refine sv rfl (opv_len_sl si22 rfl) ?_
    refine sv rfl (opv_gtr rfl rfl) ?_
    refine sv rfl (opv_mv rfl) ?_
    refine ssplit 17 rfl (fun hc => ?_) (fun hc => ?_)
    · replace h := ite_t hc h
      clear hc
      refine soff rfl rfl rfl rfl ?_
      refine soff rfl rfl rfl rfl ?_
      refine soff rfl rfl rfl rfl ?_
      refine sv rfl (opv_pick_t rfl rfl) ?_
      refine snil ?_
      refine ccond rfl (fun _ => ?_) (fun hx => Bool.noConfusion hx)
      refine cseq ?_
      refine cregion ?_
      refine sv rfl (opv_mv rfl) ?_
      refine sv rfl (opv_as rfl) ?_
      refine snil ?_
      refine cret ?_
      refine then_ret ?_
      obtain rfl := Option.some.inj h
      refine ⟨Or.inr rfl, _, _, _, (resVs_cons (ResV.tmp _ _ rfl) resVs_nil), (pubA_id rfl), ?_⟩
      rfl
    · replace h := ite_f hc h
      clear hc
      refine son rfl rfl rfl ?_
      refine sv rfl (opv_mv rfl) ?_
      refine son rfl rfl rfl ?_
      refine sv rfl (opv_len_sl si22 rfl) ?_
      refine son rfl rfl rfl ?_
      refine sv rfl (opv_gtr rfl rfl) ?_
      refine sv rfl (opv_pick_f rfl rfl) ?_
      refine snil ?_
      refine ccond rfl (fun hc => ?_) (fun hc => ?_)
      · replace h := ite_t hc h
        clear hc
        refine cseq ?_
        refine cregion ?_
        refine sv rfl (opv_mv rfl) ?_
        refine sv rfl (opv_as rfl) ?_
        refine snil ?_
        refine cret ?_
        refine then_ret ?_
        obtain rfl := Option.some.inj h
        refine ⟨Or.inr rfl, _, _, _, (resVs_cons (ResV.tmp _ _ rfl) resVs_nil), (pubA_id rfl), ?_⟩
        rfl
      · replace h := ite_f hc h
        clear hc
        refine cskip ?_
        refine then_normal ?_
        exact ⟨(), _, h, ⟨rfl, rfl, rfl, trivial⟩, rfl⟩

def m21_l04_fed_k1 (b1 : Int × (List UInt8) × Int × (List (List UInt8))) : Option (GStreamStream × (List (List UInt8)) × Int) :=
  some ((GStreamStream.mk b1.2.1 b1.2.2.1), b1.2.2.2, b1.1)

def m21_l04_fed_s2 (a0 : List (List UInt8)) (s2 : Int × Int × (List UInt8) × Int × (List (List UInt8))) : Option (LB (Int × Int × (List UInt8) × Int × (List (List UInt8))) (Int × (List UInt8) × Int × (List (List UInt8)))) :=
  if (decide (s2.2.1 < (a0.length : Int))) then ((idx a0 s2.2.1).bind fun u3 => (m11_stream_Feed (GStreamStream.mk s2.2.2.1 s2.2.2.2.1) u3).bind fun v4 => if (s2.2.2.2.2.length + v4.2.1.length) * 24 ≤ 140737488355328 then (if (decide (s2.1 = 0)) then (some (.cont (v4.2.2, (wI (s2.2.1 + 1)), v4.1.Buf, v4.1.Dead, (s2.2.2.2.2 ++ v4.2.1)))) else (some (.cont (s2.1, (wI (s2.2.1 + 1)), v4.1.Buf, v4.1.Dead, (s2.2.2.2.2 ++ v4.2.1))))) else none) else (some (.brk (s2.1, s2.2.2.1, s2.2.2.2.1, s2.2.2.2.2)))
def m21_l04_fed (a0 : List (List UInt8)) : Option (GStreamStream × (List (List UInt8)) × Int) :=
  (iterB (m21_l04_fed_s2 a0) fuel (0, 0, ([] : List UInt8), 0, ([] : List (List UInt8)))).bind fun e6 => m21_l04_fed_k1 e6

set_option maxRecDepth 100000 in
theorem m21_l04_fed_c {a0 : List (List UInt8)} {r : GStreamStream × (List (List UInt8)) × Int} (h : m21_l04_fed a0 = some r) : CallsA Try.prog 21 [.one (.sl a0.length (a0.flatMap (eL eU8)))] (· = .tup [.agg [.sl r.1.Buf.length (r.1.Buf.flatMap eU8), .i .i64 r.1.Dead], .one (.sl r.2.1.length (r.2.1.flatMap (eL eU8))), .one (.i .i64 r.2.2)]) := by
  unfold m21_l04_fed at h
  refine callsA_of Try.func21 rfl (nt := 39) rfl (Nat.le_of_ble_eq_true rfl) ?_
  intro w0 S0
  refine cseq ?_
  refine cregion ?_
  refine salloc rfl zi27 ?_
  refine sv rfl (opv_as rfl) ?_
  refine sv rfl (opv_as rfl) ?_
  refine snil ?_
  refine cseq ?_
  refine cregion ?_
  refine sv rfl (opv_build zi27 pi27 parts_nil (.nil _)) ?_
  refine salloc rfl zi27 ?_
  refine sstore sz27 rfl rfl rfl rfl (Nat.le_of_ble_eq_true rfl) ?_
  refine smem [.box [.raw (.slice none 0 0), .i .i64 0], .box [.raw (.slice none 0 0), .i .i64 0]] rfl ?_
  refine snil ?_
  refine cseq ?_
  refine cregion ?_
  refine sv rfl (opv_as rfl) ?_
  refine snil ?_
  refine cseq ?_
  refine cregion ?_
  refine sv rfl (opv_as rfl) ?_
  refine snil ?_
  refine cseq ?_
  refine cseq ?_
  refine cregion ?_
  refine sv rfl (opv_as rfl) ?_
  refine snil ?_
  refine sadopt_c 22 1 7 (by decide) rfl ?_
  refine cjoin (Int × (List UInt8) × Int × (List (List UInt8))) (fun b1 => [(2, .s (.one (.lp 0 0))), (5, .s (.one (.lp 1 0))), (6, .s (.one (.i .i64 b1.1))), (7, .s (.one (.ls 2 b1.2.2.2.length)))]) (fun b1 => [.box [.raw (.slice none 0 0), .i .i64 0], .box [.sl b1.2.1.length (b1.2.1.flatMap eU8), .i .i64 b1.2.2.1], .arr 22 1 0 (b1.2.2.2.flatMap (eL eU8))]) (fun b1 => m21_l04_fed_k1 b1 = some r) (fun _ _ => inbL_of rfl) (fun _ _ => blkinb_of rfl) (fun _ _ => Nat.le_of_ble_eq_true rfl) (fun b1 h => ?_) ?_
  · unfold m21_l04_fed_k1 at h
    refine cseq ?_
    refine cregion ?_
    refine sv rfl (opv_loadN ti27 rfl (.lp _ _ _ rfl) (Nat.le_of_ble_eq_true rfl)) ?_
    refine sv rfl (opv_mv rfl) ?_
    refine sv rfl (opv_mv rfl) ?_
    refine sstore sz27 rfl rfl rfl rfl (Nat.le_of_ble_eq_true rfl) ?_
    refine smem [.box [.sl b1.2.1.length (b1.2.1.flatMap eU8), .i .i64 b1.2.2.1], .box [.sl b1.2.1.length (b1.2.1.flatMap eU8), .i .i64 b1.2.2.1], .arr 22 1 0 (b1.2.2.2.flatMap (eL eU8))] rfl ?_
    refine sv rfl (opv_as rfl) ?_
    refine sv rfl (opv_as rfl) ?_
    refine snil ?_
    refine cret ?_
    obtain rfl := Option.some.inj h
    refine ⟨Or.inr rfl, _, _, _, (resVs_cons (ResV.agg _ _ _ _ _ ti27 rfl (.lp _ _ _ rfl) (Nat.le_of_ble_eq_true rfl)) (resVs_cons (ResV.tmp _ _ rfl) (resVs_cons (ResV.tmp _ _ rfl) resVs_nil))), (by (repeat' first | exact PubA.nil _ | apply PubA.cons | apply PubV.one | apply PubV.agg | exact PubL.nil | exact PubL.ls _ _ _ _ _ _ rfl (flat_len (f := (eL eU8)) (fun _ => rfl) _).symm | exact PubL.id _ rfl | exact PubLs.nil _ | apply PubLs.cons)), ?_⟩
    rfl
  · skip
    refine cblock ?_
    refine cpubbox 1 0 rfl rfl PubL.nil rfl ?_
    obtain ⟨x2, hx2, ho2⟩ := bind_eq h
    refine awc_loop (G := Nat × (Int × Int × (List UInt8) × Int × (List (List UInt8)))) (fun g => [(0, .s (.one (.sl a0.length (a0.flatMap (eL eU8))))), (2, .s (.one (.lp 0 0))), (5, .s (.one (.lp 1 0))), (6, .s (.one (.i .i64 g.2.1))), (7, .s (.one (.ls 2 g.2.2.2.2.2.length))), (8, .s (.one (.i .i64 g.2.2.1)))]) (fun g => [.box [.raw (.slice none 0 0), .i .i64 0], .box [.sl g.2.2.2.1.length (g.2.2.2.1.flatMap eU8), .i .i64 g.2.2.2.2.1], .arr 22 1 0 (g.2.2.2.2.2.flatMap (eL eU8))]) (fun g => iterB (m21_l04_fed_s2 a0) g.1 g.2 = some x2) (fun g => g.1) (fuel, (0, 0, ([] : List UInt8), 0, ([] : List (List UInt8)))) hx2 ⟨rfl, rfl, rfl, rfl, rfl, rfl, trivial⟩ [] rfl (fun _ _ => inbL_of rfl) (fun _ _ => blkinb_of rfl) (fun _ _ => Nat.le_of_ble_eq_true rfl) ?_
    clear hx2 h
    rintro ⟨n2, s2⟩ h
    obtain ⟨n2, y2, rfl, h, hk2⟩ := iterB_eq h
    unfold m21_l04_fed_s2 at h
    refine cseq ?_
    refine cseq ?_
    refine cregion ?_
    refine sv rfl (opv_mv rfl) ?_
    refine sv rfl (opv_mv rfl) ?_
    refine sv rfl (opv_len_sl si28 rfl) ?_
    refine sv rfl (opv_lss rfl rfl) ?_
    refine snil ?_
    refine ccond rfl (fun hc => ?_) (fun hc => ?_)
    · replace h := ite_t hc h
      clear hc
      refine cskip ?_
      refine then_normal ?_
      refine cseq ?_
      refine cblock ?_
      refine cseq ?_
      refine chole ?_
      obtain ⟨u3, hu3, h⟩ := bind_eq h
      obtain ⟨v4, hv4, h⟩ := bind_eq h
      refine cdraw_e [10, 11] [0, 0, 0, 6, 14, 31, 63, 127, 127, 127, 0, 1279, 3583, 8191] [[.box [.raw (.slice none 0 0), .i .i64 0], .box [.sl s2.2.2.1.length (s2.2.2.1.flatMap eU8), .i .i64 s2.2.2.2.1], .arr 22 1 0 (s2.2.2.2.2.flatMap (eL eU8)), .hole], [.box [.raw (.slice none 0 0), .i .i64 0], .box [.sl s2.2.2.1.length (s2.2.2.1.flatMap eU8), .i .i64 s2.2.2.2.1], .arr 22 1 0 (s2.2.2.2.2.flatMap (eL eU8)), .box [.raw (.slice none 0 0), .i .i64 0]], [.box [.raw (.slice none 0 0), .i .i64 0], .box [.sl s2.2.2.1.length (s2.2.2.1.flatMap eU8), .i .i64 s2.2.2.2.1], .arr 22 1 0 (s2.2.2.2.2.flatMap (eL eU8)), .box [.sl v4.1.Buf.length (v4.1.Buf.flatMap eU8), .i .i64 v4.1.Dead]]] (by kernel_rfl) mixed (by kernel_rfl) (by decide) rfl rfl rfl rfl ?_
      refine ev (sees_all (md := [.box [.raw (.slice none 0 0), .i .i64 0], .box [.sl s2.2.2.1.length (s2.2.2.1.flatMap eU8), .i .i64 s2.2.2.2.1], .arr 22 1 0 (s2.2.2.2.2.flatMap (eL eU8)), .dead]) ⟨⟨rfl, ⟨rfl, ⟨rfl, ⟨trivial, trivial⟩⟩⟩⟩, ⟨⟨rfl, ⟨rfl, ⟨rfl, ⟨trivial, trivial⟩⟩⟩⟩, ⟨⟨rfl, ⟨rfl, ⟨rfl, ⟨trivial, trivial⟩⟩⟩⟩, trivial⟩⟩⟩) rfl rfl (opv_loadN ti27 rfl (.lp _ _ _ rfl) (Nat.le_of_ble_eq_true rfl)) ?_
      refine ev (sees_all (md := [.box [.raw (.slice none 0 0), .i .i64 0], .box [.sl s2.2.2.1.length (s2.2.2.1.flatMap eU8), .i .i64 s2.2.2.2.1], .arr 22 1 0 (s2.2.2.2.2.flatMap (eL eU8)), .dead]) ⟨⟨rfl, ⟨rfl, ⟨rfl, ⟨trivial, trivial⟩⟩⟩⟩, ⟨⟨rfl, ⟨rfl, ⟨rfl, ⟨trivial, trivial⟩⟩⟩⟩, ⟨⟨rfl, ⟨rfl, ⟨rfl, ⟨trivial, trivial⟩⟩⟩⟩, trivial⟩⟩⟩) rfl rfl (opv_mv rfl) ?_
      refine ev (sees_all (md := [.box [.raw (.slice none 0 0), .i .i64 0], .box [.sl s2.2.2.1.length (s2.2.2.1.flatMap eU8), .i .i64 s2.2.2.2.1], .arr 22 1 0 (s2.2.2.2.2.flatMap (eL eU8)), .dead]) ⟨⟨rfl, ⟨rfl, ⟨rfl, ⟨trivial, trivial⟩⟩⟩⟩, ⟨⟨rfl, ⟨rfl, ⟨rfl, ⟨trivial, trivial⟩⟩⟩⟩, ⟨⟨rfl, ⟨rfl, ⟨rfl, ⟨trivial, trivial⟩⟩⟩⟩, trivial⟩⟩⟩) rfl rfl (opv_mv rfl) ?_
      refine ev (sees_all (md := [.box [.raw (.slice none 0 0), .i .i64 0], .box [.sl s2.2.2.1.length (s2.2.2.1.flatMap eU8), .i .i64 s2.2.2.2.1], .arr 22 1 0 (s2.2.2.2.2.flatMap (eL eU8)), .dead]) ⟨⟨rfl, ⟨rfl, ⟨rfl, ⟨trivial, trivial⟩⟩⟩⟩, ⟨⟨rfl, ⟨rfl, ⟨rfl, ⟨trivial, trivial⟩⟩⟩⟩, ⟨⟨rfl, ⟨rfl, ⟨rfl, ⟨trivial, trivial⟩⟩⟩⟩, trivial⟩⟩⟩) rfl rfl (opv_ix (f := (eL eU8)) si28 (fun _ => rfl) rfl rfl rfl rfl hu3) ?_
      refine ev (sees_all (md := [.box [.raw (.slice none 0 0), .i .i64 0], .box [.sl s2.2.2.1.length (s2.2.2.1.flatMap eU8), .i .i64 s2.2.2.2.1], .arr 22 1 0 (s2.2.2.2.2.flatMap (eL eU8)), .dead]) ⟨⟨rfl, ⟨rfl, ⟨rfl, ⟨trivial, trivial⟩⟩⟩⟩, ⟨⟨rfl, ⟨rfl, ⟨rfl, ⟨trivial, trivial⟩⟩⟩⟩, ⟨⟨rfl, ⟨rfl, ⟨rfl, ⟨trivial, trivial⟩⟩⟩⟩, trivial⟩⟩⟩) rfl rfl (opv_load1 ti22 rfl (.cp _) rfl) ?_
      refine ed (sees_all (md := [.box [.raw (.slice none 0 0), .i .i64 0], .box [.sl s2.2.2.1.length (s2.2.2.1.flatMap eU8), .i .i64 s2.2.2.2.1], .arr 22 1 0 (s2.2.2.2.2.flatMap (eL eU8)), .dead]) ⟨⟨rfl, ⟨rfl, ⟨rfl, ⟨trivial, trivial⟩⟩⟩⟩, ⟨⟨rfl, ⟨rfl, ⟨rfl, ⟨trivial, trivial⟩⟩⟩⟩, ⟨⟨rfl, ⟨rfl, ⟨rfl, ⟨trivial, trivial⟩⟩⟩⟩, trivial⟩⟩⟩) rfl rfl (opD_call fn11 (opnds_cons rfl (opnds_cons rfl opnds_nil)) rfl (m11_stream_Feed_c hv4)) ?_
      refine ev (sees_all (md := [.box [.raw (.slice none 0 0), .i .i64 0], .box [.sl s2.2.2.1.length (s2.2.2.1.flatMap eU8), .i .i64 s2.2.2.2.1], .arr 22 1 0 (s2.2.2.2.2.flatMap (eL eU8)), .dead]) ⟨⟨rfl, ⟨rfl, ⟨rfl, ⟨trivial, trivial⟩⟩⟩⟩, ⟨⟨rfl, ⟨rfl, ⟨rfl, ⟨trivial, trivial⟩⟩⟩⟩, ⟨⟨rfl, ⟨rfl, ⟨rfl, ⟨trivial, trivial⟩⟩⟩⟩, trivial⟩⟩⟩) rfl rfl (opv_mvt rfl) ?_
      refine ev (sees_all (md := [.box [.raw (.slice none 0 0), .i .i64 0], .box [.sl s2.2.2.1.length (s2.2.2.1.flatMap eU8), .i .i64 s2.2.2.2.1], .arr 22 1 0 (s2.2.2.2.2.flatMap (eL eU8)), .dead]) ⟨⟨rfl, ⟨rfl, ⟨rfl, ⟨trivial, trivial⟩⟩⟩⟩, ⟨⟨rfl, ⟨rfl, ⟨rfl, ⟨trivial, trivial⟩⟩⟩⟩, ⟨⟨rfl, ⟨rfl, ⟨rfl, ⟨trivial, trivial⟩⟩⟩⟩, trivial⟩⟩⟩) rfl rfl (opv_extract rfl rfl) ?_
      refine ev (sees_all (md := [.box [.raw (.slice none 0 0), .i .i64 0], .box [.sl s2.2.2.1.length (s2.2.2.1.flatMap eU8), .i .i64 s2.2.2.2.1], .arr 22 1 0 (s2.2.2.2.2.flatMap (eL eU8)), .dead]) ⟨⟨rfl, ⟨rfl, ⟨rfl, ⟨trivial, trivial⟩⟩⟩⟩, ⟨⟨rfl, ⟨rfl, ⟨rfl, ⟨trivial, trivial⟩⟩⟩⟩, ⟨⟨rfl, ⟨rfl, ⟨rfl, ⟨trivial, trivial⟩⟩⟩⟩, trivial⟩⟩⟩) rfl rfl (opv_extract rfl rfl) ?_
      refine ev (sees_all (md := [.box [.raw (.slice none 0 0), .i .i64 0], .box [.sl s2.2.2.1.length (s2.2.2.1.flatMap eU8), .i .i64 s2.2.2.2.1], .arr 22 1 0 (s2.2.2.2.2.flatMap (eL eU8)), .dead]) ⟨⟨rfl, ⟨rfl, ⟨rfl, ⟨trivial, trivial⟩⟩⟩⟩, ⟨⟨rfl, ⟨rfl, ⟨rfl, ⟨trivial, trivial⟩⟩⟩⟩, ⟨⟨rfl, ⟨rfl, ⟨rfl, ⟨trivial, trivial⟩⟩⟩⟩, trivial⟩⟩⟩) rfl rfl (opv_extract rfl rfl) ?_
      refine ee (x := .s (.one (.lp 3 0))) 0 rfl rfl rfl rfl rfl (fun ζ => ?_) ?_
      · refine salloc_at 3 rfl zi27 rfl ?_
        exact eend
      refine ee0 1 rfl rfl rfl rfl (fun ζ => ?_) ?_
      · refine sstore sz27 rfl rfl rfl rfl (Nat.le_of_ble_eq_true rfl) ?_
        refine smem [.box [.raw (.slice none 0 0), .i .i64 0], .box [.sl s2.2.2.1.length (s2.2.2.1.flatMap eU8), .i .i64 s2.2.2.2.1], .arr 22 1 0 (s2.2.2.2.2.flatMap (eL eU8)), .box [.sl v4.1.Buf.length (v4.1.Buf.flatMap eU8), .i .i64 v4.1.Dead]] rfl ?_
        exact eend
      refine ev (sees_at 2 rfl rfl) rfl rfl (opv_as rfl) ?_
      refine ev (sees_at 2 rfl rfl) rfl rfl (opv_as rfl) ?_
      refine enil ?_
      refine then_normal ?_
      refine cseq ?_
      refine cregion ?_
      refine sv rfl (opv_loadN ti27 rfl (.lp _ _ _ rfl) (Nat.le_of_ble_eq_true rfl)) ?_
      refine sstore sz27 rfl rfl rfl rfl (Nat.le_of_ble_eq_true rfl) ?_
      refine smem [.box [.raw (.slice none 0 0), .i .i64 0], .box [.sl v4.1.Buf.length (v4.1.Buf.flatMap eU8), .i .i64 v4.1.Dead], .arr 22 1 0 (s2.2.2.2.2.flatMap (eL eU8)), .box [.sl v4.1.Buf.length (v4.1.Buf.flatMap eU8), .i .i64 v4.1.Dead]] rfl ?_
      refine snil ?_
      refine cseq ?_
      refine cregion ?_
      refine sv rfl (opv_mv rfl) ?_
      refine sv rfl (opv_mv rfl) ?_
      obtain ⟨hb5, h⟩ := chk_eq h
      refine sapp (f := (eL eU8)) (xs := s2.2.2.2.2) (us := v4.2.1) rfl Try.underlying28 ei22 ni28 (fun _ => rfl) rfl rfl (.one _ _ _ _ (.id _ rfl)) rfl rfl rfl (.sl _ _ _ (flat_len (f := (eL eU8)) (fun _ => rfl) _)) rfl rfl hb5 (by decide) ?_
      refine sv rfl (opv_as rfl) ?_
      refine snil ?_
      refine cseq ?_
      refine cregion ?_
      refine sv rfl (opv_mv rfl) ?_
      refine sv rfl (opv_ieql rfl rfl) ?_
      refine snil ?_
      refine ccond rfl (fun hc => ?_) (fun hc => ?_)
      · replace h := ite_t hc h
        clear hc
        refine cregion ?_
        refine sv rfl (opv_mv rfl) ?_
        refine sv rfl (opv_as rfl) ?_
        refine snil0 ?_
        refine block_normal ?_
        refine then_normal ?_
        refine cregion ?_
        refine sv rfl (opv_mv rfl) ?_
        refine sv rfl (opv_add rfl rfl) ?_
        refine sv rfl (opv_as rfl) ?_
        refine snil ?_
        obtain rfl := Option.some.inj h
        exact ⟨(n2, (v4.2.2, (wI (s2.2.1 + 1)), v4.1.Buf, v4.1.Dead, (s2.2.2.2.2 ++ v4.2.1))), _, hk2, ⟨rfl, rfl, rfl, rfl, rfl, rfl, trivial⟩, rfl, Nat.lt_succ_self _⟩
      · replace h := ite_f hc h
        clear hc
        refine cskip ?_
        refine block_normal ?_
        refine then_normal ?_
        refine cregion ?_
        refine sv rfl (opv_mv rfl) ?_
        refine sv rfl (opv_add rfl rfl) ?_
        refine sv rfl (opv_as rfl) ?_
        refine snil ?_
        obtain rfl := Option.some.inj h
        exact ⟨(n2, (s2.1, (wI (s2.2.1 + 1)), v4.1.Buf, v4.1.Dead, (s2.2.2.2.2 ++ v4.2.1))), _, hk2, ⟨rfl, rfl, rfl, rfl, rfl, rfl, trivial⟩, rfl, Nat.lt_succ_self _⟩
    · replace h := ite_f hc h
      clear hc
      refine cexit ?_
      refine then_exit ?_
      refine then_exit ?_
      refine block_hit ?_
      refine then_normal ?_
      obtain rfl := Option.some.inj h
      obtain rfl : _ = x2 := hk2
      exact ⟨(s2.1, s2.2.2.1, s2.2.2.2.1, s2.2.2.2.2), _, ho2, ⟨rfl, rfl, rfl, rfl, trivial⟩, rfl⟩

def m4_l04_StreamCuts_k3 (a0 : List UInt8) (v1 : Bool) (b3 : Int × (List (List UInt8))) : Option Bool :=
  (cut a0 b3.1 (a0.length : Int)).bind fun c4 => if (b3.2.length + [c4].length) * 24 ≤ 140737488355328 then ((m21_l04_fed (b3.2 ++ [c4])).bind fun v6 => (m21_l04_fed [a0]).bind fun v7 => if v1 then ((m15_l04_theirs v6.1).bind fun v8 => (m15_l04_theirs v7.1).bind fun v9 => (m14_r04_Same v8 v9).bind fun v10 => if v10 then ((m16_r03_Lists v6.2.1 v7.2.1).bind fun v11 => if v11 then (if (decide (v6.2.2 = v7.2.2)) then ((m17_stream_Sane v6.1).bind fun v12 => some v12) else (some false)) else (some false)) else (some false)) else (some false)) else none

def m4_l04_StreamCuts_s13 (a0 : List UInt8) (a1 : List Int) (s13 : Int × Int × (List (List UInt8))) : Option (LB (Int × Int × (List (List UInt8))) (Int × (List (List UInt8)))) :=
  if (decide (s13.2.1 < (a1.length : Int))) then ((idx a1 s13.2.1).bind fun u14 => (cut a0 s13.1 (wI (s13.1 + (if (wI ((a0.length : Int) - s13.1)) < (wI ((BitVec.ofInt 64 u14 &&& BitVec.ofInt 64 63).toNat : Int)) then (wI ((a0.length : Int) - s13.1)) else (wI ((BitVec.ofInt 64 u14 &&& BitVec.ofInt 64 63).toNat : Int)))))).bind fun c15 => if (s13.2.2.length + [c15].length) * 24 ≤ 140737488355328 then (some (.cont ((wI (s13.1 + (if (wI ((a0.length : Int) - s13.1)) < (wI ((BitVec.ofInt 64 u14 &&& BitVec.ofInt 64 63).toNat : Int)) then (wI ((a0.length : Int) - s13.1)) else (wI ((BitVec.ofInt 64 u14 &&& BitVec.ofInt 64 63).toNat : Int))))), (wI (s13.2.1 + 1)), (s13.2.2 ++ [c15])))) else none) else (some (.brk (s13.1, s13.2.2)))

def m4_l04_StreamCuts_k2 (a0 : List UInt8) (a1 : List Int) (v1 : Bool) (b2 : Unit) : Option Bool :=
  (iterB (m4_l04_StreamCuts_s13 a0 a1) fuel (0, 0, ([] : List (List UInt8)))).bind fun e17 => m4_l04_StreamCuts_k3 a0 v1 e17
def m4_l04_StreamCuts (a0 : List UInt8) (a1 : List Int) : Option Bool :=
  (m10_l04_awake).bind fun v1 => if (decide (2000 < (a0.length : Int))) then (some v1) else (if (decide (40 < (a1.length : Int))) then (some v1) else (m4_l04_StreamCuts_k2 a0 a1 v1 ()))

set_option maxRecDepth 100000 in
theorem m4_l04_StreamCuts_c {a0 : List UInt8} {a1 : List Int} {r : Bool} (h : m4_l04_StreamCuts a0 a1 = some r) : CallsA Try.prog 4 [.one (.sl a0.length (a0.flatMap eU8)), .one (.sl a1.length (a1.flatMap eI))] (· = .s (.one (.b r))) := by
  unfold m4_l04_StreamCuts at h
  refine callsA_of Try.func4 rfl (nt := 95) rfl (Nat.le_of_ble_eq_true rfl) ?_
  intro w0 S0
  refine cseq ?_
  refine cregion ?_
  refine sv rfl (opv_as rfl) ?_
  refine snil ?_
  refine cseq ?_
  refine cregion ?_
  obtain ⟨v1, hv1, h⟩ := bind_eq h
  refine scall1 rfl fn10 opnds_nil (pubA_id rfl) (m10_l04_awake_c hv1) ?_
  refine sv rfl (opv_as rfl) ?_
  refine snil ?_
  refine cseq ?_
  refine cseq ?_
  refine cjoin3 (Unit) (fun b2 => [(0, .s (.one (.sl a0.length (a0.flatMap eU8)))), (1, .s (.one (.sl a1.length (a1.flatMap eI)))), (5, .s (.one (.b v1)))]) (fun b2 => []) (fun b2 => m4_l04_StreamCuts_k2 a0 a1 v1 b2 = some r) (fun _ _ => inbL_of rfl) (fun _ _ => blkinb_of rfl) (fun _ _ => Nat.le_of_ble_eq_true rfl) (fun b2 h => ?_) ?_
  · unfold m4_l04_StreamCuts_k2 at h
    refine cseq ?_
    refine cregion ?_
    refine sv rfl (opv_as rfl) ?_
    refine snil ?_
    refine cseq ?_
    refine cregion ?_
    refine sv rfl (opv_as rfl) ?_
    refine snil ?_
    refine cseq ?_
    refine cseq ?_
    refine cregion ?_
    refine sv rfl (opv_as rfl) ?_
    refine snil ?_
    refine sadopt_c 22 1 6 (by decide) rfl ?_
    refine cjoin (Int × (List (List UInt8))) (fun b3 => [(0, .s (.one (.sl a0.length (a0.flatMap eU8)))), (5, .s (.one (.b v1))), (6, .s (.one (.ls 0 b3.2.length))), (7, .s (.one (.i .i64 b3.1)))]) (fun b3 => [.arr 22 1 0 (b3.2.flatMap (eL eU8))]) (fun b3 => m4_l04_StreamCuts_k3 a0 v1 b3 = some r) (fun _ _ => inbL_of rfl) (fun _ _ => blkinb_of rfl) (fun _ _ => Nat.le_of_ble_eq_true rfl) (fun b3 h => ?_) ?_
    · unfold m4_l04_StreamCuts_k3 at h
      refine cseq ?_
      refine cregion ?_
      refine sv rfl (opv_mv rfl) ?_
      refine sv rfl (opv_mv rfl) ?_
      refine sv rfl (opv_mv rfl) ?_
      obtain ⟨c4, hc4, h⟩ := bind_eq h
      refine sv rfl (opv_cut (f := eU8) (lo := b3.1) (hi := (a0.length : Int)) si22 (fun _ => rfl) rfl rfl rfl (bound_some rfl (cut_eq hc4).1.1) (by exact rfl) hc4) ?_
      refine sbuild1 rfl Try.underlying28 ei22 rfl rfl (List.all_eq_true.1 rfl) (by decide) ?_
      refine smem [.arr 22 1 0 (b3.2.flatMap (eL eU8)), .arr 22 1 0 ([c4].flatMap (eL eU8))] rfl ?_
      obtain ⟨hb5, h⟩ := chk_eq h
      refine sapp (f := (eL eU8)) (xs := b3.2) (us := [c4]) rfl Try.underlying28 ei22 ni28 (fun _ => rfl) rfl rfl (.one _ _ _ _ (.ls _ _ _ _ _ _ rfl (flat_len (f := (eL eU8)) (fun _ => rfl) [c4]).symm)) rfl rfl rfl (.sl _ _ _ (flat_len (f := (eL eU8)) (fun _ => rfl) _)) rfl rfl hb5 (by decide) ?_
      refine sv rfl (opv_as rfl) ?_
      refine snil ?_
      refine cseq ?_
      refine cregion ?_
      refine sv rfl (opv_mv rfl) ?_
      refine spub 61 rfl (by (repeat' first | exact PubA.nil _ | apply PubA.cons | apply PubV.one | apply PubV.agg | exact PubL.nil | exact PubL.ls _ _ _ _ _ _ rfl (flat_len (f := (eL eU8)) (fun _ => rfl) _).symm | exact PubL.id _ rfl | exact PubLs.nil _ | apply PubLs.cons)) ?_
      obtain ⟨v6, hv6, h⟩ := bind_eq h
      refine scall1 rfl fn21 (opnds_cons rfl opnds_nil) (pubA_id rfl) (m21_l04_fed_c hv6) ?_
      refine sv rfl (opv_mvt rfl) ?_
      refine sv rfl (opv_extract rfl rfl) ?_
      refine sv rfl (opv_extract rfl rfl) ?_
      refine sv rfl (opv_extract rfl rfl) ?_
      refine salloc rfl zi27 ?_
      refine sstore sz27 rfl rfl rfl rfl (Nat.le_of_ble_eq_true rfl) ?_
      refine smem [.arr 22 1 ((b3.2 ++ [c4]).flatMap (eL eU8)).length ((b3.2 ++ [c4]).flatMap (eL eU8)), .arr 22 1 ([c4].flatMap (eL eU8)).length ([c4].flatMap (eL eU8)), .box [.sl v6.1.Buf.length (v6.1.Buf.flatMap eU8), .i .i64 v6.1.Dead]] rfl ?_
      refine sv rfl (opv_as rfl) ?_
      refine sv rfl (opv_as rfl) ?_
      refine snil ?_
      refine cseq ?_
      refine cregion ?_
      refine sv rfl (opv_mv rfl) ?_
      refine sbuild1 rfl Try.underlying28 ei22 rfl rfl (List.all_eq_true.1 rfl) (by decide) ?_
      refine smem [.arr 22 1 ((b3.2 ++ [c4]).flatMap (eL eU8)).length ((b3.2 ++ [c4]).flatMap (eL eU8)), .arr 22 1 ([c4].flatMap (eL eU8)).length ([c4].flatMap (eL eU8)), .box [.sl v6.1.Buf.length (v6.1.Buf.flatMap eU8), .i .i64 v6.1.Dead], .arr 22 1 0 ([a0].flatMap (eL eU8))] rfl ?_
      refine spub 68 rfl (by (repeat' first | exact PubA.nil _ | apply PubA.cons | apply PubV.one | apply PubV.agg | exact PubL.nil | exact PubL.ls _ _ _ _ _ _ rfl (flat_len (f := (eL eU8)) (fun _ => rfl) ([a0] : List (List UInt8))).symm | exact PubL.ls _ _ _ _ _ _ rfl (flat_len (f := (eL eU8)) (fun _ => rfl) _).symm | exact PubL.id _ rfl | exact PubLs.nil _ | apply PubLs.cons)) ?_
      obtain ⟨v7, hv7, h⟩ := bind_eq h
      refine scall1 rfl fn21 (opnds_cons rfl opnds_nil) (pubA_id rfl) (m21_l04_fed_c hv7) ?_
      refine sv rfl (opv_mvt rfl) ?_
      refine sv rfl (opv_extract rfl rfl) ?_
      refine sv rfl (opv_extract rfl rfl) ?_
      refine sv rfl (opv_extract rfl rfl) ?_
      refine salloc rfl zi27 ?_
      refine sstore sz27 rfl rfl rfl rfl (Nat.le_of_ble_eq_true rfl) ?_
      refine smem [.arr 22 1 ((b3.2 ++ [c4]).flatMap (eL eU8)).length ((b3.2 ++ [c4]).flatMap (eL eU8)), .arr 22 1 ([c4].flatMap (eL eU8)).length ([c4].flatMap (eL eU8)), .box [.sl v6.1.Buf.length (v6.1.Buf.flatMap eU8), .i .i64 v6.1.Dead], .arr 22 1 ([a0].flatMap (eL eU8)).length ([a0].flatMap (eL eU8)), .box [.sl v7.1.Buf.length (v7.1.Buf.flatMap eU8), .i .i64 v7.1.Dead]] rfl ?_
      refine sv rfl (opv_as rfl) ?_
      refine sv rfl (opv_as rfl) ?_
      refine snil ?_
      refine cseq ?_
      refine cdraw mixed (by kernel_rfl) ?_
      refine dv rfl (opv_mv rfl) ?_
      refine dv rfl (opv_mv rfl) ?_
      refine dsplit 74 rfl (fun hc => ?_) (fun hc => ?_)
      · replace h := ite_t hc h
        clear hc
        refine dvg rfl rfl rfl (opv_loadN ti27 rfl (.lp _ _ _ rfl) (Nat.le_of_ble_eq_true rfl)) ?_
        obtain ⟨v8, hv8, h⟩ := bind_eq h
        refine ddg rfl rfl rfl (opD_call fn15 (opnds_cons rfl opnds_nil) rfl (m15_l04_theirs_c hv8)) ?_
        refine dvg rfl rfl rfl (opv_loadN ti27 rfl (.lp _ _ _ rfl) (Nat.le_of_ble_eq_true rfl)) ?_
        obtain ⟨v9, hv9, h⟩ := bind_eq h
        refine ddg rfl rfl rfl (opD_call fn15 (opnds_cons rfl opnds_nil) rfl (m15_l04_theirs_c hv9)) ?_
        obtain ⟨v10, hv10, h⟩ := bind_eq h
        refine ddg rfl rfl rfl (opD_call fn14 (opnds_cons rfl (opnds_cons rfl opnds_nil)) rfl (m14_r04_Same_c hv10)) ?_
        refine dv rfl (opv_pick_t rfl rfl) ?_
        refine dv rfl (opv_mv rfl) ?_
        refine dsplit 81 rfl (fun hc => ?_) (fun hc => ?_)
        · replace h := ite_t hc h
          clear hc
          refine dvg rfl rfl rfl (opv_mv rfl) ?_
          refine dvg rfl rfl rfl (opv_mv rfl) ?_
          obtain ⟨v11, hv11, h⟩ := bind_eq h
          refine ddg rfl rfl rfl (opD_call fn16 (opnds_cons rfl (opnds_cons rfl opnds_nil)) rfl (m16_r03_Lists_c hv11)) ?_
          refine dv rfl (opv_pick_t rfl rfl) ?_
          refine dv rfl (opv_mv rfl) ?_
          refine dsplit 86 rfl (fun hc => ?_) (fun hc => ?_)
          · replace h := ite_t hc h
            clear hc
            refine dvg rfl rfl rfl (opv_mv rfl) ?_
            refine dvg rfl rfl rfl (opv_mv rfl) ?_
            refine dvg rfl rfl rfl (opv_ieql rfl rfl) ?_
            refine dv rfl (opv_pick_t rfl rfl) ?_
            refine dv rfl (opv_mv rfl) ?_
            refine dsplit 91 rfl (fun hc => ?_) (fun hc => ?_)
            · replace h := ite_t hc h
              clear hc
              refine dvg rfl rfl rfl (opv_loadN ti27 rfl (.lp _ _ _ rfl) (Nat.le_of_ble_eq_true rfl)) ?_
              obtain ⟨v12, hv12, h⟩ := bind_eq h
              refine ddg rfl rfl rfl (opD_call fn17 (opnds_cons rfl opnds_nil) rfl (m17_stream_Sane_c hv12)) ?_
              refine dv rfl (opv_pick_t rfl rfl) ?_
              refine dv rfl (opv_as rfl) ?_
              refine dnil ?_
              refine then_normal ?_
              refine cret ?_
              obtain rfl := Option.some.inj h
              refine ⟨Or.inr rfl, _, _, _, (resVs_cons (ResV.tmp _ _ rfl) resVs_nil), (pubA_id rfl), ?_⟩
              rfl
            · replace h := ite_f hc h
              clear hc
              refine doff rfl rfl rfl rfl ?_
              refine doff rfl rfl rfl rfl ?_
              refine dv rfl (opv_pick_f rfl rfl) ?_
              refine dv rfl (opv_as rfl) ?_
              refine dnil ?_
              refine then_normal ?_
              refine cret ?_
              obtain rfl := Option.some.inj h
              refine ⟨Or.inr rfl, _, _, _, (resVs_cons (ResV.tmp _ _ rfl) resVs_nil), (pubA_id rfl), ?_⟩
              rfl
          · replace h := ite_f hc h
            clear hc
            refine doff rfl rfl rfl rfl ?_
            refine doff rfl rfl rfl rfl ?_
            refine doff rfl rfl rfl rfl ?_
            refine dv rfl (opv_pick_f rfl rfl) ?_
            refine dv rfl (opv_mv rfl) ?_
            refine doff rfl rfl rfl rfl ?_
            refine doff rfl rfl rfl rfl ?_
            refine dv rfl (opv_pick_f rfl rfl) ?_
            refine dv rfl (opv_as rfl) ?_
            refine dnil ?_
            refine then_normal ?_
            refine cret ?_
            obtain rfl := Option.some.inj h
            refine ⟨Or.inr rfl, _, _, _, (resVs_cons (ResV.tmp _ _ rfl) resVs_nil), (pubA_id rfl), ?_⟩
            rfl
        · replace h := ite_f hc h
          clear hc
          refine doff rfl rfl rfl rfl ?_
          refine doff rfl rfl rfl rfl ?_
          refine doff rfl rfl rfl rfl ?_
          refine dv rfl (opv_pick_f rfl rfl) ?_
          refine dv rfl (opv_mv rfl) ?_
          refine doff rfl rfl rfl rfl ?_
          refine doff rfl rfl rfl rfl ?_
          refine doff rfl rfl rfl rfl ?_
          refine dv rfl (opv_pick_f rfl rfl) ?_
          refine dv rfl (opv_mv rfl) ?_
          refine doff rfl rfl rfl rfl ?_
          refine doff rfl rfl rfl rfl ?_
          refine dv rfl (opv_pick_f rfl rfl) ?_
          refine dv rfl (opv_as rfl) ?_
          refine dnil ?_
          refine then_normal ?_
          refine cret ?_
          obtain rfl := Option.some.inj h
          refine ⟨Or.inr rfl, _, _, _, (resVs_cons (ResV.tmp _ _ rfl) resVs_nil), (pubA_id rfl), ?_⟩
          rfl
      · replace h := ite_f hc h
        clear hc
        refine doff rfl rfl rfl rfl ?_
        refine doff rfl rfl rfl rfl ?_
        refine doff rfl rfl rfl rfl ?_
        refine doff rfl rfl rfl rfl ?_
        refine doff rfl rfl rfl rfl ?_
        refine dv rfl (opv_pick_f rfl rfl) ?_
        refine dv rfl (opv_mv rfl) ?_
        refine doff rfl rfl rfl rfl ?_
        refine doff rfl rfl rfl rfl ?_
        refine doff rfl rfl rfl rfl ?_
        refine dv rfl (opv_pick_f rfl rfl) ?_
        refine dv rfl (opv_mv rfl) ?_
        refine doff rfl rfl rfl rfl ?_
        refine doff rfl rfl rfl rfl ?_
        refine doff rfl rfl rfl rfl ?_
        refine dv rfl (opv_pick_f rfl rfl) ?_
        refine dv rfl (opv_mv rfl) ?_
        refine doff rfl rfl rfl rfl ?_
        refine doff rfl rfl rfl rfl ?_
        refine dv rfl (opv_pick_f rfl rfl) ?_
        refine dv rfl (opv_as rfl) ?_
        refine dnil ?_
        refine then_normal ?_
        refine cret ?_
        obtain rfl := Option.some.inj h
        refine ⟨Or.inr rfl, _, _, _, (resVs_cons (ResV.tmp _ _ rfl) resVs_nil), (pubA_id rfl), ?_⟩
        rfl
    · skip
      refine cblock ?_
      obtain ⟨x13, hx13, ho13⟩ := bind_eq h
      refine awc_loop (G := Nat × (Int × Int × (List (List UInt8)))) (fun g => [(0, .s (.one (.sl a0.length (a0.flatMap eU8)))), (1, .s (.one (.sl a1.length (a1.flatMap eI)))), (5, .s (.one (.b v1))), (6, .s (.one (.ls 0 g.2.2.2.length))), (7, .s (.one (.i .i64 g.2.1))), (8, .s (.one (.i .i64 g.2.2.1)))]) (fun g => [.arr 22 1 0 (g.2.2.2.flatMap (eL eU8))]) (fun g => iterB (m4_l04_StreamCuts_s13 a0 a1) g.1 g.2 = some x13) (fun g => g.1) (fuel, (0, 0, ([] : List (List UInt8)))) hx13 ⟨rfl, rfl, rfl, rfl, rfl, rfl, trivial⟩ [] rfl (fun _ _ => inbL_of rfl) (fun _ _ => blkinb_of rfl) (fun _ _ => Nat.le_of_ble_eq_true rfl) ?_
      clear hx13 h
      rintro ⟨n13, s13⟩ h
      obtain ⟨n13, y13, rfl, h, hk13⟩ := iterB_eq h
      unfold m4_l04_StreamCuts_s13 at h
      refine cseq ?_
      refine cseq ?_
      refine cregion ?_
      refine sv rfl (opv_mv rfl) ?_
      refine sv rfl (opv_mv rfl) ?_
      refine sv rfl (opv_len_sl si42 rfl) ?_
      refine sv rfl (opv_lss rfl rfl) ?_
      refine snil ?_
      refine ccond rfl (fun hc => ?_) (fun hc => ?_)
      · replace h := ite_t hc h
        clear hc
        refine cskip ?_
        refine then_normal ?_
        refine cseq ?_
        refine cblock ?_
        refine cseq ?_
        refine cregion ?_
        refine sv rfl (opv_mv rfl) ?_
        refine sv rfl (opv_mv rfl) ?_
        obtain ⟨u14, hu14, h⟩ := bind_eq h
        refine sv rfl (opv_ix (f := eI) si42 (fun _ => rfl) rfl rfl rfl rfl hu14) ?_
        refine sv rfl (opv_load1 ti3 rfl (.cp _) rfl) ?_
        refine sv rfl (opv_and rfl rfl) ?_
        refine sv rfl (opv_mv rfl) ?_
        refine sv rfl (opv_len_sl si22 rfl) ?_
        refine sv rfl (opv_mv rfl) ?_
        refine sv rfl (opv_sub rfl rfl) ?_
        refine sv rfl (opv_min rfl rfl) ?_
        refine sv rfl (opv_as rfl) ?_
        refine snil ?_
        refine cseq ?_
        refine cregion ?_
        refine sv rfl (opv_mv rfl) ?_
        refine sv rfl (opv_mv rfl) ?_
        refine sv rfl (opv_mv rfl) ?_
        refine sv rfl (opv_mv rfl) ?_
        refine sv rfl (opv_mv rfl) ?_
        refine sv rfl (opv_add rfl rfl) ?_
        obtain ⟨c15, hc15, h⟩ := bind_eq h
        refine sv rfl (opv_cut (f := eU8) (lo := s13.1) (hi := (wI (s13.1 + (if (wI ((a0.length : Int) - s13.1)) < (wI ((BitVec.ofInt 64 u14 &&& BitVec.ofInt 64 63).toNat : Int)) then (wI ((a0.length : Int) - s13.1)) else (wI ((BitVec.ofInt 64 u14 &&& BitVec.ofInt 64 63).toNat : Int)))))) si22 (fun _ => rfl) rfl rfl rfl (bound_some rfl (cut_eq hc15).1.1) (bound_some rfl (Int.le_trans (cut_eq hc15).1.1 (cut_eq hc15).1.2.1)) hc15) ?_
        refine sbuild1 rfl Try.underlying28 ei22 rfl rfl (List.all_eq_true.1 rfl) (by decide) ?_
        refine smem [.arr 22 1 0 (s13.2.2.flatMap (eL eU8)), .arr 22 1 0 ([c15].flatMap (eL eU8))] rfl ?_
        obtain ⟨hb16, h⟩ := chk_eq h
        refine sapp (f := (eL eU8)) (xs := s13.2.2) (us := [c15]) rfl Try.underlying28 ei22 ni28 (fun _ => rfl) rfl rfl (.one _ _ _ _ (.ls _ _ _ _ _ _ rfl (flat_len (f := (eL eU8)) (fun _ => rfl) [c15]).symm)) rfl rfl rfl (.sl _ _ _ (flat_len (f := (eL eU8)) (fun _ => rfl) _)) rfl rfl hb16 (by decide) ?_
        refine sv rfl (opv_as rfl) ?_
        refine snil ?_
        refine cregion ?_
        refine sv rfl (opv_mv rfl) ?_
        refine sv rfl (opv_mv rfl) ?_
        refine sv rfl (opv_add rfl rfl) ?_
        refine sv rfl (opv_as rfl) ?_
        refine snil0 ?_
        refine block_normal ?_
        refine then_normal ?_
        refine cregion ?_
        refine sv rfl (opv_mv rfl) ?_
        refine sv rfl (opv_add rfl rfl) ?_
        refine sv rfl (opv_as rfl) ?_
        refine snil ?_
        obtain rfl := Option.some.inj h
        exact ⟨(n13, ((wI (s13.1 + (if (wI ((a0.length : Int) - s13.1)) < (wI ((BitVec.ofInt 64 u14 &&& BitVec.ofInt 64 63).toNat : Int)) then (wI ((a0.length : Int) - s13.1)) else (wI ((BitVec.ofInt 64 u14 &&& BitVec.ofInt 64 63).toNat : Int))))), (wI (s13.2.1 + 1)), (s13.2.2 ++ [c15]))), _, hk13, ⟨rfl, rfl, rfl, rfl, rfl, rfl, trivial⟩, rfl, Nat.lt_succ_self _⟩
      · replace h := ite_f hc h
        clear hc
        refine cexit ?_
        refine then_exit ?_
        refine then_exit ?_
        refine block_hit ?_
        refine then_normal ?_
        obtain rfl := Option.some.inj h
        obtain rfl : _ = x13 := hk13
        exact ⟨(s13.1, s13.2.2), _, ho13, ⟨rfl, rfl, rfl, rfl, trivial⟩, rfl⟩
  · skip
    refine cregion ?_
    refine sv rfl (opv_mv rfl) ?_
    refine sv rfl (opv_len_sl si22 rfl) ?_
    refine sv rfl (opv_gtr rfl rfl) ?_
    refine sv rfl (opv_mv rfl) ?_
    refine ssplit 20 rfl (fun hc => ?_) (fun hc => ?_)
    · replace h := ite_t hc h
      clear hc
      refine soff rfl rfl rfl rfl ?_
      refine soff rfl rfl rfl rfl ?_
      refine soff rfl rfl rfl rfl ?_
      refine sv rfl (opv_pick_t rfl rfl) ?_
      refine snil ?_
      refine ccond rfl (fun _ => ?_) (fun hx => Bool.noConfusion hx)
      refine cseq ?_
      refine cregion ?_
      refine sv rfl (opv_mv rfl) ?_
      refine sv rfl (opv_as rfl) ?_
      refine snil ?_
      refine cret ?_
      refine then_ret ?_
      obtain rfl := Option.some.inj h
      refine ⟨Or.inr rfl, _, _, _, (resVs_cons (ResV.tmp _ _ rfl) resVs_nil), (pubA_id rfl), ?_⟩
      rfl
    · replace h := ite_f hc h
      clear hc
      refine son rfl rfl rfl ?_
      refine sv rfl (opv_mv rfl) ?_
      refine son rfl rfl rfl ?_
      refine sv rfl (opv_len_sl si42 rfl) ?_
      refine son rfl rfl rfl ?_
      refine sv rfl (opv_gtr rfl rfl) ?_
      refine sv rfl (opv_pick_f rfl rfl) ?_
      refine snil ?_
      refine ccond rfl (fun hc => ?_) (fun hc => ?_)
      · replace h := ite_t hc h
        clear hc
        refine cseq ?_
        refine cregion ?_
        refine sv rfl (opv_mv rfl) ?_
        refine sv rfl (opv_as rfl) ?_
        refine snil ?_
        refine cret ?_
        refine then_ret ?_
        obtain rfl := Option.some.inj h
        refine ⟨Or.inr rfl, _, _, _, (resVs_cons (ResV.tmp _ _ rfl) resVs_nil), (pubA_id rfl), ?_⟩
        rfl
      · replace h := ite_f hc h
        clear hc
        refine cskip ?_
        refine then_normal ?_
        exact ⟨(), _, h, ⟨rfl, rfl, rfl, trivial⟩, rfl⟩

def m22_r03_Few_k1 (b1 : Unit) : Option Bool :=
  some true

def m22_r03_Few_s2 (a0 : List (List UInt8)) (a1 : Int) (s2 : Int) : Option (LR (Int) (Unit) (Bool)) :=
  if (decide (s2 < (a0.length : Int))) then ((idx a0 s2).bind fun u3 => if (decide (a1 < (u3.length : Int))) then (some (.ret false)) else (some (.cont (wI (s2 + 1))))) else (some (.brk ()))
def m22_r03_Few (a0 : List (List UInt8)) (a1 : Int) : Option Bool :=
  if (decide (20 < (a0.length : Int))) then (some false) else ((iter (m22_r03_Few_s2 a0 a1) fuel 0).bind fun x => match x with | .inl r => some r | .inr e4 => m22_r03_Few_k1 e4)

set_option maxRecDepth 100000 in
theorem m22_r03_Few_c {a0 : List (List UInt8)} {a1 : Int} {r : Bool} (h : m22_r03_Few a0 a1 = some r) : CallsA Try.prog 22 [.one (.sl a0.length (a0.flatMap (eL eU8))), .one (.i .i64 a1)] (· = .s (.one (.b r))) := by
  unfold m22_r03_Few at h
  refine callsA_of Try.func22 rfl (nt := 22) rfl (Nat.le_of_ble_eq_true rfl) ?_
  intro w0 S0
  refine cseq ?_
  refine cregion ?_
  refine sv rfl (opv_as rfl) ?_
  refine snil ?_
  refine cseq ?_
  refine cseq ?_
  refine cregion ?_
  refine sv rfl (opv_mv rfl) ?_
  refine sv rfl (opv_len_sl si28 rfl) ?_
  refine sv rfl (opv_gtr rfl rfl) ?_
  refine snil ?_
  refine ccond rfl (fun hc => ?_) (fun hc => ?_)
  · replace h := ite_t hc h
    clear hc
    refine cseq ?_
    refine cregion ?_
    refine sv rfl (opv_as rfl) ?_
    refine snil ?_
    refine cret ?_
    refine then_ret ?_
    obtain rfl := Option.some.inj h
    refine ⟨Or.inr rfl, _, _, _, (resVs_cons (ResV.tmp _ _ rfl) resVs_nil), (pubA_id rfl), ?_⟩
    rfl
  · replace h := ite_f hc h
    clear hc
    refine cskip ?_
    refine then_normal ?_
    refine cseq ?_
    refine cseq ?_
    refine cregion ?_
    refine sv rfl (opv_as rfl) ?_
    refine snil ?_
    refine cjoin (Unit) (fun b1 => []) (fun b1 => []) (fun b1 => m22_r03_Few_k1 b1 = some r) (fun _ _ => inbL_of rfl) (fun _ _ => blkinb_of rfl) (fun _ _ => Nat.le_of_ble_eq_true rfl) (fun b1 h => ?_) ?_
    · unfold m22_r03_Few_k1 at h
      refine cseq ?_
      refine cregion ?_
      refine sv rfl (opv_as rfl) ?_
      refine snil ?_
      refine cret ?_
      obtain rfl := Option.some.inj h
      refine ⟨Or.inr rfl, _, _, _, (resVs_cons (ResV.tmp _ _ rfl) resVs_nil), (pubA_id rfl), ?_⟩
      rfl
    · skip
      refine cblock ?_
      obtain ⟨x2, hx2, ho2⟩ := bind_eq h
      refine awc_loop (G := Nat × (Int)) (fun g => [(0, .s (.one (.sl a0.length (a0.flatMap (eL eU8))))), (1, .s (.one (.i .i64 a1))), (5, .s (.one (.i .i64 g.2)))]) (fun g => []) (fun g => iter (m22_r03_Few_s2 a0 a1) g.1 g.2 = some x2) (fun g => g.1) (fuel, 0) hx2 ⟨rfl, rfl, rfl, trivial⟩ [] rfl (fun _ _ => inbL_of rfl) (fun _ _ => blkinb_of rfl) (fun _ _ => Nat.le_of_ble_eq_true rfl) ?_
      clear hx2 h
      rintro ⟨n2, s2⟩ h
      obtain ⟨n2, y2, rfl, h, hk2⟩ := iter_eq h
      unfold m22_r03_Few_s2 at h
      refine cseq ?_
      refine cseq ?_
      refine cregion ?_
      refine sv rfl (opv_mv rfl) ?_
      refine sv rfl (opv_mv rfl) ?_
      refine sv rfl (opv_len_sl si28 rfl) ?_
      refine sv rfl (opv_lss rfl rfl) ?_
      refine snil ?_
      refine ccond rfl (fun hc => ?_) (fun hc => ?_)
      · replace h := ite_t hc h
        clear hc
        refine cskip ?_
        refine then_normal ?_
        refine cseq ?_
        refine cblock ?_
        refine cseq ?_
        refine cregion ?_
        refine sv rfl (opv_mv rfl) ?_
        refine sv rfl (opv_mv rfl) ?_
        obtain ⟨u3, hu3, h⟩ := bind_eq h
        refine sv rfl (opv_ix (f := (eL eU8)) si28 (fun _ => rfl) rfl rfl rfl rfl hu3) ?_
        refine sv rfl (opv_load1 ti22 rfl (.cp _) rfl) ?_
        refine sv rfl (opv_len_sl si22 rfl) ?_
        refine sv rfl (opv_mv rfl) ?_
        refine sv rfl (opv_gtr rfl rfl) ?_
        refine snil ?_
        refine ccond rfl (fun hc => ?_) (fun hc => ?_)
        · replace h := ite_t hc h
          clear hc
          refine cseq ?_
          refine cregion ?_
          refine sv rfl (opv_as rfl) ?_
          refine snil ?_
          refine cret ?_
          refine block_ret ?_
          refine then_ret ?_
          refine then_ret ?_
          refine block_ret ?_
          refine then_ret ?_
          obtain rfl := Option.some.inj h
          obtain rfl : Sum.inl _ = x2 := hk2
          replace ho2 : some _ = some _ := ho2
          obtain rfl := Option.some.inj ho2
          refine ⟨Or.inr rfl, _, _, _, (resVs_cons (ResV.tmp _ _ rfl) resVs_nil), (pubA_id rfl), ?_⟩
          rfl
        · replace h := ite_f hc h
          clear hc
          refine cskip ?_
          refine block_normal ?_
          refine then_normal ?_
          refine cregion ?_
          refine sv rfl (opv_mv rfl) ?_
          refine sv rfl (opv_add rfl rfl) ?_
          refine sv rfl (opv_as rfl) ?_
          refine snil ?_
          obtain rfl := Option.some.inj h
          exact ⟨(n2, (wI (s2 + 1))), _, hk2, ⟨rfl, rfl, rfl, trivial⟩, rfl, Nat.lt_succ_self _⟩
      · replace h := ite_f hc h
        clear hc
        refine cexit ?_
        refine then_exit ?_
        refine then_exit ?_
        refine block_hit ?_
        refine then_normal ?_
        obtain rfl := Option.some.inj h
        obtain rfl : _ = x2 := hk2
        exact ⟨(), _, ho2, trivial, rfl⟩

def m5_l04_StreamBack_k4 (a0 : List (List UInt8)) (v1 : Bool) (b3 : (List UInt8)) (b4 : Int × (List (List UInt8))) : Option Bool :=
  (cut b3 b4.1 (b3.length : Int)).bind fun c5 => if (b4.2.length + [c5].length) * 24 ≤ 140737488355328 then ((m21_l04_fed (b4.2 ++ [c5])).bind fun v7 => if v1 then (if (decide (v7.2.2 = 0)) then ((m16_r03_Lists v7.2.1 a0).bind fun v8 => if v8 then (if (decide ((v7.1.Buf.length : Int) = 0)) then (if (decide (v7.1.Dead = 0)) then ((m19_stream_Wants v7.1).bind fun v9 => some (decide (v9 = 6))) else (some false)) else (some false)) else (some false)) else (some false)) else (some false)) else none

def m5_l04_StreamBack_s10 (a1 : List Int) (b3 : (List UInt8)) (s10 : Int × Int × (List (List UInt8))) : Option (LB (Int × Int × (List (List UInt8))) (Int × (List (List UInt8)))) :=
  if (decide (s10.2.1 < (a1.length : Int))) then ((idx a1 s10.2.1).bind fun u11 => (cut b3 s10.1 (wI (s10.1 + (if (wI ((b3.length : Int) - s10.1)) < (wI ((BitVec.ofInt 64 u11 &&& BitVec.ofInt 64 63).toNat : Int)) then (wI ((b3.length : Int) - s10.1)) else (wI ((BitVec.ofInt 64 u11 &&& BitVec.ofInt 64 63).toNat : Int)))))).bind fun c12 => if (s10.2.2.length + [c12].length) * 24 ≤ 140737488355328 then (some (.cont ((wI (s10.1 + (if (wI ((b3.length : Int) - s10.1)) < (wI ((BitVec.ofInt 64 u11 &&& BitVec.ofInt 64 63).toNat : Int)) then (wI ((b3.length : Int) - s10.1)) else (wI ((BitVec.ofInt 64 u11 &&& BitVec.ofInt 64 63).toNat : Int))))), (wI (s10.2.1 + 1)), (s10.2.2 ++ [c12])))) else none) else (some (.brk (s10.1, s10.2.2)))

def m5_l04_StreamBack_k3 (a0 : List (List UInt8)) (a1 : List Int) (v1 : Bool) (b3 : (List UInt8)) : Option Bool :=
  (iterB (m5_l04_StreamBack_s10 a1 b3) fuel (0, 0, ([] : List (List UInt8)))).bind fun e14 => m5_l04_StreamBack_k4 a0 v1 b3 e14

def m5_l04_StreamBack_s15 (a0 : List (List UInt8)) (s15 : (List UInt8) × Int) : Option (LR ((List UInt8) × Int) ((List UInt8)) (Bool)) :=
  if (decide (s15.2 < (a0.length : Int))) then ((idx a0 s15.2).bind fun u16 => (m23_frame_Put s15.1 u16).bind fun v17 => if (!decide (v17.2 = 0)) then (some (.ret false)) else (some (.cont (v17.1, (wI (s15.2 + 1)))))) else (some (.brk s15.1))

def m5_l04_StreamBack_k2 (a0 : List (List UInt8)) (a1 : List Int) (v1 : Bool) (b2 : Unit) : Option Bool :=
  (iter (m5_l04_StreamBack_s15 a0) fuel (([] : List UInt8), 0)).bind fun x => match x with | .inl r => some r | .inr e18 => m5_l04_StreamBack_k3 a0 a1 v1 e18
def m5_l04_StreamBack (a0 : List (List UInt8)) (a1 : List Int) : Option Bool :=
  (m10_l04_awake).bind fun v1 => (m22_r03_Few a0 512).bind fun v19 => if (!v19) then (some v1) else (if (decide (40 < (a1.length : Int))) then (some v1) else (m5_l04_StreamBack_k2 a0 a1 v1 ()))

set_option maxRecDepth 100000 in
theorem m5_l04_StreamBack_c {a0 : List (List UInt8)} {a1 : List Int} {r : Bool} (h : m5_l04_StreamBack a0 a1 = some r) : CallsA Try.prog 5 [.one (.sl a0.length (a0.flatMap (eL eU8))), .one (.sl a1.length (a1.flatMap eI))] (· = .s (.one (.b r))) := by
  unfold m5_l04_StreamBack at h
  refine callsA_of Try.func5 rfl (nt := 111) rfl (Nat.le_of_ble_eq_true rfl) ?_
  intro w0 S0
  refine cseq ?_
  refine cregion ?_
  refine sv rfl (opv_as rfl) ?_
  refine snil ?_
  refine cseq ?_
  refine cregion ?_
  obtain ⟨v1, hv1, h⟩ := bind_eq h
  refine scall1 rfl fn10 opnds_nil (pubA_id rfl) (m10_l04_awake_c hv1) ?_
  refine sv rfl (opv_as rfl) ?_
  refine snil ?_
  refine cseq ?_
  refine cseq ?_
  refine cjoin3 (Unit) (fun b2 => [(0, .s (.one (.sl a0.length (a0.flatMap (eL eU8))))), (1, .s (.one (.sl a1.length (a1.flatMap eI)))), (5, .s (.one (.b v1)))]) (fun b2 => []) (fun b2 => m5_l04_StreamBack_k2 a0 a1 v1 b2 = some r) (fun _ _ => inbL_of rfl) (fun _ _ => blkinb_of rfl) (fun _ _ => Nat.le_of_ble_eq_true rfl) (fun b2 h => ?_) ?_
  · unfold m5_l04_StreamBack_k2 at h
    refine cseq ?_
    refine cregion ?_
    refine sv rfl (opv_as rfl) ?_
    refine snil ?_
    refine cseq ?_
    refine cseq ?_
    refine cregion ?_
    refine sv rfl (opv_as rfl) ?_
    refine snil ?_
    refine cjoin ((List UInt8)) (fun b3 => [(0, .s (.one (.sl a0.length (a0.flatMap (eL eU8))))), (1, .s (.one (.sl a1.length (a1.flatMap eI)))), (5, .s (.one (.b v1))), (6, .s (.one (.sl b3.length (b3.flatMap eU8))))]) (fun b3 => []) (fun b3 => m5_l04_StreamBack_k3 a0 a1 v1 b3 = some r) (fun _ _ => inbL_of rfl) (fun _ _ => blkinb_of rfl) (fun _ _ => Nat.le_of_ble_eq_true rfl) (fun b3 h => ?_) ?_
    · unfold m5_l04_StreamBack_k3 at h
      refine cseq ?_
      refine cregion ?_
      refine sv rfl (opv_as rfl) ?_
      refine snil ?_
      refine cseq ?_
      refine cregion ?_
      refine sv rfl (opv_as rfl) ?_
      refine snil ?_
      refine cseq ?_
      refine cseq ?_
      refine cregion ?_
      refine sv rfl (opv_as rfl) ?_
      refine snil ?_
      refine sadopt_c 22 1 10 (by decide) rfl ?_
      refine cjoin (Int × (List (List UInt8))) (fun b4 => [(0, .s (.one (.sl a0.length (a0.flatMap (eL eU8))))), (5, .s (.one (.b v1))), (6, .s (.one (.sl b3.length (b3.flatMap eU8)))), (10, .s (.one (.ls 0 b4.2.length))), (11, .s (.one (.i .i64 b4.1)))]) (fun b4 => [.arr 22 1 0 (b4.2.flatMap (eL eU8))]) (fun b4 => m5_l04_StreamBack_k4 a0 v1 b3 b4 = some r) (fun _ _ => inbL_of rfl) (fun _ _ => blkinb_of rfl) (fun _ _ => Nat.le_of_ble_eq_true rfl) (fun b4 h => ?_) ?_
      · unfold m5_l04_StreamBack_k4 at h
        refine cseq ?_
        refine cregion ?_
        refine sv rfl (opv_mv rfl) ?_
        refine sv rfl (opv_mv rfl) ?_
        refine sv rfl (opv_mv rfl) ?_
        obtain ⟨c5, hc5, h⟩ := bind_eq h
        refine sv rfl (opv_cut (f := eU8) (lo := b4.1) (hi := (b3.length : Int)) si22 (fun _ => rfl) rfl rfl rfl (bound_some rfl (cut_eq hc5).1.1) (by exact rfl) hc5) ?_
        refine sbuild1 rfl Try.underlying28 ei22 rfl rfl (List.all_eq_true.1 rfl) (by decide) ?_
        refine smem [.arr 22 1 0 (b4.2.flatMap (eL eU8)), .arr 22 1 0 ([c5].flatMap (eL eU8))] rfl ?_
        obtain ⟨hb6, h⟩ := chk_eq h
        refine sapp (f := (eL eU8)) (xs := b4.2) (us := [c5]) rfl Try.underlying28 ei22 ni28 (fun _ => rfl) rfl rfl (.one _ _ _ _ (.ls _ _ _ _ _ _ rfl (flat_len (f := (eL eU8)) (fun _ => rfl) [c5]).symm)) rfl rfl rfl (.sl _ _ _ (flat_len (f := (eL eU8)) (fun _ => rfl) _)) rfl rfl hb6 (by decide) ?_
        refine sv rfl (opv_as rfl) ?_
        refine snil ?_
        refine cseq ?_
        refine cregion ?_
        refine sv rfl (opv_mv rfl) ?_
        refine spub 80 rfl (by (repeat' first | exact PubA.nil _ | apply PubA.cons | apply PubV.one | apply PubV.agg | exact PubL.nil | exact PubL.ls _ _ _ _ _ _ rfl (flat_len (f := (eL eU8)) (fun _ => rfl) _).symm | exact PubL.id _ rfl | exact PubLs.nil _ | apply PubLs.cons)) ?_
        obtain ⟨v7, hv7, h⟩ := bind_eq h
        refine scall1 rfl fn21 (opnds_cons rfl opnds_nil) (pubA_id rfl) (m21_l04_fed_c hv7) ?_
        refine sv rfl (opv_mvt rfl) ?_
        refine sv rfl (opv_extract rfl rfl) ?_
        refine sv rfl (opv_extract rfl rfl) ?_
        refine sv rfl (opv_extract rfl rfl) ?_
        refine salloc rfl zi27 ?_
        refine sstore sz27 rfl rfl rfl rfl (Nat.le_of_ble_eq_true rfl) ?_
        refine smem [.arr 22 1 ((b4.2 ++ [c5]).flatMap (eL eU8)).length ((b4.2 ++ [c5]).flatMap (eL eU8)), .arr 22 1 ([c5].flatMap (eL eU8)).length ([c5].flatMap (eL eU8)), .box [.sl v7.1.Buf.length (v7.1.Buf.flatMap eU8), .i .i64 v7.1.Dead]] rfl ?_
        refine sv rfl (opv_as rfl) ?_
        refine sv rfl (opv_as rfl) ?_
        refine snil ?_
        refine cseq ?_
        refine cregion ?_
        refine sv rfl (opv_mv rfl) ?_
        refine sv rfl (opv_mv rfl) ?_
        refine ssplit 86 rfl (fun hc => ?_) (fun hc => ?_)
        · replace h := ite_t hc h
          clear hc
          refine son rfl rfl rfl ?_
          refine sv rfl (opv_mv rfl) ?_
          refine son rfl rfl rfl ?_
          refine sv rfl (opv_ieql rfl rfl) ?_
          refine sv rfl (opv_pick_t rfl rfl) ?_
          refine sv rfl (opv_mv rfl) ?_
          refine ssplit 90 rfl (fun hc => ?_) (fun hc => ?_)
          · replace h := ite_t hc h
            clear hc
            refine son rfl rfl rfl ?_
            refine sv rfl (opv_mv rfl) ?_
            refine son rfl rfl rfl ?_
            refine sv rfl (opv_mv rfl) ?_
            refine son rfl rfl rfl ?_
            obtain ⟨v8, hv8, h⟩ := bind_eq h
            refine scall1 rfl fn16 (opnds_cons rfl (opnds_cons rfl opnds_nil)) (pubA_id rfl) (m16_r03_Lists_c hv8) ?_
            refine sv rfl (opv_pick_t rfl rfl) ?_
            refine sv rfl (opv_mv rfl) ?_
            refine ssplit 95 rfl (fun hc => ?_) (fun hc => ?_)
            · replace h := ite_t hc h
              clear hc
              refine son rfl rfl rfl ?_
              refine sv rfl (opv_fieldAddr_lp fi27_0 rfl) ?_
              refine son rfl rfl rfl ?_
              refine sv rfl (opv_load1 ti22 rfl (.lp _ _ _ rfl) rfl) ?_
              refine son rfl rfl rfl ?_
              refine sv rfl (opv_len_sl si22 rfl) ?_
              refine son rfl rfl rfl ?_
              refine sv rfl (opv_ieql rfl rfl) ?_
              refine sv rfl (opv_pick_t rfl rfl) ?_
              refine sv rfl (opv_mv rfl) ?_
              refine ssplit 101 rfl (fun hc => ?_) (fun hc => ?_)
              · replace h := ite_t hc h
                clear hc
                refine son rfl rfl rfl ?_
                refine sv rfl (opv_fieldAddr_lp fi27_1 rfl) ?_
                refine son rfl rfl rfl ?_
                refine sv rfl (opv_load1 ti23 rfl (.lp _ _ _ rfl) rfl) ?_
                refine son rfl rfl rfl ?_
                refine sv rfl (opv_ieql rfl rfl) ?_
                refine sv rfl (opv_pick_t rfl rfl) ?_
                refine sv rfl (opv_mv rfl) ?_
                refine ssplit 106 rfl (fun hc => ?_) (fun hc => ?_)
                · replace h := ite_t hc h
                  clear hc
                  refine son rfl rfl rfl ?_
                  refine sv rfl (opv_loadN ti27 rfl (.lp _ _ _ rfl) (Nat.le_of_ble_eq_true rfl)) ?_
                  refine son rfl rfl rfl ?_
                  obtain ⟨v9, hv9, h⟩ := bind_eq h
                  refine scall1 rfl fn19 (opnds_cons rfl opnds_nil) (pubA_id rfl) (m19_stream_Wants_c hv9) ?_
                  refine son rfl rfl rfl ?_
                  refine sv rfl (opv_ieql rfl rfl) ?_
                  refine sv rfl (opv_pick_t rfl rfl) ?_
                  refine sv rfl (opv_as rfl) ?_
                  refine snil ?_
                  refine cret ?_
                  obtain rfl := Option.some.inj h
                  refine ⟨Or.inr rfl, _, _, _, (resVs_cons (ResV.tmp _ _ rfl) resVs_nil), (pubA_id rfl), ?_⟩
                  rfl
                · replace h := ite_f hc h
                  clear hc
                  refine soff rfl rfl rfl rfl ?_
                  refine soff rfl rfl rfl rfl ?_
                  refine soff rfl rfl rfl rfl ?_
                  refine sv rfl (opv_pick_f rfl rfl) ?_
                  refine sv rfl (opv_as rfl) ?_
                  refine snil ?_
                  refine cret ?_
                  obtain rfl := Option.some.inj h
                  refine ⟨Or.inr rfl, _, _, _, (resVs_cons (ResV.tmp _ _ rfl) resVs_nil), (pubA_id rfl), ?_⟩
                  rfl
              · replace h := ite_f hc h
                clear hc
                refine soff rfl rfl rfl rfl ?_
                refine soff rfl rfl rfl rfl ?_
                refine soff rfl rfl rfl rfl ?_
                refine sv rfl (opv_pick_f rfl rfl) ?_
                refine sv rfl (opv_mv rfl) ?_
                refine soff rfl rfl rfl rfl ?_
                refine soff rfl rfl rfl rfl ?_
                refine soff rfl rfl rfl rfl ?_
                refine sv rfl (opv_pick_f rfl rfl) ?_
                refine sv rfl (opv_as rfl) ?_
                refine snil ?_
                refine cret ?_
                obtain rfl := Option.some.inj h
                refine ⟨Or.inr rfl, _, _, _, (resVs_cons (ResV.tmp _ _ rfl) resVs_nil), (pubA_id rfl), ?_⟩
                rfl
            · replace h := ite_f hc h
              clear hc
              refine soff rfl rfl rfl rfl ?_
              refine soff rfl rfl rfl rfl ?_
              refine soff rfl rfl rfl rfl ?_
              refine soff rfl rfl rfl rfl ?_
              refine sv rfl (opv_pick_f rfl rfl) ?_
              refine sv rfl (opv_mv rfl) ?_
              refine soff rfl rfl rfl rfl ?_
              refine soff rfl rfl rfl rfl ?_
              refine soff rfl rfl rfl rfl ?_
              refine sv rfl (opv_pick_f rfl rfl) ?_
              refine sv rfl (opv_mv rfl) ?_
              refine soff rfl rfl rfl rfl ?_
              refine soff rfl rfl rfl rfl ?_
              refine soff rfl rfl rfl rfl ?_
              refine sv rfl (opv_pick_f rfl rfl) ?_
              refine sv rfl (opv_as rfl) ?_
              refine snil ?_
              refine cret ?_
              obtain rfl := Option.some.inj h
              refine ⟨Or.inr rfl, _, _, _, (resVs_cons (ResV.tmp _ _ rfl) resVs_nil), (pubA_id rfl), ?_⟩
              rfl
          · replace h := ite_f hc h
            clear hc
            refine soff rfl rfl rfl rfl ?_
            refine soff rfl rfl rfl rfl ?_
            refine soff rfl rfl rfl rfl ?_
            refine sv rfl (opv_pick_f rfl rfl) ?_
            refine sv rfl (opv_mv rfl) ?_
            refine soff rfl rfl rfl rfl ?_
            refine soff rfl rfl rfl rfl ?_
            refine soff rfl rfl rfl rfl ?_
            refine soff rfl rfl rfl rfl ?_
            refine sv rfl (opv_pick_f rfl rfl) ?_
            refine sv rfl (opv_mv rfl) ?_
            refine soff rfl rfl rfl rfl ?_
            refine soff rfl rfl rfl rfl ?_
            refine soff rfl rfl rfl rfl ?_
            refine sv rfl (opv_pick_f rfl rfl) ?_
            refine sv rfl (opv_mv rfl) ?_
            refine soff rfl rfl rfl rfl ?_
            refine soff rfl rfl rfl rfl ?_
            refine soff rfl rfl rfl rfl ?_
            refine sv rfl (opv_pick_f rfl rfl) ?_
            refine sv rfl (opv_as rfl) ?_
            refine snil ?_
            refine cret ?_
            obtain rfl := Option.some.inj h
            refine ⟨Or.inr rfl, _, _, _, (resVs_cons (ResV.tmp _ _ rfl) resVs_nil), (pubA_id rfl), ?_⟩
            rfl
        · replace h := ite_f hc h
          clear hc
          refine soff rfl rfl rfl rfl ?_
          refine soff rfl rfl rfl rfl ?_
          refine sv rfl (opv_pick_f rfl rfl) ?_
          refine sv rfl (opv_mv rfl) ?_
          refine soff rfl rfl rfl rfl ?_
          refine soff rfl rfl rfl rfl ?_
          refine soff rfl rfl rfl rfl ?_
          refine sv rfl (opv_pick_f rfl rfl) ?_
          refine sv rfl (opv_mv rfl) ?_
          refine soff rfl rfl rfl rfl ?_
          refine soff rfl rfl rfl rfl ?_
          refine soff rfl rfl rfl rfl ?_
          refine soff rfl rfl rfl rfl ?_
          refine sv rfl (opv_pick_f rfl rfl) ?_
          refine sv rfl (opv_mv rfl) ?_
          refine soff rfl rfl rfl rfl ?_
          refine soff rfl rfl rfl rfl ?_
          refine soff rfl rfl rfl rfl ?_
          refine sv rfl (opv_pick_f rfl rfl) ?_
          refine sv rfl (opv_mv rfl) ?_
          refine soff rfl rfl rfl rfl ?_
          refine soff rfl rfl rfl rfl ?_
          refine soff rfl rfl rfl rfl ?_
          refine sv rfl (opv_pick_f rfl rfl) ?_
          refine sv rfl (opv_as rfl) ?_
          refine snil ?_
          refine cret ?_
          obtain rfl := Option.some.inj h
          refine ⟨Or.inr rfl, _, _, _, (resVs_cons (ResV.tmp _ _ rfl) resVs_nil), (pubA_id rfl), ?_⟩
          rfl
      · skip
        refine cblock ?_
        obtain ⟨x10, hx10, ho10⟩ := bind_eq h
        refine awc_loop (G := Nat × (Int × Int × (List (List UInt8)))) (fun g => [(0, .s (.one (.sl a0.length (a0.flatMap (eL eU8))))), (1, .s (.one (.sl a1.length (a1.flatMap eI)))), (5, .s (.one (.b v1))), (6, .s (.one (.sl b3.length (b3.flatMap eU8)))), (10, .s (.one (.ls 0 g.2.2.2.length))), (11, .s (.one (.i .i64 g.2.1))), (12, .s (.one (.i .i64 g.2.2.1)))]) (fun g => [.arr 22 1 0 (g.2.2.2.flatMap (eL eU8))]) (fun g => iterB (m5_l04_StreamBack_s10 a1 b3) g.1 g.2 = some x10) (fun g => g.1) (fuel, (0, 0, ([] : List (List UInt8)))) hx10 ⟨rfl, rfl, rfl, rfl, rfl, rfl, rfl, trivial⟩ [] rfl (fun _ _ => inbL_of rfl) (fun _ _ => blkinb_of rfl) (fun _ _ => Nat.le_of_ble_eq_true rfl) ?_
        clear hx10 h
        rintro ⟨n10, s10⟩ h
        obtain ⟨n10, y10, rfl, h, hk10⟩ := iterB_eq h
        unfold m5_l04_StreamBack_s10 at h
        refine cseq ?_
        refine cseq ?_
        refine cregion ?_
        refine sv rfl (opv_mv rfl) ?_
        refine sv rfl (opv_mv rfl) ?_
        refine sv rfl (opv_len_sl si42 rfl) ?_
        refine sv rfl (opv_lss rfl rfl) ?_
        refine snil ?_
        refine ccond rfl (fun hc => ?_) (fun hc => ?_)
        · replace h := ite_t hc h
          clear hc
          refine cskip ?_
          refine then_normal ?_
          refine cseq ?_
          refine cblock ?_
          refine cseq ?_
          refine cregion ?_
          refine sv rfl (opv_mv rfl) ?_
          refine sv rfl (opv_mv rfl) ?_
          obtain ⟨u11, hu11, h⟩ := bind_eq h
          refine sv rfl (opv_ix (f := eI) si42 (fun _ => rfl) rfl rfl rfl rfl hu11) ?_
          refine sv rfl (opv_load1 ti3 rfl (.cp _) rfl) ?_
          refine sv rfl (opv_and rfl rfl) ?_
          refine sv rfl (opv_mv rfl) ?_
          refine sv rfl (opv_len_sl si22 rfl) ?_
          refine sv rfl (opv_mv rfl) ?_
          refine sv rfl (opv_sub rfl rfl) ?_
          refine sv rfl (opv_min rfl rfl) ?_
          refine sv rfl (opv_as rfl) ?_
          refine snil ?_
          refine cseq ?_
          refine cregion ?_
          refine sv rfl (opv_mv rfl) ?_
          refine sv rfl (opv_mv rfl) ?_
          refine sv rfl (opv_mv rfl) ?_
          refine sv rfl (opv_mv rfl) ?_
          refine sv rfl (opv_mv rfl) ?_
          refine sv rfl (opv_add rfl rfl) ?_
          obtain ⟨c12, hc12, h⟩ := bind_eq h
          refine sv rfl (opv_cut (f := eU8) (lo := s10.1) (hi := (wI (s10.1 + (if (wI ((b3.length : Int) - s10.1)) < (wI ((BitVec.ofInt 64 u11 &&& BitVec.ofInt 64 63).toNat : Int)) then (wI ((b3.length : Int) - s10.1)) else (wI ((BitVec.ofInt 64 u11 &&& BitVec.ofInt 64 63).toNat : Int)))))) si22 (fun _ => rfl) rfl rfl rfl (bound_some rfl (cut_eq hc12).1.1) (bound_some rfl (Int.le_trans (cut_eq hc12).1.1 (cut_eq hc12).1.2.1)) hc12) ?_
          refine sbuild1 rfl Try.underlying28 ei22 rfl rfl (List.all_eq_true.1 rfl) (by decide) ?_
          refine smem [.arr 22 1 0 (s10.2.2.flatMap (eL eU8)), .arr 22 1 0 ([c12].flatMap (eL eU8))] rfl ?_
          obtain ⟨hb13, h⟩ := chk_eq h
          refine sapp (f := (eL eU8)) (xs := s10.2.2) (us := [c12]) rfl Try.underlying28 ei22 ni28 (fun _ => rfl) rfl rfl (.one _ _ _ _ (.ls _ _ _ _ _ _ rfl (flat_len (f := (eL eU8)) (fun _ => rfl) [c12]).symm)) rfl rfl rfl (.sl _ _ _ (flat_len (f := (eL eU8)) (fun _ => rfl) _)) rfl rfl hb13 (by decide) ?_
          refine sv rfl (opv_as rfl) ?_
          refine snil ?_
          refine cregion ?_
          refine sv rfl (opv_mv rfl) ?_
          refine sv rfl (opv_mv rfl) ?_
          refine sv rfl (opv_add rfl rfl) ?_
          refine sv rfl (opv_as rfl) ?_
          refine snil0 ?_
          refine block_normal ?_
          refine then_normal ?_
          refine cregion ?_
          refine sv rfl (opv_mv rfl) ?_
          refine sv rfl (opv_add rfl rfl) ?_
          refine sv rfl (opv_as rfl) ?_
          refine snil ?_
          obtain rfl := Option.some.inj h
          exact ⟨(n10, ((wI (s10.1 + (if (wI ((b3.length : Int) - s10.1)) < (wI ((BitVec.ofInt 64 u11 &&& BitVec.ofInt 64 63).toNat : Int)) then (wI ((b3.length : Int) - s10.1)) else (wI ((BitVec.ofInt 64 u11 &&& BitVec.ofInt 64 63).toNat : Int))))), (wI (s10.2.1 + 1)), (s10.2.2 ++ [c12]))), _, hk10, ⟨rfl, rfl, rfl, rfl, rfl, rfl, rfl, trivial⟩, rfl, Nat.lt_succ_self _⟩
        · replace h := ite_f hc h
          clear hc
          refine cexit ?_
          refine then_exit ?_
          refine then_exit ?_
          refine block_hit ?_
          refine then_normal ?_
          obtain rfl := Option.some.inj h
          obtain rfl : _ = x10 := hk10
          exact ⟨(s10.1, s10.2.2), _, ho10, ⟨rfl, rfl, rfl, rfl, rfl, trivial⟩, rfl⟩
    · skip
      refine cblock ?_
      refine cpub 6 rfl (by (repeat' first | exact PubA.nil _ | apply PubA.cons | apply PubV.one | apply PubV.agg | exact PubL.nil | exact PubL.id _ rfl | exact PubLs.nil _ | apply PubLs.cons)) ?_
      obtain ⟨x15, hx15, ho15⟩ := bind_eq h
      refine awc_loop (G := Nat × ((List UInt8) × Int)) (fun g => [(0, .s (.one (.sl a0.length (a0.flatMap (eL eU8))))), (1, .s (.one (.sl a1.length (a1.flatMap eI)))), (5, .s (.one (.b v1))), (6, .s (.one (.sl g.2.1.length (g.2.1.flatMap eU8)))), (7, .s (.one (.i .i64 g.2.2)))]) (fun g => []) (fun g => iter (m5_l04_StreamBack_s15 a0) g.1 g.2 = some x15) (fun g => g.1) (fuel, (([] : List UInt8), 0)) hx15 ⟨rfl, rfl, rfl, rfl, rfl, trivial⟩ [] rfl (fun _ _ => inbL_of rfl) (fun _ _ => blkinb_of rfl) (fun _ _ => Nat.le_of_ble_eq_true rfl) ?_
      clear hx15 h
      rintro ⟨n15, s15⟩ h
      obtain ⟨n15, y15, rfl, h, hk15⟩ := iter_eq h
      unfold m5_l04_StreamBack_s15 at h
      refine cseq ?_
      refine cseq ?_
      refine cregion ?_
      refine sv rfl (opv_mv rfl) ?_
      refine sv rfl (opv_mv rfl) ?_
      refine sv rfl (opv_len_sl si28 rfl) ?_
      refine sv rfl (opv_lss rfl rfl) ?_
      refine snil ?_
      refine ccond rfl (fun hc => ?_) (fun hc => ?_)
      · replace h := ite_t hc h
        clear hc
        refine cskip ?_
        refine then_normal ?_
        refine cseq ?_
        refine cblock ?_
        refine cseq ?_
        refine cregion ?_
        refine sv rfl (opv_mv rfl) ?_
        refine sv rfl (opv_mv rfl) ?_
        refine sv rfl (opv_mv rfl) ?_
        obtain ⟨u16, hu16, h⟩ := bind_eq h
        refine sv rfl (opv_ix (f := (eL eU8)) si28 (fun _ => rfl) rfl rfl rfl rfl hu16) ?_
        refine sv rfl (opv_load1 ti22 rfl (.cp _) rfl) ?_
        obtain ⟨v17, hv17, h⟩ := bind_eq h
        refine scall1 rfl fn23 (opnds_cons rfl (opnds_cons rfl opnds_nil)) (pubA_id rfl) (m23_frame_Put_c hv17) ?_
        refine sv rfl (opv_mvt rfl) ?_
        refine sv rfl (opv_extract rfl rfl) ?_
        refine sv rfl (opv_extract rfl rfl) ?_
        refine sv rfl (opv_as rfl) ?_
        refine sv rfl (opv_as rfl) ?_
        refine snil ?_
        refine cseq ?_
        refine cseq ?_
        refine cregion ?_
        refine sv rfl (opv_mv rfl) ?_
        refine sv rfl (opv_ineq rfl rfl) ?_
        refine snil ?_
        refine ccond rfl (fun hc => ?_) (fun hc => ?_)
        · replace h := ite_t hc h
          clear hc
          refine cseq ?_
          refine cregion ?_
          refine sv rfl (opv_as rfl) ?_
          refine snil ?_
          refine cret ?_
          refine then_ret ?_
          refine block_ret ?_
          refine then_ret ?_
          refine then_ret ?_
          refine block_ret ?_
          refine then_ret ?_
          obtain rfl := Option.some.inj h
          obtain rfl : Sum.inl _ = x15 := hk15
          replace ho15 : some _ = some _ := ho15
          obtain rfl := Option.some.inj ho15
          refine ⟨Or.inr rfl, _, _, _, (resVs_cons (ResV.tmp _ _ rfl) resVs_nil), (pubA_id rfl), ?_⟩
          rfl
        · replace h := ite_f hc h
          clear hc
          refine cskip ?_
          refine then_normal ?_
          refine cregion ?_
          refine sv rfl (opv_mv rfl) ?_
          refine sv rfl (opv_as rfl) ?_
          refine snil0 ?_
          refine block_normal ?_
          refine then_normal ?_
          refine cregion ?_
          refine sv rfl (opv_mv rfl) ?_
          refine sv rfl (opv_add rfl rfl) ?_
          refine sv rfl (opv_as rfl) ?_
          refine snil ?_
          obtain rfl := Option.some.inj h
          exact ⟨(n15, (v17.1, (wI (s15.2 + 1)))), _, hk15, ⟨rfl, rfl, rfl, rfl, rfl, trivial⟩, rfl, Nat.lt_succ_self _⟩
      · replace h := ite_f hc h
        clear hc
        refine cexit ?_
        refine then_exit ?_
        refine then_exit ?_
        refine block_hit ?_
        refine then_normal ?_
        obtain rfl := Option.some.inj h
        obtain rfl : _ = x15 := hk15
        exact ⟨s15.1, _, ho15, ⟨rfl, rfl, rfl, rfl, trivial⟩, rfl⟩
  · skip
    refine cregion ?_
    refine sv rfl (opv_mv rfl) ?_
    obtain ⟨v19, hv19, h⟩ := bind_eq h
    refine scall1 rfl fn22 (opnds_cons rfl (opnds_cons rfl opnds_nil)) (pubA_id rfl) (m22_r03_Few_c hv19) ?_
    refine sv rfl (opv_not rfl) ?_
    refine sv rfl (opv_mv rfl) ?_
    refine ssplit 21 rfl (fun hc => ?_) (fun hc => ?_)
    · replace h := ite_t hc h
      clear hc
      refine soff rfl rfl rfl rfl ?_
      refine soff rfl rfl rfl rfl ?_
      refine soff rfl rfl rfl rfl ?_
      refine sv rfl (opv_pick_t rfl rfl) ?_
      refine snil ?_
      refine ccond rfl (fun _ => ?_) (fun hx => Bool.noConfusion hx)
      refine cseq ?_
      refine cregion ?_
      refine sv rfl (opv_mv rfl) ?_
      refine sv rfl (opv_as rfl) ?_
      refine snil ?_
      refine cret ?_
      refine then_ret ?_
      obtain rfl := Option.some.inj h
      refine ⟨Or.inr rfl, _, _, _, (resVs_cons (ResV.tmp _ _ rfl) resVs_nil), (pubA_id rfl), ?_⟩
      rfl
    · replace h := ite_f hc h
      clear hc
      refine son rfl rfl rfl ?_
      refine sv rfl (opv_mv rfl) ?_
      refine son rfl rfl rfl ?_
      refine sv rfl (opv_len_sl si42 rfl) ?_
      refine son rfl rfl rfl ?_
      refine sv rfl (opv_gtr rfl rfl) ?_
      refine sv rfl (opv_pick_f rfl rfl) ?_
      refine snil ?_
      refine ccond rfl (fun hc => ?_) (fun hc => ?_)
      · replace h := ite_t hc h
        clear hc
        refine cseq ?_
        refine cregion ?_
        refine sv rfl (opv_mv rfl) ?_
        refine sv rfl (opv_as rfl) ?_
        refine snil ?_
        refine cret ?_
        refine then_ret ?_
        obtain rfl := Option.some.inj h
        refine ⟨Or.inr rfl, _, _, _, (resVs_cons (ResV.tmp _ _ rfl) resVs_nil), (pubA_id rfl), ?_⟩
        rfl
      · replace h := ite_f hc h
        clear hc
        refine cskip ?_
        refine then_normal ?_
        exact ⟨(), _, h, ⟨rfl, rfl, rfl, trivial⟩, rfl⟩

def m23_frame_Puto (a0 : List UInt8) (a1 : List UInt8) : Option (Int × (List UInt8)) :=
  if (decide (512 < (a1.length : Int))) then (some (5, ([] : List UInt8))) else ((m33_frame_wrap a1).bind fun v1 => (m34_enc_U ([] : List UInt8) (BitVec.ofInt 64 v1.head_.size_) 2).bind fun v2 => (m34_enc_U v2 (v1.head_.sum_.setWidth 64) 4).bind fun v3 => (m25_slices_Concato [a0, v3, v1.payload_]).bind fun v4 => some (0, v4))

set_option maxRecDepth 100000 in
theorem m23_frame_Puto_c {a0 : List UInt8} {a1 : List UInt8} {r : Int × (List UInt8)} (h : m23_frame_Puto a0 a1 = some r) : CallsB Try.prog 23 [] [.one (.sl a0.length (a0.flatMap eU8)), .one (.sl a1.length (a1.flatMap eU8))] (fun y m' => y = .tup [.one (.ls 0 r.2.length), .one (.i .i64 r.1)] ∧ m' = [.arr 5 1 0 (r.2.flatMap eU8)]) := by
  unfold m23_frame_Puto at h
  refine callsB_of Try.func23 rfl (nt := 30) rfl (Nat.le_of_ble_eq_true rfl) ?_
  intro w0 S0 X0 H0
  refine cseq ?_
  refine cregion ?_
  refine sv rfl (opv_as rfl) ?_
  refine sv rfl (opv_as rfl) ?_
  refine snil ?_
  refine cseq ?_
  refine cseq ?_
  refine cregion ?_
  refine sv rfl (opv_mv rfl) ?_
  refine sv rfl (opv_len_sl si22 rfl) ?_
  refine sv rfl (opv_gtr rfl rfl) ?_
  refine snil ?_
  refine ccond rfl (fun hc => ?_) (fun hc => ?_)
  · replace h := ite_t hc h
    clear hc
    refine cseq ?_
    refine cregion ?_
    refine sv rfl (opv_as rfl) ?_
    refine sv rfl (opv_as rfl) ?_
    refine snil ?_
    refine sadopt_c 5 1 4 (by decide) rfl ?_
    refine cret ?_
    refine then_ret ?_
    obtain rfl := Option.some.inj h
    exact ⟨Or.inr rfl, _, [0], [.one (.ls 0 ([] : List UInt8).length), .one (.i .i64 5)], [.arr 5 1 0 (([] : List UInt8).flatMap eU8)], (resVs_cons (ResV.tmp _ _ rfl) (resVs_cons (ResV.tmp _ _ rfl) resVs_nil)), rfl, rfl, ⟨by decide, rfl⟩, rfl, rfl, ⟨rfl, rfl⟩⟩
  · replace h := ite_f hc h
    clear hc
    refine cskip ?_
    refine then_normal ?_
    refine cseq ?_
    refine cregion ?_
    refine sv rfl (opv_mv rfl) ?_
    obtain ⟨v1, hv1, h⟩ := bind_eq h
    refine scall1 rfl fn33 (opnds_cons rfl opnds_nil) (pubA_id rfl) (m33_frame_wrap_c hv1) ?_
    refine salloc rfl zi66 ?_
    refine sstore sz66 rfl rfl rfl rfl (Nat.le_of_ble_eq_true rfl) ?_
    refine smem [.box [.i .i64 v1.head_.size_, .i .u32 (v1.head_.sum_.toNat : Int), .sl v1.payload_.length (v1.payload_.flatMap eU8)]] rfl ?_
    refine snil ?_
    refine cseq ?_
    refine cregion ?_
    refine sv rfl (opv_fieldAddr_lp fi66_0 rfl) ?_
    refine sv rfl (opv_fieldAddr_lp fi64_0 rfl) ?_
    refine sv rfl (opv_load1 ti3 rfl (.lp _ _ _ rfl) rfl) ?_
    refine sv rfl (opv_conv_ibv rfl Try.underlying3 Try.underlying58 rfl) ?_
    obtain ⟨v2, hv2, h⟩ := bind_eq h
    refine scall1 rfl fn34 (opnds_cons rfl (opnds_cons rfl (opnds_cons rfl opnds_nil))) (pubC rfl) (m34_enc_U_c hv2) ?_
    refine sv rfl (opv_as rfl) ?_
    refine snil ?_
    refine cseq ?_
    refine cregion ?_
    refine sv rfl (opv_mv rfl) ?_
    refine sv rfl (opv_fieldAddr_lp fi66_0 rfl) ?_
    refine sv rfl (opv_fieldAddr_lp fi64_1 rfl) ?_
    refine sv rfl (opv_load1 ti62 rfl (.lp _ _ _ rfl) rfl) ?_
    refine sv rfl (opv_conv_bv (k := .u32) (a := v1.head_.sum_) rfl Try.underlying62 Try.underlying58 rfl rfl) ?_
    obtain ⟨v3, hv3, h⟩ := bind_eq h
    refine scall1 rfl fn34 (opnds_cons rfl (opnds_cons rfl (opnds_cons rfl opnds_nil))) (pubA_id rfl) (m34_enc_U_c hv3) ?_
    refine sv rfl (opv_as rfl) ?_
    refine snil ?_
    refine cseq ?_
    refine cregion ?_
    refine sv rfl (opv_mv rfl) ?_
    refine sv rfl (opv_mv rfl) ?_
    refine sv rfl (opv_fieldAddr_lp fi66_1 rfl) ?_
    refine sv rfl (opv_load1 ti22 rfl (.lp _ _ _ rfl) rfl) ?_
    refine sbuildN (out := ([a0, v3, v1.payload_] : List (List UInt8)).flatMap (eL eU8)) rfl Try.underlying28 ei22 (parts_cons rfl (parts_cons rfl (parts_cons rfl parts_nil))) (.cons _ _ _ _ _ _ _ rfl rfl (Nat.le_of_ble_eq_true rfl) (.cons _ _ _ _ _ _ _ rfl rfl (Nat.le_of_ble_eq_true rfl) (.cons _ _ _ _ _ _ _ rfl rfl (Nat.le_of_ble_eq_true rfl) (.nil _)))) rfl (by decide) ?_
    refine spub 28 rfl (by (repeat' first | exact PubA.nil _ | apply PubA.cons | apply PubV.one | apply PubV.agg | exact PubL.nil | exact PubL.ls _ _ _ _ _ _ rfl (flat_len (f := (eL eU8)) (fun _ => rfl) ([a0, v3, v1.payload_] : List (List UInt8))).symm | exact PubL.ls _ _ _ _ _ _ rfl (flat_len (f := (eL eU8)) (fun _ => rfl) _).symm | exact PubL.id _ rfl | exact PubLs.nil _ | apply PubLs.cons)) ?_
    obtain ⟨v4, hv4, h⟩ := bind_eq h
    refine scallB (x' := .s (.one (.ls 2 v4.length))) (M' := [.box [.i .i64 v1.head_.size_, .i .u32 (v1.head_.sum_.toNat : Int), .sl v1.payload_.length (v1.payload_.flatMap eU8)], .arr 22 1 ([a0, v3, v1.payload_].flatMap (eL eU8)).length ([a0, v3, v1.payload_].flatMap (eL eU8)), .arr 5 1 0 (v4.flatMap eU8)]) [] rfl fn25 (.func _) (opnds_cons rfl opnds_nil) (m25_slices_Concato_c hv4) rfl rfl (by decide) rfl rfl rfl ?_
    refine sv rfl (opv_as rfl) ?_
    refine sv rfl (opv_as rfl) ?_
    refine snil ?_
    refine cret ?_
    obtain rfl := Option.some.inj h
    exact ⟨Or.inr rfl, _, [2], [.one (.ls 0 v4.length), .one (.i .i64 0)], [.arr 5 1 0 (v4.flatMap eU8)], (resVs_cons (ResV.tmp _ _ rfl) (resVs_cons (ResV.tmp _ _ rfl) resVs_nil)), rfl, rfl, ⟨by decide, rfl⟩, rfl, rfl, ⟨rfl, rfl⟩⟩

def m6_l04_StreamDead_k7 (a0 : List (List UInt8)) (a2 : List UInt8) (v1 : Bool) (v4 : (List UInt8) × Int × Int) (v6 : GStreamStream × (List (List UInt8)) × Int) (b7 : Unit) : Option Bool :=
  (m11_stream_Feed v6.1 a2).bind fun v8 => if v1 then (if (decide (v6.2.2 = v4.2.2)) then (if (decide (v6.1.Dead = v4.2.2)) then ((m16_r03_Lists v6.2.1 a0).bind fun v9 => if v9 then (if (decide (v8.2.2 = 13)) then (if (decide ((v8.2.1.length : Int) = 0)) then ((m15_l04_theirs v6.1).bind fun v10 => (m15_l04_theirs v8.1).bind fun v11 => (m14_r04_Same v10 v11).bind fun v12 => if v12 then ((m19_stream_Wants v6.1).bind fun v13 => some (decide (v13 = 0))) else (some false)) else (some false)) else (some false)) else (some false)) else (some false)) else (some false)) else (some false)

def m6_l04_StreamDead_k3 (a0 : List (List UInt8)) (a1 : List UInt8) (a2 : List UInt8) (v1 : Bool) (b3 : (List UInt8)) : Option Bool :=
  (m24_frame_Read a1 0).bind fun v4 => if (b3.length + a1.length) * 1 ≤ 140737488355328 then ((m21_l04_fed [(b3 ++ a1)]).bind fun v6 => if (!decide (v4.2.2 = 4)) then (if (!decide (v4.2.2 = 5)) then (if v1 then (some (!decide (v6.2.2 = 13))) else (some false)) else (m6_l04_StreamDead_k7 a0 a2 v1 v4 v6 ())) else (m6_l04_StreamDead_k7 a0 a2 v1 v4 v6 ())) else none

def m6_l04_StreamDead_s14 (a0 : List (List UInt8)) (s14 : Int × (List UInt8)) : Option (LR (Int × (List UInt8)) ((List UInt8)) (Bool)) :=
  if (decide (s14.1 < (a0.length : Int))) then ((idx a0 s14.1).bind fun u15 => (m23_frame_Puto s14.2 u15).bind fun v16 => if (!decide (v16.1 = 0)) then (some (.ret false)) else (some (.cont ((wI (s14.1 + 1)), v16.2)))) else (some (.brk s14.2))

def m6_l04_StreamDead_k2 (a0 : List (List UInt8)) (a1 : List UInt8) (a2 : List UInt8) (v1 : Bool) (b2 : Unit) : Option Bool :=
  (iter (m6_l04_StreamDead_s14 a0) fuel (0, ([] : List UInt8))).bind fun x => match x with | .inl r => some r | .inr e17 => m6_l04_StreamDead_k3 a0 a1 a2 v1 e17
def m6_l04_StreamDead (a0 : List (List UInt8)) (a1 : List UInt8) (a2 : List UInt8) : Option Bool :=
  (m10_l04_awake).bind fun v1 => (m22_r03_Few a0 512).bind fun v18 => if (!v18) then (some v1) else (if (decide (500 < (a1.length : Int))) then (some v1) else (if (decide (2000 < (a2.length : Int))) then (some v1) else (m6_l04_StreamDead_k2 a0 a1 a2 v1 ())))

set_option maxRecDepth 100000 in
theorem m6_l04_StreamDead_c {a0 : List (List UInt8)} {a1 : List UInt8} {a2 : List UInt8} {r : Bool} (h : m6_l04_StreamDead a0 a1 a2 = some r) : CallsA Try.prog 6 [.one (.sl a0.length (a0.flatMap (eL eU8))), .one (.sl a1.length (a1.flatMap eU8)), .one (.sl a2.length (a2.flatMap eU8))] (· = .s (.one (.b r))) := by
  unfold m6_l04_StreamDead at h
  refine callsA_of Try.func6 rfl (nt := 126) rfl (Nat.le_of_ble_eq_true rfl) ?_
  intro w0 S0
  refine cseq ?_
  refine cregion ?_
  refine sv rfl (opv_as rfl) ?_
  refine snil ?_
  refine cseq ?_
  refine cregion ?_
  obtain ⟨v1, hv1, h⟩ := bind_eq h
  refine scall1 rfl fn10 opnds_nil (pubA_id rfl) (m10_l04_awake_c hv1) ?_
  refine sv rfl (opv_as rfl) ?_
  refine snil ?_
  refine cseq ?_
  refine cseq ?_
  refine cjoin3 (Unit) (fun b2 => [(0, .s (.one (.sl a0.length (a0.flatMap (eL eU8))))), (1, .s (.one (.sl a1.length (a1.flatMap eU8)))), (2, .s (.one (.sl a2.length (a2.flatMap eU8)))), (7, .s (.one (.b v1)))]) (fun b2 => []) (fun b2 => m6_l04_StreamDead_k2 a0 a1 a2 v1 b2 = some r) (fun _ _ => inbL_of rfl) (fun _ _ => blkinb_of rfl) (fun _ _ => Nat.le_of_ble_eq_true rfl) (fun b2 h => ?_) ?_
  · unfold m6_l04_StreamDead_k2 at h
    refine cseq ?_
    refine cregion ?_
    refine sv rfl (opv_as rfl) ?_
    refine snil ?_
    refine cseq ?_
    refine cseq ?_
    refine cregion ?_
    refine sv rfl (opv_as rfl) ?_
    refine snil ?_
    refine sadopt_c 5 1 8 (by decide) rfl ?_
    refine cjoin ((List UInt8)) (fun b3 => [(0, .s (.one (.sl a0.length (a0.flatMap (eL eU8))))), (1, .s (.one (.sl a1.length (a1.flatMap eU8)))), (2, .s (.one (.sl a2.length (a2.flatMap eU8)))), (7, .s (.one (.b v1))), (8, .s (.one (.ls 0 b3.length)))]) (fun b3 => [.arr 5 1 0 (b3.flatMap eU8)]) (fun b3 => m6_l04_StreamDead_k3 a0 a1 a2 v1 b3 = some r) (fun _ _ => inbL_of rfl) (fun _ _ => blkinb_of rfl) (fun _ _ => Nat.le_of_ble_eq_true rfl) (fun b3 h => ?_) ?_
    · unfold m6_l04_StreamDead_k3 at h
      refine cseq ?_
      refine cregion ?_
      refine sv rfl (opv_mv rfl) ?_
      obtain ⟨v4, hv4, h⟩ := bind_eq h
      refine scall1 rfl fn24 (opnds_cons rfl (opnds_cons rfl opnds_nil)) (pubA_id rfl) (m24_frame_Read_c hv4) ?_
      refine sv rfl (opv_mvt rfl) ?_
      refine sv rfl (opv_extract rfl rfl) ?_
      refine sv rfl (opv_extract rfl rfl) ?_
      refine sv rfl (opv_extract rfl rfl) ?_
      refine sv rfl (opv_as rfl) ?_
      refine sv rfl (opv_as rfl) ?_
      refine sv rfl (opv_as rfl) ?_
      refine snil ?_
      refine cseq ?_
      refine cregion ?_
      refine sv rfl (opv_mv rfl) ?_
      refine sv rfl (opv_mv rfl) ?_
      obtain ⟨hb5, h⟩ := chk_eq h
      refine sapp (f := eU8) (xs := b3) (us := a1) rfl Try.underlying22 ei5 ni22 (fun _ => rfl) rfl rfl (.one _ _ _ _ (.id _ rfl)) rfl rfl rfl (.sl _ _ _ (flat_len (f := eU8) (fun _ => rfl) _)) rfl rfl hb5 (by decide) ?_
      refine sv rfl (opv_as rfl) ?_
      refine snil ?_
      refine cseq ?_
      refine cregion ?_
      refine sv rfl (opv_mv rfl) ?_
      refine spub 64 rfl (by (repeat' first | exact PubA.nil _ | apply PubA.cons | apply PubV.one | apply PubV.agg | exact PubL.nil | exact PubL.ls _ _ _ _ _ _ rfl (flat_len (f := eU8) (fun _ => rfl) _).symm | exact PubL.id _ rfl | exact PubLs.nil _ | apply PubLs.cons)) ?_
      refine sbuild1 rfl Try.underlying28 ei22 rfl rfl (List.all_eq_true.1 rfl) (by decide) ?_
      refine smem [.arr 5 1 ((b3 ++ a1).flatMap eU8).length ((b3 ++ a1).flatMap eU8), .arr 22 1 0 ([(b3 ++ a1)].flatMap (eL eU8))] rfl ?_
      refine spub 65 rfl (by (repeat' first | exact PubA.nil _ | apply PubA.cons | apply PubV.one | apply PubV.agg | exact PubL.nil | exact PubL.ls _ _ _ _ _ _ rfl (flat_len (f := (eL eU8)) (fun _ => rfl) ([(b3 ++ a1)] : List (List UInt8))).symm | exact PubL.ls _ _ _ _ _ _ rfl (flat_len (f := (eL eU8)) (fun _ => rfl) _).symm | exact PubL.ls _ _ _ _ _ _ rfl (flat_len (f := eU8) (fun _ => rfl) _).symm | exact PubL.id _ rfl | exact PubLs.nil _ | apply PubLs.cons)) ?_
      obtain ⟨v6, hv6, h⟩ := bind_eq h
      refine scall1 rfl fn21 (opnds_cons rfl opnds_nil) (pubA_id rfl) (m21_l04_fed_c hv6) ?_
      refine sv rfl (opv_mvt rfl) ?_
      refine sv rfl (opv_extract rfl rfl) ?_
      refine sv rfl (opv_extract rfl rfl) ?_
      refine sv rfl (opv_extract rfl rfl) ?_
      refine salloc rfl zi27 ?_
      refine sstore sz27 rfl rfl rfl rfl (Nat.le_of_ble_eq_true rfl) ?_
      refine smem [.arr 5 1 ((b3 ++ a1).flatMap eU8).length ((b3 ++ a1).flatMap eU8), .arr 22 1 ([(b3 ++ a1)].flatMap (eL eU8)).length ([(b3 ++ a1)].flatMap (eL eU8)), .box [.sl v6.1.Buf.length (v6.1.Buf.flatMap eU8), .i .i64 v6.1.Dead]] rfl ?_
      refine sv rfl (opv_as rfl) ?_
      refine sv rfl (opv_as rfl) ?_
      refine snil ?_
      refine cseq ?_
      refine cseq ?_
      refine cjoin3 (Unit) (fun b7 => [(0, .s (.one (.sl a0.length (a0.flatMap (eL eU8))))), (2, .s (.one (.sl a2.length (a2.flatMap eU8)))), (7, .s (.one (.b v1))), (14, .s (.one (.i .i64 v4.2.2))), (15, .s (.one (.lp 2 0))), (16, .s (.one (.sl v6.2.1.length (v6.2.1.flatMap (eL eU8))))), (17, .s (.one (.i .i64 v6.2.2)))]) (fun b7 => [.arr 5 1 ((b3 ++ a1).flatMap eU8).length ((b3 ++ a1).flatMap eU8), .arr 22 1 ([(b3 ++ a1)].flatMap (eL eU8)).length ([(b3 ++ a1)].flatMap (eL eU8)), .box [.sl v6.1.Buf.length (v6.1.Buf.flatMap eU8), .i .i64 v6.1.Dead]]) (fun b7 => m6_l04_StreamDead_k7 a0 a2 v1 v4 v6 b7 = some r) (fun _ _ => inbL_of rfl) (fun _ _ => blkinb_of rfl) (fun _ _ => Nat.le_of_ble_eq_true rfl) (fun b7 h => ?_) ?_
      · unfold m6_l04_StreamDead_k7 at h
        refine cseq ?_
        refine cregion ?_
        refine sv rfl (opv_loadN ti27 rfl (.lp _ _ _ rfl) (Nat.le_of_ble_eq_true rfl)) ?_
        refine sv rfl (opv_mv rfl) ?_
        obtain ⟨v8, hv8, h⟩ := bind_eq h
        refine scall1 rfl fn11 (opnds_cons rfl (opnds_cons rfl opnds_nil)) (pubA_id rfl) (m11_stream_Feed_c hv8) ?_
        refine sv rfl (opv_mvt rfl) ?_
        refine sv rfl (opv_extract rfl rfl) ?_
        refine sv rfl (opv_extract rfl rfl) ?_
        refine sv rfl (opv_extract rfl rfl) ?_
        refine salloc rfl zi27 ?_
        refine sstore sz27 rfl rfl rfl rfl (Nat.le_of_ble_eq_true rfl) ?_
        refine smem [.arr 5 1 ((b3 ++ a1).flatMap eU8).length ((b3 ++ a1).flatMap eU8), .arr 22 1 ([(b3 ++ a1)].flatMap (eL eU8)).length ([(b3 ++ a1)].flatMap (eL eU8)), .box [.sl v6.1.Buf.length (v6.1.Buf.flatMap eU8), .i .i64 v6.1.Dead], .box [.sl v8.1.Buf.length (v8.1.Buf.flatMap eU8), .i .i64 v8.1.Dead]] rfl ?_
        refine sv rfl (opv_as rfl) ?_
        refine sv rfl (opv_as rfl) ?_
        refine snil ?_
        refine cseq ?_
        refine cdraw mixed (by kernel_rfl) ?_
        refine dv rfl (opv_mv rfl) ?_
        refine dv rfl (opv_mv rfl) ?_
        refine dsplit 89 rfl (fun hc => ?_) (fun hc => ?_)
        · replace h := ite_t hc h
          clear hc
          refine dvg rfl rfl rfl (opv_mv rfl) ?_
          refine dvg rfl rfl rfl (opv_mv rfl) ?_
          refine dvg rfl rfl rfl (opv_ieql rfl rfl) ?_
          refine dv rfl (opv_pick_t rfl rfl) ?_
          refine dv rfl (opv_mv rfl) ?_
          refine dsplit 94 rfl (fun hc => ?_) (fun hc => ?_)
          · replace h := ite_t hc h
            clear hc
            refine dvg rfl rfl rfl (opv_fieldAddr_lp fi27_1 rfl) ?_
            refine dvg rfl rfl rfl (opv_load1 ti23 rfl (.lp _ _ _ rfl) rfl) ?_
            refine dvg rfl rfl rfl (opv_mv rfl) ?_
            refine dvg rfl rfl rfl (opv_ieql rfl rfl) ?_
            refine dv rfl (opv_pick_t rfl rfl) ?_
            refine dv rfl (opv_mv rfl) ?_
            refine dsplit 100 rfl (fun hc => ?_) (fun hc => ?_)
            · replace h := ite_t hc h
              clear hc
              refine dvg rfl rfl rfl (opv_mv rfl) ?_
              refine dvg rfl rfl rfl (opv_mv rfl) ?_
              obtain ⟨v9, hv9, h⟩ := bind_eq h
              refine ddg rfl rfl rfl (opD_call fn16 (opnds_cons rfl (opnds_cons rfl opnds_nil)) rfl (m16_r03_Lists_c hv9)) ?_
              refine dv rfl (opv_pick_t rfl rfl) ?_
              refine dv rfl (opv_mv rfl) ?_
              refine dsplit 105 rfl (fun hc => ?_) (fun hc => ?_)
              · replace h := ite_t hc h
                clear hc
                refine dvg rfl rfl rfl (opv_mv rfl) ?_
                refine dvg rfl rfl rfl (opv_ieql rfl rfl) ?_
                refine dv rfl (opv_pick_t rfl rfl) ?_
                refine dv rfl (opv_mv rfl) ?_
                refine dsplit 109 rfl (fun hc => ?_) (fun hc => ?_)
                · replace h := ite_t hc h
                  clear hc
                  refine dvg rfl rfl rfl (opv_mv rfl) ?_
                  refine dvg rfl rfl rfl (opv_len_sl si28 rfl) ?_
                  refine dvg rfl rfl rfl (opv_ieql rfl rfl) ?_
                  refine dv rfl (opv_pick_t rfl rfl) ?_
                  refine dv rfl (opv_mv rfl) ?_
                  refine dsplit 114 rfl (fun hc => ?_) (fun hc => ?_)
                  · replace h := ite_t hc h
                    clear hc
                    refine dvg rfl rfl rfl (opv_loadN ti27 rfl (.lp _ _ _ rfl) (Nat.le_of_ble_eq_true rfl)) ?_
                    obtain ⟨v10, hv10, h⟩ := bind_eq h
                    refine ddg rfl rfl rfl (opD_call fn15 (opnds_cons rfl opnds_nil) rfl (m15_l04_theirs_c hv10)) ?_
                    refine dvg rfl rfl rfl (opv_loadN ti27 rfl (.lp _ _ _ rfl) (Nat.le_of_ble_eq_true rfl)) ?_
                    obtain ⟨v11, hv11, h⟩ := bind_eq h
                    refine ddg rfl rfl rfl (opD_call fn15 (opnds_cons rfl opnds_nil) rfl (m15_l04_theirs_c hv11)) ?_
                    obtain ⟨v12, hv12, h⟩ := bind_eq h
                    refine ddg rfl rfl rfl (opD_call fn14 (opnds_cons rfl (opnds_cons rfl opnds_nil)) rfl (m14_r04_Same_c hv12)) ?_
                    refine dv rfl (opv_pick_t rfl rfl) ?_
                    refine dv rfl (opv_mv rfl) ?_
                    refine dsplit 121 rfl (fun hc => ?_) (fun hc => ?_)
                    · replace h := ite_t hc h
                      clear hc
                      refine dvg rfl rfl rfl (opv_loadN ti27 rfl (.lp _ _ _ rfl) (Nat.le_of_ble_eq_true rfl)) ?_
                      obtain ⟨v13, hv13, h⟩ := bind_eq h
                      refine ddg rfl rfl rfl (opD_call fn19 (opnds_cons rfl opnds_nil) rfl (m19_stream_Wants_c hv13)) ?_
                      refine dvg rfl rfl rfl (opv_ieql rfl rfl) ?_
                      refine dv rfl (opv_pick_t rfl rfl) ?_
                      refine dv rfl (opv_as rfl) ?_
                      refine dnil ?_
                      refine then_normal ?_
                      refine cret ?_
                      obtain rfl := Option.some.inj h
                      refine ⟨Or.inr rfl, _, _, _, (resVs_cons (ResV.tmp _ _ rfl) resVs_nil), (pubA_id rfl), ?_⟩
                      rfl
                    · replace h := ite_f hc h
                      clear hc
                      refine doff rfl rfl rfl rfl ?_
                      refine doff rfl rfl rfl rfl ?_
                      refine doff rfl rfl rfl rfl ?_
                      refine dv rfl (opv_pick_f rfl rfl) ?_
                      refine dv rfl (opv_as rfl) ?_
                      refine dnil ?_
                      refine then_normal ?_
                      refine cret ?_
                      obtain rfl := Option.some.inj h
                      refine ⟨Or.inr rfl, _, _, _, (resVs_cons (ResV.tmp _ _ rfl) resVs_nil), (pubA_id rfl), ?_⟩
                      rfl
                  · replace h := ite_f hc h
                    clear hc
                    refine doff rfl rfl rfl rfl ?_
                    refine doff rfl rfl rfl rfl ?_
                    refine doff rfl rfl rfl rfl ?_
                    refine doff rfl rfl rfl rfl ?_
                    refine doff rfl rfl rfl rfl ?_
                    refine dv rfl (opv_pick_f rfl rfl) ?_
                    refine dv rfl (opv_mv rfl) ?_
                    refine doff rfl rfl rfl rfl ?_
                    refine doff rfl rfl rfl rfl ?_
                    refine doff rfl rfl rfl rfl ?_
                    refine dv rfl (opv_pick_f rfl rfl) ?_
                    refine dv rfl (opv_as rfl) ?_
                    refine dnil ?_
                    refine then_normal ?_
                    refine cret ?_
                    obtain rfl := Option.some.inj h
                    refine ⟨Or.inr rfl, _, _, _, (resVs_cons (ResV.tmp _ _ rfl) resVs_nil), (pubA_id rfl), ?_⟩
                    rfl
                · replace h := ite_f hc h
                  clear hc
                  refine doff rfl rfl rfl rfl ?_
                  refine doff rfl rfl rfl rfl ?_
                  refine doff rfl rfl rfl rfl ?_
                  refine dv rfl (opv_pick_f rfl rfl) ?_
                  refine dv rfl (opv_mv rfl) ?_
                  refine doff rfl rfl rfl rfl ?_
                  refine doff rfl rfl rfl rfl ?_
                  refine doff rfl rfl rfl rfl ?_
                  refine doff rfl rfl rfl rfl ?_
                  refine doff rfl rfl rfl rfl ?_
                  refine dv rfl (opv_pick_f rfl rfl) ?_
                  refine dv rfl (opv_mv rfl) ?_
                  refine doff rfl rfl rfl rfl ?_
                  refine doff rfl rfl rfl rfl ?_
                  refine doff rfl rfl rfl rfl ?_
                  refine dv rfl (opv_pick_f rfl rfl) ?_
                  refine dv rfl (opv_as rfl) ?_
                  refine dnil ?_
                  refine then_normal ?_
                  refine cret ?_
                  obtain rfl := Option.some.inj h
                  refine ⟨Or.inr rfl, _, _, _, (resVs_cons (ResV.tmp _ _ rfl) resVs_nil), (pubA_id rfl), ?_⟩
                  rfl
              · replace h := ite_f hc h
                clear hc
                refine doff rfl rfl rfl rfl ?_
                refine doff rfl rfl rfl rfl ?_
                refine dv rfl (opv_pick_f rfl rfl) ?_
                refine dv rfl (opv_mv rfl) ?_
                refine doff rfl rfl rfl rfl ?_
                refine doff rfl rfl rfl rfl ?_
                refine doff rfl rfl rfl rfl ?_
                refine dv rfl (opv_pick_f rfl rfl) ?_
                refine dv rfl (opv_mv rfl) ?_
                refine doff rfl rfl rfl rfl ?_
                refine doff rfl rfl rfl rfl ?_
                refine doff rfl rfl rfl rfl ?_
                refine doff rfl rfl rfl rfl ?_
                refine doff rfl rfl rfl rfl ?_
                refine dv rfl (opv_pick_f rfl rfl) ?_
                refine dv rfl (opv_mv rfl) ?_
                refine doff rfl rfl rfl rfl ?_
                refine doff rfl rfl rfl rfl ?_
                refine doff rfl rfl rfl rfl ?_
                refine dv rfl (opv_pick_f rfl rfl) ?_
                refine dv rfl (opv_as rfl) ?_
                refine dnil ?_
                refine then_normal ?_
                refine cret ?_
                obtain rfl := Option.some.inj h
                refine ⟨Or.inr rfl, _, _, _, (resVs_cons (ResV.tmp _ _ rfl) resVs_nil), (pubA_id rfl), ?_⟩
                rfl
            · replace h := ite_f hc h
              clear hc
              refine doff rfl rfl rfl rfl ?_
              refine doff rfl rfl rfl rfl ?_
              refine doff rfl rfl rfl rfl ?_
              refine dv rfl (opv_pick_f rfl rfl) ?_
              refine dv rfl (opv_mv rfl) ?_
              refine doff rfl rfl rfl rfl ?_
              refine doff rfl rfl rfl rfl ?_
              refine dv rfl (opv_pick_f rfl rfl) ?_
              refine dv rfl (opv_mv rfl) ?_
              refine doff rfl rfl rfl rfl ?_
              refine doff rfl rfl rfl rfl ?_
              refine doff rfl rfl rfl rfl ?_
              refine dv rfl (opv_pick_f rfl rfl) ?_
              refine dv rfl (opv_mv rfl) ?_
              refine doff rfl rfl rfl rfl ?_
              refine doff rfl rfl rfl rfl ?_
              refine doff rfl rfl rfl rfl ?_
              refine doff rfl rfl rfl rfl ?_
              refine doff rfl rfl rfl rfl ?_
              refine dv rfl (opv_pick_f rfl rfl) ?_
              refine dv rfl (opv_mv rfl) ?_
              refine doff rfl rfl rfl rfl ?_
              refine doff rfl rfl rfl rfl ?_
              refine doff rfl rfl rfl rfl ?_
              refine dv rfl (opv_pick_f rfl rfl) ?_
              refine dv rfl (opv_as rfl) ?_
              refine dnil ?_
              refine then_normal ?_
              refine cret ?_
              obtain rfl := Option.some.inj h
              refine ⟨Or.inr rfl, _, _, _, (resVs_cons (ResV.tmp _ _ rfl) resVs_nil), (pubA_id rfl), ?_⟩
              rfl
          · replace h := ite_f hc h
            clear hc
            refine doff rfl rfl rfl rfl ?_
            refine doff rfl rfl rfl rfl ?_
            refine doff rfl rfl rfl rfl ?_
            refine doff rfl rfl rfl rfl ?_
            refine dv rfl (opv_pick_f rfl rfl) ?_
            refine dv rfl (opv_mv rfl) ?_
            refine doff rfl rfl rfl rfl ?_
            refine doff rfl rfl rfl rfl ?_
            refine doff rfl rfl rfl rfl ?_
            refine dv rfl (opv_pick_f rfl rfl) ?_
            refine dv rfl (opv_mv rfl) ?_
            refine doff rfl rfl rfl rfl ?_
            refine doff rfl rfl rfl rfl ?_
            refine dv rfl (opv_pick_f rfl rfl) ?_
            refine dv rfl (opv_mv rfl) ?_
            refine doff rfl rfl rfl rfl ?_
            refine doff rfl rfl rfl rfl ?_
            refine doff rfl rfl rfl rfl ?_
            refine dv rfl (opv_pick_f rfl rfl) ?_
            refine dv rfl (opv_mv rfl) ?_
            refine doff rfl rfl rfl rfl ?_
            refine doff rfl rfl rfl rfl ?_
            refine doff rfl rfl rfl rfl ?_
            refine doff rfl rfl rfl rfl ?_
            refine doff rfl rfl rfl rfl ?_
            refine dv rfl (opv_pick_f rfl rfl) ?_
            refine dv rfl (opv_mv rfl) ?_
            refine doff rfl rfl rfl rfl ?_
            refine doff rfl rfl rfl rfl ?_
            refine doff rfl rfl rfl rfl ?_
            refine dv rfl (opv_pick_f rfl rfl) ?_
            refine dv rfl (opv_as rfl) ?_
            refine dnil ?_
            refine then_normal ?_
            refine cret ?_
            obtain rfl := Option.some.inj h
            refine ⟨Or.inr rfl, _, _, _, (resVs_cons (ResV.tmp _ _ rfl) resVs_nil), (pubA_id rfl), ?_⟩
            rfl
        · replace h := ite_f hc h
          clear hc
          refine doff rfl rfl rfl rfl ?_
          refine doff rfl rfl rfl rfl ?_
          refine doff rfl rfl rfl rfl ?_
          refine dv rfl (opv_pick_f rfl rfl) ?_
          refine dv rfl (opv_mv rfl) ?_
          refine doff rfl rfl rfl rfl ?_
          refine doff rfl rfl rfl rfl ?_
          refine doff rfl rfl rfl rfl ?_
          refine doff rfl rfl rfl rfl ?_
          refine dv rfl (opv_pick_f rfl rfl) ?_
          refine dv rfl (opv_mv rfl) ?_
          refine doff rfl rfl rfl rfl ?_
          refine doff rfl rfl rfl rfl ?_
          refine doff rfl rfl rfl rfl ?_
          refine dv rfl (opv_pick_f rfl rfl) ?_
          refine dv rfl (opv_mv rfl) ?_
          refine doff rfl rfl rfl rfl ?_
          refine doff rfl rfl rfl rfl ?_
          refine dv rfl (opv_pick_f rfl rfl) ?_
          refine dv rfl (opv_mv rfl) ?_
          refine doff rfl rfl rfl rfl ?_
          refine doff rfl rfl rfl rfl ?_
          refine doff rfl rfl rfl rfl ?_
          refine dv rfl (opv_pick_f rfl rfl) ?_
          refine dv rfl (opv_mv rfl) ?_
          refine doff rfl rfl rfl rfl ?_
          refine doff rfl rfl rfl rfl ?_
          refine doff rfl rfl rfl rfl ?_
          refine doff rfl rfl rfl rfl ?_
          refine doff rfl rfl rfl rfl ?_
          refine dv rfl (opv_pick_f rfl rfl) ?_
          refine dv rfl (opv_mv rfl) ?_
          refine doff rfl rfl rfl rfl ?_
          refine doff rfl rfl rfl rfl ?_
          refine doff rfl rfl rfl rfl ?_
          refine dv rfl (opv_pick_f rfl rfl) ?_
          refine dv rfl (opv_as rfl) ?_
          refine dnil ?_
          refine then_normal ?_
          refine cret ?_
          obtain rfl := Option.some.inj h
          refine ⟨Or.inr rfl, _, _, _, (resVs_cons (ResV.tmp _ _ rfl) resVs_nil), (pubA_id rfl), ?_⟩
          rfl
      · skip
        refine cregion ?_
        refine sv rfl (opv_mv rfl) ?_
        refine sv rfl (opv_ineq rfl rfl) ?_
        refine sv rfl (opv_mv rfl) ?_
        refine ssplit 72 rfl (fun hc => ?_) (fun hc => ?_)
        · replace h := ite_t hc h
          clear hc
          refine son rfl rfl rfl ?_
          refine sv rfl (opv_mv rfl) ?_
          refine son rfl rfl rfl ?_
          refine sv rfl (opv_ineq rfl rfl) ?_
          refine sv rfl (opv_pick_t rfl rfl) ?_
          refine snil ?_
          refine ccond rfl (fun hc => ?_) (fun hc => ?_)
          · replace h := ite_t hc h
            clear hc
            refine cseq ?_
            refine cregion ?_
            refine sv rfl (opv_mv rfl) ?_
            refine sv rfl (opv_mv rfl) ?_
            refine ssplit 77 rfl (fun hc => ?_) (fun hc => ?_)
            · replace h := ite_t hc h
              clear hc
              refine son rfl rfl rfl ?_
              refine sv rfl (opv_mv rfl) ?_
              refine son rfl rfl rfl ?_
              refine sv rfl (opv_ineq rfl rfl) ?_
              refine sv rfl (opv_pick_t rfl rfl) ?_
              refine sv rfl (opv_as rfl) ?_
              refine snil ?_
              refine cret ?_
              refine then_ret ?_
              obtain rfl := Option.some.inj h
              refine ⟨Or.inr rfl, _, _, _, (resVs_cons (ResV.tmp _ _ rfl) resVs_nil), (pubA_id rfl), ?_⟩
              rfl
            · replace h := ite_f hc h
              clear hc
              refine soff rfl rfl rfl rfl ?_
              refine soff rfl rfl rfl rfl ?_
              refine sv rfl (opv_pick_f rfl rfl) ?_
              refine sv rfl (opv_as rfl) ?_
              refine snil ?_
              refine cret ?_
              refine then_ret ?_
              obtain rfl := Option.some.inj h
              refine ⟨Or.inr rfl, _, _, _, (resVs_cons (ResV.tmp _ _ rfl) resVs_nil), (pubA_id rfl), ?_⟩
              rfl
          · replace h := ite_f hc h
            clear hc
            refine cskip ?_
            refine then_normal ?_
            exact ⟨(), _, h, ⟨rfl, rfl, rfl, rfl, rfl, rfl, rfl, trivial⟩, rfl⟩
        · replace h := ite_f hc h
          clear hc
          refine soff rfl rfl rfl rfl ?_
          refine soff rfl rfl rfl rfl ?_
          refine sv rfl (opv_pick_f rfl rfl) ?_
          refine snil ?_
          refine ccond rfl (fun hx => Bool.noConfusion hx) (fun _ => ?_)
          refine cskip ?_
          refine then_normal ?_
          exact ⟨(), _, h, ⟨rfl, rfl, rfl, rfl, rfl, rfl, rfl, trivial⟩, rfl⟩
    · skip
      refine cblock ?_
      obtain ⟨x14, hx14, ho14⟩ := bind_eq h
      refine awc_loop (G := Nat × (Int × (List UInt8))) (fun g => [(0, .s (.one (.sl a0.length (a0.flatMap (eL eU8))))), (1, .s (.one (.sl a1.length (a1.flatMap eU8)))), (2, .s (.one (.sl a2.length (a2.flatMap eU8)))), (7, .s (.one (.b v1))), (8, .s (.one (.ls 0 g.2.2.length))), (9, .s (.one (.i .i64 g.2.1)))]) (fun g => [.arr 5 1 0 (g.2.2.flatMap eU8)]) (fun g => iter (m6_l04_StreamDead_s14 a0) g.1 g.2 = some x14) (fun g => g.1) (fuel, (0, ([] : List UInt8))) hx14 ⟨rfl, rfl, rfl, rfl, rfl, rfl, trivial⟩ [] rfl (fun _ _ => inbL_of rfl) (fun _ _ => blkinb_of rfl) (fun _ _ => Nat.le_of_ble_eq_true rfl) ?_
      clear hx14 h
      rintro ⟨n14, s14⟩ h
      obtain ⟨n14, y14, rfl, h, hk14⟩ := iter_eq h
      unfold m6_l04_StreamDead_s14 at h
      refine cseq ?_
      refine cseq ?_
      refine cregion ?_
      refine sv rfl (opv_mv rfl) ?_
      refine sv rfl (opv_mv rfl) ?_
      refine sv rfl (opv_len_sl si28 rfl) ?_
      refine sv rfl (opv_lss rfl rfl) ?_
      refine snil ?_
      refine ccond rfl (fun hc => ?_) (fun hc => ?_)
      · replace h := ite_t hc h
        clear hc
        refine cskip ?_
        refine then_normal ?_
        refine cseq ?_
        refine cblock ?_
        refine cseq ?_
        refine cregion ?_
        refine sv rfl (opv_mv rfl) ?_
        refine sv rfl (opv_mv rfl) ?_
        refine sv rfl (opv_mv rfl) ?_
        obtain ⟨u15, hu15, h⟩ := bind_eq h
        refine sv rfl (opv_ix (f := (eL eU8)) si28 (fun _ => rfl) rfl rfl rfl rfl hu15) ?_
        refine sv rfl (opv_load1 ti22 rfl (.cp _) rfl) ?_
        refine spub 43 rfl (by (repeat' first | exact PubA.nil _ | apply PubA.cons | apply PubV.one | apply PubV.agg | exact PubL.nil | exact PubL.ls _ _ _ _ _ _ rfl (flat_len (f := eU8) (fun _ => rfl) _).symm | exact PubL.id _ rfl | exact PubLs.nil _ | apply PubLs.cons)) ?_
        obtain ⟨v16, hv16, h⟩ := bind_eq h
        refine scallB (x' := .tup [.one (.ls 1 v16.2.length), .one (.i .i64 v16.1)]) (M' := [.arr 5 1 (s14.2.flatMap eU8).length (s14.2.flatMap eU8), .arr 5 1 0 (v16.2.flatMap eU8)]) [] rfl fn23 (.func _) (opnds_cons rfl (opnds_cons rfl opnds_nil)) (m23_frame_Puto_c hv16) rfl rfl (by decide) rfl rfl rfl ?_
        refine sv rfl (opv_mvt rfl) ?_
        refine sv rfl (opv_extract rfl rfl) ?_
        refine sv rfl (opv_extract rfl rfl) ?_
        refine sv rfl (opv_as rfl) ?_
        refine sv rfl (opv_as rfl) ?_
        refine snil ?_
        refine cseq ?_
        refine cseq ?_
        refine cregion ?_
        refine sv rfl (opv_mv rfl) ?_
        refine sv rfl (opv_ineq rfl rfl) ?_
        refine snil ?_
        refine ccond rfl (fun hc => ?_) (fun hc => ?_)
        · replace h := ite_t hc h
          clear hc
          refine cseq ?_
          refine cregion ?_
          refine sv rfl (opv_as rfl) ?_
          refine snil ?_
          refine cret ?_
          refine then_ret ?_
          refine block_ret ?_
          refine then_ret ?_
          refine then_ret ?_
          refine block_ret ?_
          refine then_ret ?_
          obtain rfl := Option.some.inj h
          obtain rfl : Sum.inl _ = x14 := hk14
          replace ho14 : some _ = some _ := ho14
          obtain rfl := Option.some.inj ho14
          refine ⟨Or.inr rfl, _, _, _, (resVs_cons (ResV.tmp _ _ rfl) resVs_nil), (pubA_id rfl), ?_⟩
          rfl
        · replace h := ite_f hc h
          clear hc
          refine cskip ?_
          refine then_normal ?_
          refine cregion ?_
          refine sv rfl (opv_mv rfl) ?_
          refine sv rfl (opv_as rfl) ?_
          refine snil0 ?_
          refine block_normal ?_
          refine then_normal ?_
          refine cregion ?_
          refine sv rfl (opv_mv rfl) ?_
          refine sv rfl (opv_add rfl rfl) ?_
          refine sv rfl (opv_as rfl) ?_
          refine sren 0 1 rfl rfl rfl rfl rfl ?_
          refine snil ?_
          obtain rfl := Option.some.inj h
          exact ⟨(n14, ((wI (s14.1 + 1)), v16.2)), _, hk14, ⟨rfl, rfl, rfl, rfl, rfl, rfl, trivial⟩, rfl, Nat.lt_succ_self _⟩
      · replace h := ite_f hc h
        clear hc
        refine cexit ?_
        refine then_exit ?_
        refine then_exit ?_
        refine block_hit ?_
        refine then_normal ?_
        obtain rfl := Option.some.inj h
        obtain rfl : _ = x14 := hk14
        exact ⟨s14.2, _, ho14, ⟨rfl, rfl, rfl, rfl, rfl, trivial⟩, rfl⟩
  · skip
    refine cregion ?_
    refine sv rfl (opv_mv rfl) ?_
    obtain ⟨v18, hv18, h⟩ := bind_eq h
    refine scall1 rfl fn22 (opnds_cons rfl (opnds_cons rfl opnds_nil)) (pubA_id rfl) (m22_r03_Few_c hv18) ?_
    refine sv rfl (opv_not rfl) ?_
    refine sv rfl (opv_mv rfl) ?_
    refine ssplit 25 rfl (fun hc => ?_) (fun hc => ?_)
    · replace h := ite_t hc h
      clear hc
      refine soff rfl rfl rfl rfl ?_
      refine soff rfl rfl rfl rfl ?_
      refine soff rfl rfl rfl rfl ?_
      refine sv rfl (opv_pick_t rfl rfl) ?_
      refine sv rfl (opv_mv rfl) ?_
      refine soff rfl rfl rfl rfl ?_
      refine soff rfl rfl rfl rfl ?_
      refine soff rfl rfl rfl rfl ?_
      refine sv rfl (opv_pick_t rfl rfl) ?_
      refine snil ?_
      refine ccond rfl (fun _ => ?_) (fun hx => Bool.noConfusion hx)
      refine cseq ?_
      refine cregion ?_
      refine sv rfl (opv_mv rfl) ?_
      refine sv rfl (opv_as rfl) ?_
      refine snil ?_
      refine cret ?_
      refine then_ret ?_
      obtain rfl := Option.some.inj h
      refine ⟨Or.inr rfl, _, _, _, (resVs_cons (ResV.tmp _ _ rfl) resVs_nil), (pubA_id rfl), ?_⟩
      rfl
    · replace h := ite_f hc h
      clear hc
      refine son rfl rfl rfl ?_
      refine sv rfl (opv_mv rfl) ?_
      refine son rfl rfl rfl ?_
      refine sv rfl (opv_len_sl si22 rfl) ?_
      refine son rfl rfl rfl ?_
      refine sv rfl (opv_gtr rfl rfl) ?_
      refine sv rfl (opv_pick_f rfl rfl) ?_
      refine sv rfl (opv_mv rfl) ?_
      refine ssplit 30 rfl (fun hc => ?_) (fun hc => ?_)
      · replace h := ite_t hc h
        clear hc
        refine soff rfl rfl rfl rfl ?_
        refine soff rfl rfl rfl rfl ?_
        refine soff rfl rfl rfl rfl ?_
        refine sv rfl (opv_pick_t rfl rfl) ?_
        refine snil ?_
        refine ccond rfl (fun _ => ?_) (fun hx => Bool.noConfusion hx)
        refine cseq ?_
        refine cregion ?_
        refine sv rfl (opv_mv rfl) ?_
        refine sv rfl (opv_as rfl) ?_
        refine snil ?_
        refine cret ?_
        refine then_ret ?_
        obtain rfl := Option.some.inj h
        refine ⟨Or.inr rfl, _, _, _, (resVs_cons (ResV.tmp _ _ rfl) resVs_nil), (pubA_id rfl), ?_⟩
        rfl
      · replace h := ite_f hc h
        clear hc
        refine son rfl rfl rfl ?_
        refine sv rfl (opv_mv rfl) ?_
        refine son rfl rfl rfl ?_
        refine sv rfl (opv_len_sl si22 rfl) ?_
        refine son rfl rfl rfl ?_
        refine sv rfl (opv_gtr rfl rfl) ?_
        refine sv rfl (opv_pick_f rfl rfl) ?_
        refine snil ?_
        refine ccond rfl (fun hc => ?_) (fun hc => ?_)
        · replace h := ite_t hc h
          clear hc
          refine cseq ?_
          refine cregion ?_
          refine sv rfl (opv_mv rfl) ?_
          refine sv rfl (opv_as rfl) ?_
          refine snil ?_
          refine cret ?_
          refine then_ret ?_
          obtain rfl := Option.some.inj h
          refine ⟨Or.inr rfl, _, _, _, (resVs_cons (ResV.tmp _ _ rfl) resVs_nil), (pubA_id rfl), ?_⟩
          rfl
        · replace h := ite_f hc h
          clear hc
          refine cskip ?_
          refine then_normal ?_
          exact ⟨(), _, h, ⟨rfl, rfl, rfl, rfl, trivial⟩, rfl⟩

def m7_l04_StreamWants_k8 (a1 : Int) (v1 : Bool) (v2 : (List UInt8) × Int) (v6 : GStreamStream × (List (List UInt8)) × Int) (v7 : Int) (b8 : Unit) : Option Bool :=
  (cut v2.1 ((wI ((BitVec.ofInt 64 a1 &&& BitVec.ofInt 64 65535).toNat : Int)).tmod (wI ((v2.1.length : Int) + 1))) (wI ((wI (((wI ((BitVec.ofInt 64 a1 &&& BitVec.ofInt 64 65535).toNat : Int)).tmod (wI ((v2.1.length : Int) + 1))) + v7)) - 1))).bind fun c9 => (m11_stream_Feed v6.1 c9).bind fun v10 => (cut v2.1 ((wI ((BitVec.ofInt 64 a1 &&& BitVec.ofInt 64 65535).toNat : Int)).tmod (wI ((v2.1.length : Int) + 1))) (wI (((wI ((BitVec.ofInt 64 a1 &&& BitVec.ofInt 64 65535).toNat : Int)).tmod (wI ((v2.1.length : Int) + 1))) + v7))).bind fun c11 => (m11_stream_Feed v6.1 c11).bind fun v12 => if v1 then (if (decide (v10.2.2 = 0)) then (if (decide ((v10.2.1.length : Int) = 0)) then (if (decide (v12.2.2 = 0)) then (if (decide ((v12.2.1.length : Int) = 1)) then (if (decide (((wI ((BitVec.ofInt 64 a1 &&& BitVec.ofInt 64 65535).toNat : Int)).tmod (wI ((v2.1.length : Int) + 1))) < 6)) then (some true) else (some (decide ((v12.2.1.length : Int) = 1)))) else ((m19_stream_Wants v12.1).bind fun v13 => if (decide (v13 = (wI ((wI ((v2.1.length : Int) - ((wI ((BitVec.ofInt 64 a1 &&& BitVec.ofInt 64 65535).toNat : Int)).tmod (wI ((v2.1.length : Int) + 1))))) - v7)))) then (if (decide (((wI ((BitVec.ofInt 64 a1 &&& BitVec.ofInt 64 65535).toNat : Int)).tmod (wI ((v2.1.length : Int) + 1))) < 6)) then (some true) else (some (decide ((v12.2.1.length : Int) = 1)))) else (some false))) else (some false)) else (some false)) else (some false)) else (some false)

def m7_l04_StreamWants_k4 (a1 : Int) (v1 : Bool) (v2 : (List UInt8) × Int) (b4 : Unit) : Option Bool :=
  (cut v2.1 0 ((wI ((BitVec.ofInt 64 a1 &&& BitVec.ofInt 64 65535).toNat : Int)).tmod (wI ((v2.1.length : Int) + 1)))).bind fun c5 => (m21_l04_fed [c5]).bind fun v6 => (m19_stream_Wants v6.1).bind fun v7 => if (!decide (v6.2.2 = 0)) then (some false) else (if (!decide ((v6.2.1.length : Int) = 0)) then (some false) else (if (decide (v7 < 1)) then (some false) else (if (decide ((wI ((v2.1.length : Int) - ((wI ((BitVec.ofInt 64 a1 &&& BitVec.ofInt 64 65535).toNat : Int)).tmod (wI ((v2.1.length : Int) + 1))))) < v7)) then (some false) else (m7_l04_StreamWants_k8 a1 v1 v2 v6 v7 ()))))
def m7_l04_StreamWants (a0 : List UInt8) (a1 : Int) : Option Bool :=
  (m10_l04_awake).bind fun v1 => if (decide (512 < (a0.length : Int))) then (some v1) else ((m23_frame_Put ([] : List UInt8) a0).bind fun v2 => if (wI ((v2.1.length : Int) + 1)) ≠ 0 then (if (!decide (v2.2 = 0)) then (if v1 then (some (decide (v2.2 = 0))) else (some false)) else (if (decide (((wI ((BitVec.ofInt 64 a1 &&& BitVec.ofInt 64 65535).toNat : Int)).tmod (wI ((v2.1.length : Int) + 1))) = (v2.1.length : Int))) then (if v1 then (some (decide (v2.2 = 0))) else (some false)) else (m7_l04_StreamWants_k4 a1 v1 v2 ()))) else none)

set_option maxRecDepth 100000 in
theorem m7_l04_StreamWants_c {a0 : List UInt8} {a1 : Int} {r : Bool} (h : m7_l04_StreamWants a0 a1 = some r) : CallsA Try.prog 7 [.one (.sl a0.length (a0.flatMap eU8)), .one (.i .i64 a1)] (· = .s (.one (.b r))) := by
  unfold m7_l04_StreamWants at h
  refine callsA_of Try.func7 rfl (nt := 142) rfl (Nat.le_of_ble_eq_true rfl) ?_
  intro w0 S0
  refine cseq ?_
  refine cregion ?_
  refine sv rfl (opv_as rfl) ?_
  refine snil ?_
  refine cseq ?_
  refine cregion ?_
  obtain ⟨v1, hv1, h⟩ := bind_eq h
  refine scall1 rfl fn10 opnds_nil (pubA_id rfl) (m10_l04_awake_c hv1) ?_
  refine sv rfl (opv_as rfl) ?_
  refine snil ?_
  refine cseq ?_
  refine cseq ?_
  refine cregion ?_
  refine sv rfl (opv_mv rfl) ?_
  refine sv rfl (opv_len_sl si22 rfl) ?_
  refine sv rfl (opv_gtr rfl rfl) ?_
  refine snil ?_
  refine ccond rfl (fun hc => ?_) (fun hc => ?_)
  · replace h := ite_t hc h
    clear hc
    refine cseq ?_
    refine cregion ?_
    refine sv rfl (opv_mv rfl) ?_
    refine sv rfl (opv_as rfl) ?_
    refine snil ?_
    refine cret ?_
    refine then_ret ?_
    obtain rfl := Option.some.inj h
    refine ⟨Or.inr rfl, _, _, _, (resVs_cons (ResV.tmp _ _ rfl) resVs_nil), (pubA_id rfl), ?_⟩
    rfl
  · replace h := ite_f hc h
    clear hc
    refine cskip ?_
    refine then_normal ?_
    refine cseq ?_
    refine cregion ?_
    refine sv rfl (opv_mv rfl) ?_
    obtain ⟨v2, hv2, h⟩ := bind_eq h
    refine scall1 rfl fn23 (opnds_cons rfl (opnds_cons rfl opnds_nil)) (pubC rfl) (m23_frame_Put_c hv2) ?_
    refine sv rfl (opv_mvt rfl) ?_
    refine sv rfl (opv_extract rfl rfl) ?_
    refine sv rfl (opv_extract rfl rfl) ?_
    refine sv rfl (opv_as rfl) ?_
    refine sv rfl (opv_as rfl) ?_
    refine snil ?_
    refine cseq ?_
    refine cregion ?_
    refine sv rfl (opv_mv rfl) ?_
    refine sv rfl (opv_and rfl rfl) ?_
    refine sv rfl (opv_mv rfl) ?_
    refine sv rfl (opv_len_sl si22 rfl) ?_
    refine sv rfl (opv_add rfl rfl) ?_
    obtain ⟨hz3, h⟩ := chk_eq h
    refine sv rfl (opv_rem rfl rfl hz3) ?_
    refine sv rfl (opv_as rfl) ?_
    refine snil ?_
    refine cseq ?_
    refine cseq ?_
    refine cjoin3 (Unit) (fun b4 => [(5, .s (.one (.b v1))), (6, .s (.one (.sl v2.1.length (v2.1.flatMap eU8)))), (8, .s (.one (.i .i64 ((wI ((BitVec.ofInt 64 a1 &&& BitVec.ofInt 64 65535).toNat : Int)).tmod (wI ((v2.1.length : Int) + 1))))))]) (fun b4 => []) (fun b4 => m7_l04_StreamWants_k4 a1 v1 v2 b4 = some r) (fun _ _ => inbL_of rfl) (fun _ _ => blkinb_of rfl) (fun _ _ => Nat.le_of_ble_eq_true rfl) (fun b4 h => ?_) ?_
    · unfold m7_l04_StreamWants_k4 at h
      refine cseq ?_
      refine cregion ?_
      refine sv rfl (opv_mv rfl) ?_
      refine sv rfl (opv_mv rfl) ?_
      obtain ⟨c5, hc5, h⟩ := bind_eq h
      refine sv rfl (opv_cut (f := eU8) (lo := 0) (hi := ((wI ((BitVec.ofInt 64 a1 &&& BitVec.ofInt 64 65535).toNat : Int)).tmod (wI ((v2.1.length : Int) + 1)))) si22 (fun _ => rfl) rfl rfl rfl bound_none (bound_some rfl (Int.le_trans (cut_eq hc5).1.1 (cut_eq hc5).1.2.1)) hc5) ?_
      refine sbuild1 rfl Try.underlying28 ei22 rfl rfl (List.all_eq_true.1 rfl) (by decide) ?_
      refine smem [.arr 22 1 0 ([c5].flatMap (eL eU8))] rfl ?_
      refine spub 52 rfl (by (repeat' first | exact PubA.nil _ | apply PubA.cons | apply PubV.one | apply PubV.agg | exact PubL.nil | exact PubL.ls _ _ _ _ _ _ rfl (flat_len (f := (eL eU8)) (fun _ => rfl) ([c5] : List (List UInt8))).symm | exact PubL.ls _ _ _ _ _ _ rfl (flat_len (f := (eL eU8)) (fun _ => rfl) _).symm | exact PubL.id _ rfl | exact PubLs.nil _ | apply PubLs.cons)) ?_
      obtain ⟨v6, hv6, h⟩ := bind_eq h
      refine scall1 rfl fn21 (opnds_cons rfl opnds_nil) (pubA_id rfl) (m21_l04_fed_c hv6) ?_
      refine sv rfl (opv_mvt rfl) ?_
      refine sv rfl (opv_extract rfl rfl) ?_
      refine sv rfl (opv_extract rfl rfl) ?_
      refine sv rfl (opv_extract rfl rfl) ?_
      refine salloc rfl zi27 ?_
      refine sstore sz27 rfl rfl rfl rfl (Nat.le_of_ble_eq_true rfl) ?_
      refine smem [.arr 22 1 ([c5].flatMap (eL eU8)).length ([c5].flatMap (eL eU8)), .box [.sl v6.1.Buf.length (v6.1.Buf.flatMap eU8), .i .i64 v6.1.Dead]] rfl ?_
      refine sv rfl (opv_as rfl) ?_
      refine sv rfl (opv_as rfl) ?_
      refine snil ?_
      refine cseq ?_
      refine cregion ?_
      refine sv rfl (opv_loadN ti27 rfl (.lp _ _ _ rfl) (Nat.le_of_ble_eq_true rfl)) ?_
      obtain ⟨v7, hv7, h⟩ := bind_eq h
      refine scall1 rfl fn19 (opnds_cons rfl opnds_nil) (pubA_id rfl) (m19_stream_Wants_c hv7) ?_
      refine sv rfl (opv_as rfl) ?_
      refine snil ?_
      refine cseq ?_
      refine cseq ?_
      refine cjoin3 (Unit) (fun b8 => [(5, .s (.one (.b v1))), (6, .s (.one (.sl v2.1.length (v2.1.flatMap eU8)))), (8, .s (.one (.i .i64 ((wI ((BitVec.ofInt 64 a1 &&& BitVec.ofInt 64 65535).toNat : Int)).tmod (wI ((v2.1.length : Int) + 1)))))), (9, .s (.one (.lp 1 0))), (12, .s (.one (.i .i64 v7)))]) (fun b8 => [.arr 22 1 ([c5].flatMap (eL eU8)).length ([c5].flatMap (eL eU8)), .box [.sl v6.1.Buf.length (v6.1.Buf.flatMap eU8), .i .i64 v6.1.Dead]]) (fun b8 => m7_l04_StreamWants_k8 a1 v1 v2 v6 v7 b8 = some r) (fun _ _ => inbL_of rfl) (fun _ _ => blkinb_of rfl) (fun _ _ => Nat.le_of_ble_eq_true rfl) (fun b8 h => ?_) ?_
      · unfold m7_l04_StreamWants_k8 at h
        refine cseq ?_
        refine chole ?_
        obtain ⟨c9, hc9, h⟩ := bind_eq h
        obtain ⟨v10, hv10, h⟩ := bind_eq h
        refine cdraw_e [13, 14] [0, 0, 0, 0, 0, 24, 56, 126, 255, 511, 1023, 1023, 1023, 0, 10239, 28671, 65535] [[.arr 22 1 ([c5].flatMap (eL eU8)).length ([c5].flatMap (eL eU8)), .box [.sl v6.1.Buf.length (v6.1.Buf.flatMap eU8), .i .i64 v6.1.Dead], .hole], [.arr 22 1 ([c5].flatMap (eL eU8)).length ([c5].flatMap (eL eU8)), .box [.sl v6.1.Buf.length (v6.1.Buf.flatMap eU8), .i .i64 v6.1.Dead], .box [.raw (.slice none 0 0), .i .i64 0]], [.arr 22 1 ([c5].flatMap (eL eU8)).length ([c5].flatMap (eL eU8)), .box [.sl v6.1.Buf.length (v6.1.Buf.flatMap eU8), .i .i64 v6.1.Dead], .box [.sl v10.1.Buf.length (v10.1.Buf.flatMap eU8), .i .i64 v10.1.Dead]]] (by kernel_rfl) mixed (by kernel_rfl) (by decide) rfl rfl rfl rfl ?_
        refine ev (sees_all (md := [.arr 22 1 ([c5].flatMap (eL eU8)).length ([c5].flatMap (eL eU8)), .box [.sl v6.1.Buf.length (v6.1.Buf.flatMap eU8), .i .i64 v6.1.Dead], .dead]) ⟨⟨rfl, ⟨rfl, ⟨trivial, trivial⟩⟩⟩, ⟨⟨rfl, ⟨rfl, ⟨trivial, trivial⟩⟩⟩, ⟨⟨rfl, ⟨rfl, ⟨trivial, trivial⟩⟩⟩, trivial⟩⟩⟩) rfl rfl (opv_loadN ti27 rfl (.lp _ _ _ rfl) (Nat.le_of_ble_eq_true rfl)) ?_
        refine ev (sees_all (md := [.arr 22 1 ([c5].flatMap (eL eU8)).length ([c5].flatMap (eL eU8)), .box [.sl v6.1.Buf.length (v6.1.Buf.flatMap eU8), .i .i64 v6.1.Dead], .dead]) ⟨⟨rfl, ⟨rfl, ⟨trivial, trivial⟩⟩⟩, ⟨⟨rfl, ⟨rfl, ⟨trivial, trivial⟩⟩⟩, ⟨⟨rfl, ⟨rfl, ⟨trivial, trivial⟩⟩⟩, trivial⟩⟩⟩) rfl rfl (opv_mv rfl) ?_
        refine ev (sees_all (md := [.arr 22 1 ([c5].flatMap (eL eU8)).length ([c5].flatMap (eL eU8)), .box [.sl v6.1.Buf.length (v6.1.Buf.flatMap eU8), .i .i64 v6.1.Dead], .dead]) ⟨⟨rfl, ⟨rfl, ⟨trivial, trivial⟩⟩⟩, ⟨⟨rfl, ⟨rfl, ⟨trivial, trivial⟩⟩⟩, ⟨⟨rfl, ⟨rfl, ⟨trivial, trivial⟩⟩⟩, trivial⟩⟩⟩) rfl rfl (opv_mv rfl) ?_
        refine ev (sees_all (md := [.arr 22 1 ([c5].flatMap (eL eU8)).length ([c5].flatMap (eL eU8)), .box [.sl v6.1.Buf.length (v6.1.Buf.flatMap eU8), .i .i64 v6.1.Dead], .dead]) ⟨⟨rfl, ⟨rfl, ⟨trivial, trivial⟩⟩⟩, ⟨⟨rfl, ⟨rfl, ⟨trivial, trivial⟩⟩⟩, ⟨⟨rfl, ⟨rfl, ⟨trivial, trivial⟩⟩⟩, trivial⟩⟩⟩) rfl rfl (opv_mv rfl) ?_
        refine ev (sees_all (md := [.arr 22 1 ([c5].flatMap (eL eU8)).length ([c5].flatMap (eL eU8)), .box [.sl v6.1.Buf.length (v6.1.Buf.flatMap eU8), .i .i64 v6.1.Dead], .dead]) ⟨⟨rfl, ⟨rfl, ⟨trivial, trivial⟩⟩⟩, ⟨⟨rfl, ⟨rfl, ⟨trivial, trivial⟩⟩⟩, ⟨⟨rfl, ⟨rfl, ⟨trivial, trivial⟩⟩⟩, trivial⟩⟩⟩) rfl rfl (opv_mv rfl) ?_
        refine ev (sees_all (md := [.arr 22 1 ([c5].flatMap (eL eU8)).length ([c5].flatMap (eL eU8)), .box [.sl v6.1.Buf.length (v6.1.Buf.flatMap eU8), .i .i64 v6.1.Dead], .dead]) ⟨⟨rfl, ⟨rfl, ⟨trivial, trivial⟩⟩⟩, ⟨⟨rfl, ⟨rfl, ⟨trivial, trivial⟩⟩⟩, ⟨⟨rfl, ⟨rfl, ⟨trivial, trivial⟩⟩⟩, trivial⟩⟩⟩) rfl rfl (opv_add rfl rfl) ?_
        refine ev (sees_all (md := [.arr 22 1 ([c5].flatMap (eL eU8)).length ([c5].flatMap (eL eU8)), .box [.sl v6.1.Buf.length (v6.1.Buf.flatMap eU8), .i .i64 v6.1.Dead], .dead]) ⟨⟨rfl, ⟨rfl, ⟨trivial, trivial⟩⟩⟩, ⟨⟨rfl, ⟨rfl, ⟨trivial, trivial⟩⟩⟩, ⟨⟨rfl, ⟨rfl, ⟨trivial, trivial⟩⟩⟩, trivial⟩⟩⟩) rfl rfl (opv_sub rfl rfl) ?_
        refine ev (sees_all (md := [.arr 22 1 ([c5].flatMap (eL eU8)).length ([c5].flatMap (eL eU8)), .box [.sl v6.1.Buf.length (v6.1.Buf.flatMap eU8), .i .i64 v6.1.Dead], .dead]) ⟨⟨rfl, ⟨rfl, ⟨trivial, trivial⟩⟩⟩, ⟨⟨rfl, ⟨rfl, ⟨trivial, trivial⟩⟩⟩, ⟨⟨rfl, ⟨rfl, ⟨trivial, trivial⟩⟩⟩, trivial⟩⟩⟩) rfl rfl (opv_cut (f := eU8) (lo := ((wI ((BitVec.ofInt 64 a1 &&& BitVec.ofInt 64 65535).toNat : Int)).tmod (wI ((v2.1.length : Int) + 1)))) (hi := (wI ((wI (((wI ((BitVec.ofInt 64 a1 &&& BitVec.ofInt 64 65535).toNat : Int)).tmod (wI ((v2.1.length : Int) + 1))) + v7)) - 1))) si22 (fun _ => rfl) rfl rfl rfl (bound_some rfl (cut_eq hc9).1.1) (bound_some rfl (Int.le_trans (cut_eq hc9).1.1 (cut_eq hc9).1.2.1)) hc9) ?_
        refine ed (sees_all (md := [.arr 22 1 ([c5].flatMap (eL eU8)).length ([c5].flatMap (eL eU8)), .box [.sl v6.1.Buf.length (v6.1.Buf.flatMap eU8), .i .i64 v6.1.Dead], .dead]) ⟨⟨rfl, ⟨rfl, ⟨trivial, trivial⟩⟩⟩, ⟨⟨rfl, ⟨rfl, ⟨trivial, trivial⟩⟩⟩, ⟨⟨rfl, ⟨rfl, ⟨trivial, trivial⟩⟩⟩, trivial⟩⟩⟩) rfl rfl (opD_call fn11 (opnds_cons rfl (opnds_cons rfl opnds_nil)) rfl (m11_stream_Feed_c hv10)) ?_
        refine ev (sees_all (md := [.arr 22 1 ([c5].flatMap (eL eU8)).length ([c5].flatMap (eL eU8)), .box [.sl v6.1.Buf.length (v6.1.Buf.flatMap eU8), .i .i64 v6.1.Dead], .dead]) ⟨⟨rfl, ⟨rfl, ⟨trivial, trivial⟩⟩⟩, ⟨⟨rfl, ⟨rfl, ⟨trivial, trivial⟩⟩⟩, ⟨⟨rfl, ⟨rfl, ⟨trivial, trivial⟩⟩⟩, trivial⟩⟩⟩) rfl rfl (opv_mvt rfl) ?_
        refine ev (sees_all (md := [.arr 22 1 ([c5].flatMap (eL eU8)).length ([c5].flatMap (eL eU8)), .box [.sl v6.1.Buf.length (v6.1.Buf.flatMap eU8), .i .i64 v6.1.Dead], .dead]) ⟨⟨rfl, ⟨rfl, ⟨trivial, trivial⟩⟩⟩, ⟨⟨rfl, ⟨rfl, ⟨trivial, trivial⟩⟩⟩, ⟨⟨rfl, ⟨rfl, ⟨trivial, trivial⟩⟩⟩, trivial⟩⟩⟩) rfl rfl (opv_extract rfl rfl) ?_
        refine ev (sees_all (md := [.arr 22 1 ([c5].flatMap (eL eU8)).length ([c5].flatMap (eL eU8)), .box [.sl v6.1.Buf.length (v6.1.Buf.flatMap eU8), .i .i64 v6.1.Dead], .dead]) ⟨⟨rfl, ⟨rfl, ⟨trivial, trivial⟩⟩⟩, ⟨⟨rfl, ⟨rfl, ⟨trivial, trivial⟩⟩⟩, ⟨⟨rfl, ⟨rfl, ⟨trivial, trivial⟩⟩⟩, trivial⟩⟩⟩) rfl rfl (opv_extract rfl rfl) ?_
        refine ev (sees_all (md := [.arr 22 1 ([c5].flatMap (eL eU8)).length ([c5].flatMap (eL eU8)), .box [.sl v6.1.Buf.length (v6.1.Buf.flatMap eU8), .i .i64 v6.1.Dead], .dead]) ⟨⟨rfl, ⟨rfl, ⟨trivial, trivial⟩⟩⟩, ⟨⟨rfl, ⟨rfl, ⟨trivial, trivial⟩⟩⟩, ⟨⟨rfl, ⟨rfl, ⟨trivial, trivial⟩⟩⟩, trivial⟩⟩⟩) rfl rfl (opv_extract rfl rfl) ?_
        refine ee (x := .s (.one (.lp 2 0))) 0 rfl rfl rfl rfl rfl (fun ζ => ?_) ?_
        · refine salloc_at 2 rfl zi27 rfl ?_
          exact eend
        refine ee0 1 rfl rfl rfl rfl (fun ζ => ?_) ?_
        · refine sstore sz27 rfl rfl rfl rfl (Nat.le_of_ble_eq_true rfl) ?_
          refine smem [.arr 22 1 ([c5].flatMap (eL eU8)).length ([c5].flatMap (eL eU8)), .box [.sl v6.1.Buf.length (v6.1.Buf.flatMap eU8), .i .i64 v6.1.Dead], .box [.sl v10.1.Buf.length (v10.1.Buf.flatMap eU8), .i .i64 v10.1.Dead]] rfl ?_
          exact eend
        refine ev (sees_at 2 rfl rfl) rfl rfl (opv_as rfl) ?_
        refine ev (sees_at 2 rfl rfl) rfl rfl (opv_as rfl) ?_
        refine enil ?_
        refine then_normal ?_
        refine cseq ?_
        refine chole ?_
        obtain ⟨c11, hc11, h⟩ := bind_eq h
        obtain ⟨v12, hv12, h⟩ := bind_eq h
        refine cdraw_e [12, 13] [0, 0, 0, 0, 0, 24, 62, 127, 255, 511, 511, 511, 0, 5119, 14335, 32767] [[.arr 22 1 ([c5].flatMap (eL eU8)).length ([c5].flatMap (eL eU8)), .box [.sl v6.1.Buf.length (v6.1.Buf.flatMap eU8), .i .i64 v6.1.Dead], .box [.sl v10.1.Buf.length (v10.1.Buf.flatMap eU8), .i .i64 v10.1.Dead], .hole], [.arr 22 1 ([c5].flatMap (eL eU8)).length ([c5].flatMap (eL eU8)), .box [.sl v6.1.Buf.length (v6.1.Buf.flatMap eU8), .i .i64 v6.1.Dead], .box [.sl v10.1.Buf.length (v10.1.Buf.flatMap eU8), .i .i64 v10.1.Dead], .box [.raw (.slice none 0 0), .i .i64 0]], [.arr 22 1 ([c5].flatMap (eL eU8)).length ([c5].flatMap (eL eU8)), .box [.sl v6.1.Buf.length (v6.1.Buf.flatMap eU8), .i .i64 v6.1.Dead], .box [.sl v10.1.Buf.length (v10.1.Buf.flatMap eU8), .i .i64 v10.1.Dead], .box [.sl v12.1.Buf.length (v12.1.Buf.flatMap eU8), .i .i64 v12.1.Dead]]] (by kernel_rfl) mixed (by kernel_rfl) (by decide) rfl rfl rfl rfl ?_
        refine ev (sees_all (md := [.arr 22 1 ([c5].flatMap (eL eU8)).length ([c5].flatMap (eL eU8)), .box [.sl v6.1.Buf.length (v6.1.Buf.flatMap eU8), .i .i64 v6.1.Dead], .box [.sl v10.1.Buf.length (v10.1.Buf.flatMap eU8), .i .i64 v10.1.Dead], .dead]) ⟨⟨rfl, ⟨rfl, ⟨rfl, ⟨trivial, trivial⟩⟩⟩⟩, ⟨⟨rfl, ⟨rfl, ⟨rfl, ⟨trivial, trivial⟩⟩⟩⟩, ⟨⟨rfl, ⟨rfl, ⟨rfl, ⟨trivial, trivial⟩⟩⟩⟩, trivial⟩⟩⟩) rfl rfl (opv_loadN ti27 rfl (.lp _ _ _ rfl) (Nat.le_of_ble_eq_true rfl)) ?_
        refine ev (sees_all (md := [.arr 22 1 ([c5].flatMap (eL eU8)).length ([c5].flatMap (eL eU8)), .box [.sl v6.1.Buf.length (v6.1.Buf.flatMap eU8), .i .i64 v6.1.Dead], .box [.sl v10.1.Buf.length (v10.1.Buf.flatMap eU8), .i .i64 v10.1.Dead], .dead]) ⟨⟨rfl, ⟨rfl, ⟨rfl, ⟨trivial, trivial⟩⟩⟩⟩, ⟨⟨rfl, ⟨rfl, ⟨rfl, ⟨trivial, trivial⟩⟩⟩⟩, ⟨⟨rfl, ⟨rfl, ⟨rfl, ⟨trivial, trivial⟩⟩⟩⟩, trivial⟩⟩⟩) rfl rfl (opv_mv rfl) ?_
        refine ev (sees_all (md := [.arr 22 1 ([c5].flatMap (eL eU8)).length ([c5].flatMap (eL eU8)), .box [.sl v6.1.Buf.length (v6.1.Buf.flatMap eU8), .i .i64 v6.1.Dead], .box [.sl v10.1.Buf.length (v10.1.Buf.flatMap eU8), .i .i64 v10.1.Dead], .dead]) ⟨⟨rfl, ⟨rfl, ⟨rfl, ⟨trivial, trivial⟩⟩⟩⟩, ⟨⟨rfl, ⟨rfl, ⟨rfl, ⟨trivial, trivial⟩⟩⟩⟩, ⟨⟨rfl, ⟨rfl, ⟨rfl, ⟨trivial, trivial⟩⟩⟩⟩, trivial⟩⟩⟩) rfl rfl (opv_mv rfl) ?_
        refine ev (sees_all (md := [.arr 22 1 ([c5].flatMap (eL eU8)).length ([c5].flatMap (eL eU8)), .box [.sl v6.1.Buf.length (v6.1.Buf.flatMap eU8), .i .i64 v6.1.Dead], .box [.sl v10.1.Buf.length (v10.1.Buf.flatMap eU8), .i .i64 v10.1.Dead], .dead]) ⟨⟨rfl, ⟨rfl, ⟨rfl, ⟨trivial, trivial⟩⟩⟩⟩, ⟨⟨rfl, ⟨rfl, ⟨rfl, ⟨trivial, trivial⟩⟩⟩⟩, ⟨⟨rfl, ⟨rfl, ⟨rfl, ⟨trivial, trivial⟩⟩⟩⟩, trivial⟩⟩⟩) rfl rfl (opv_mv rfl) ?_
        refine ev (sees_all (md := [.arr 22 1 ([c5].flatMap (eL eU8)).length ([c5].flatMap (eL eU8)), .box [.sl v6.1.Buf.length (v6.1.Buf.flatMap eU8), .i .i64 v6.1.Dead], .box [.sl v10.1.Buf.length (v10.1.Buf.flatMap eU8), .i .i64 v10.1.Dead], .dead]) ⟨⟨rfl, ⟨rfl, ⟨rfl, ⟨trivial, trivial⟩⟩⟩⟩, ⟨⟨rfl, ⟨rfl, ⟨rfl, ⟨trivial, trivial⟩⟩⟩⟩, ⟨⟨rfl, ⟨rfl, ⟨rfl, ⟨trivial, trivial⟩⟩⟩⟩, trivial⟩⟩⟩) rfl rfl (opv_mv rfl) ?_
        refine ev (sees_all (md := [.arr 22 1 ([c5].flatMap (eL eU8)).length ([c5].flatMap (eL eU8)), .box [.sl v6.1.Buf.length (v6.1.Buf.flatMap eU8), .i .i64 v6.1.Dead], .box [.sl v10.1.Buf.length (v10.1.Buf.flatMap eU8), .i .i64 v10.1.Dead], .dead]) ⟨⟨rfl, ⟨rfl, ⟨rfl, ⟨trivial, trivial⟩⟩⟩⟩, ⟨⟨rfl, ⟨rfl, ⟨rfl, ⟨trivial, trivial⟩⟩⟩⟩, ⟨⟨rfl, ⟨rfl, ⟨rfl, ⟨trivial, trivial⟩⟩⟩⟩, trivial⟩⟩⟩) rfl rfl (opv_add rfl rfl) ?_
        refine ev (sees_all (md := [.arr 22 1 ([c5].flatMap (eL eU8)).length ([c5].flatMap (eL eU8)), .box [.sl v6.1.Buf.length (v6.1.Buf.flatMap eU8), .i .i64 v6.1.Dead], .box [.sl v10.1.Buf.length (v10.1.Buf.flatMap eU8), .i .i64 v10.1.Dead], .dead]) ⟨⟨rfl, ⟨rfl, ⟨rfl, ⟨trivial, trivial⟩⟩⟩⟩, ⟨⟨rfl, ⟨rfl, ⟨rfl, ⟨trivial, trivial⟩⟩⟩⟩, ⟨⟨rfl, ⟨rfl, ⟨rfl, ⟨trivial, trivial⟩⟩⟩⟩, trivial⟩⟩⟩) rfl rfl (opv_cut (f := eU8) (lo := ((wI ((BitVec.ofInt 64 a1 &&& BitVec.ofInt 64 65535).toNat : Int)).tmod (wI ((v2.1.length : Int) + 1)))) (hi := (wI (((wI ((BitVec.ofInt 64 a1 &&& BitVec.ofInt 64 65535).toNat : Int)).tmod (wI ((v2.1.length : Int) + 1))) + v7))) si22 (fun _ => rfl) rfl rfl rfl (bound_some rfl (cut_eq hc11).1.1) (bound_some rfl (Int.le_trans (cut_eq hc11).1.1 (cut_eq hc11).1.2.1)) hc11) ?_
        refine ed (sees_all (md := [.arr 22 1 ([c5].flatMap (eL eU8)).length ([c5].flatMap (eL eU8)), .box [.sl v6.1.Buf.length (v6.1.Buf.flatMap eU8), .i .i64 v6.1.Dead], .box [.sl v10.1.Buf.length (v10.1.Buf.flatMap eU8), .i .i64 v10.1.Dead], .dead]) ⟨⟨rfl, ⟨rfl, ⟨rfl, ⟨trivial, trivial⟩⟩⟩⟩, ⟨⟨rfl, ⟨rfl, ⟨rfl, ⟨trivial, trivial⟩⟩⟩⟩, ⟨⟨rfl, ⟨rfl, ⟨rfl, ⟨trivial, trivial⟩⟩⟩⟩, trivial⟩⟩⟩) rfl rfl (opD_call fn11 (opnds_cons rfl (opnds_cons rfl opnds_nil)) rfl (m11_stream_Feed_c hv12)) ?_
        refine ev (sees_all (md := [.arr 22 1 ([c5].flatMap (eL eU8)).length ([c5].flatMap (eL eU8)), .box [.sl v6.1.Buf.length (v6.1.Buf.flatMap eU8), .i .i64 v6.1.Dead], .box [.sl v10.1.Buf.length (v10.1.Buf.flatMap eU8), .i .i64 v10.1.Dead], .dead]) ⟨⟨rfl, ⟨rfl, ⟨rfl, ⟨trivial, trivial⟩⟩⟩⟩, ⟨⟨rfl, ⟨rfl, ⟨rfl, ⟨trivial, trivial⟩⟩⟩⟩, ⟨⟨rfl, ⟨rfl, ⟨rfl, ⟨trivial, trivial⟩⟩⟩⟩, trivial⟩⟩⟩) rfl rfl (opv_mvt rfl) ?_
        refine ev (sees_all (md := [.arr 22 1 ([c5].flatMap (eL eU8)).length ([c5].flatMap (eL eU8)), .box [.sl v6.1.Buf.length (v6.1.Buf.flatMap eU8), .i .i64 v6.1.Dead], .box [.sl v10.1.Buf.length (v10.1.Buf.flatMap eU8), .i .i64 v10.1.Dead], .dead]) ⟨⟨rfl, ⟨rfl, ⟨rfl, ⟨trivial, trivial⟩⟩⟩⟩, ⟨⟨rfl, ⟨rfl, ⟨rfl, ⟨trivial, trivial⟩⟩⟩⟩, ⟨⟨rfl, ⟨rfl, ⟨rfl, ⟨trivial, trivial⟩⟩⟩⟩, trivial⟩⟩⟩) rfl rfl (opv_extract rfl rfl) ?_
        refine ev (sees_all (md := [.arr 22 1 ([c5].flatMap (eL eU8)).length ([c5].flatMap (eL eU8)), .box [.sl v6.1.Buf.length (v6.1.Buf.flatMap eU8), .i .i64 v6.1.Dead], .box [.sl v10.1.Buf.length (v10.1.Buf.flatMap eU8), .i .i64 v10.1.Dead], .dead]) ⟨⟨rfl, ⟨rfl, ⟨rfl, ⟨trivial, trivial⟩⟩⟩⟩, ⟨⟨rfl, ⟨rfl, ⟨rfl, ⟨trivial, trivial⟩⟩⟩⟩, ⟨⟨rfl, ⟨rfl, ⟨rfl, ⟨trivial, trivial⟩⟩⟩⟩, trivial⟩⟩⟩) rfl rfl (opv_extract rfl rfl) ?_
        refine ev (sees_all (md := [.arr 22 1 ([c5].flatMap (eL eU8)).length ([c5].flatMap (eL eU8)), .box [.sl v6.1.Buf.length (v6.1.Buf.flatMap eU8), .i .i64 v6.1.Dead], .box [.sl v10.1.Buf.length (v10.1.Buf.flatMap eU8), .i .i64 v10.1.Dead], .dead]) ⟨⟨rfl, ⟨rfl, ⟨rfl, ⟨trivial, trivial⟩⟩⟩⟩, ⟨⟨rfl, ⟨rfl, ⟨rfl, ⟨trivial, trivial⟩⟩⟩⟩, ⟨⟨rfl, ⟨rfl, ⟨rfl, ⟨trivial, trivial⟩⟩⟩⟩, trivial⟩⟩⟩) rfl rfl (opv_extract rfl rfl) ?_
        refine ee (x := .s (.one (.lp 3 0))) 0 rfl rfl rfl rfl rfl (fun ζ => ?_) ?_
        · refine salloc_at 3 rfl zi27 rfl ?_
          exact eend
        refine ee0 1 rfl rfl rfl rfl (fun ζ => ?_) ?_
        · refine sstore sz27 rfl rfl rfl rfl (Nat.le_of_ble_eq_true rfl) ?_
          refine smem [.arr 22 1 ([c5].flatMap (eL eU8)).length ([c5].flatMap (eL eU8)), .box [.sl v6.1.Buf.length (v6.1.Buf.flatMap eU8), .i .i64 v6.1.Dead], .box [.sl v10.1.Buf.length (v10.1.Buf.flatMap eU8), .i .i64 v10.1.Dead], .box [.sl v12.1.Buf.length (v12.1.Buf.flatMap eU8), .i .i64 v12.1.Dead]] rfl ?_
          exact eend
        refine ev (sees_at 2 rfl rfl) rfl rfl (opv_as rfl) ?_
        refine ev (sees_at 2 rfl rfl) rfl rfl (opv_as rfl) ?_
        refine enil ?_
        refine then_normal ?_
        refine cseq ?_
        refine cregion ?_
        refine sv rfl (opv_mv rfl) ?_
        refine sv rfl (opv_mv rfl) ?_
        refine ssplit 104 rfl (fun hc => ?_) (fun hc => ?_)
        · replace h := ite_t hc h
          clear hc
          refine son rfl rfl rfl ?_
          refine sv rfl (opv_mv rfl) ?_
          refine son rfl rfl rfl ?_
          refine sv rfl (opv_ieql rfl rfl) ?_
          refine sv rfl (opv_pick_t rfl rfl) ?_
          refine sv rfl (opv_mv rfl) ?_
          refine ssplit 108 rfl (fun hc => ?_) (fun hc => ?_)
          · replace h := ite_t hc h
            clear hc
            refine son rfl rfl rfl ?_
            refine sv rfl (opv_mv rfl) ?_
            refine son rfl rfl rfl ?_
            refine sv rfl (opv_len_sl si28 rfl) ?_
            refine son rfl rfl rfl ?_
            refine sv rfl (opv_ieql rfl rfl) ?_
            refine sv rfl (opv_pick_t rfl rfl) ?_
            refine sv rfl (opv_mv rfl) ?_
            refine ssplit 113 rfl (fun hc => ?_) (fun hc => ?_)
            · replace h := ite_t hc h
              clear hc
              refine son rfl rfl rfl ?_
              refine sv rfl (opv_mv rfl) ?_
              refine son rfl rfl rfl ?_
              refine sv rfl (opv_ieql rfl rfl) ?_
              refine sv rfl (opv_pick_t rfl rfl) ?_
              refine sv rfl (opv_mv rfl) ?_
              refine ssplit 117 rfl (fun hc => ?_) (fun hc => ?_)
              · replace h := ite_t hc h
                clear hc
                refine son rfl rfl rfl ?_
                refine sv rfl (opv_mv rfl) ?_
                refine son rfl rfl rfl ?_
                refine sv rfl (opv_len_sl si28 rfl) ?_
                refine son rfl rfl rfl ?_
                refine sv rfl (opv_ieql rfl rfl) ?_
                refine son rfl rfl rfl ?_
                refine sv rfl (opv_mv rfl) ?_
                refine ssplit 121 rfl (fun hc => ?_) (fun hc => ?_)
                · replace h := ite_t hc h
                  clear hc
                  refine soff rfl rfl rfl rfl ?_
                  refine soff rfl rfl rfl rfl ?_
                  refine soff rfl rfl rfl rfl ?_
                  refine soff rfl rfl rfl rfl ?_
                  refine soff rfl rfl rfl rfl ?_
                  refine soff rfl rfl rfl rfl ?_
                  refine soff rfl rfl rfl rfl ?_
                  refine soff rfl rfl rfl rfl ?_
                  refine soff rfl rfl rfl rfl ?_
                  refine son rfl rfl rfl ?_
                  refine sv rfl (opv_pick_t rfl rfl) ?_
                  refine sv rfl (opv_pick_t rfl rfl) ?_
                  refine sv rfl (opv_mv rfl) ?_
                  refine son rfl rfl rfl ?_
                  refine sv rfl (opv_mv rfl) ?_
                  refine son rfl rfl rfl ?_
                  refine sv rfl (opv_lss rfl rfl) ?_
                  refine son rfl rfl rfl ?_
                  refine sv rfl (opv_mv rfl) ?_
                  refine ssplit 136 rfl (fun hc => ?_) (fun hc => ?_)
                  · replace h := ite_t hc h
                    clear hc
                    refine soff rfl rfl rfl rfl ?_
                    refine soff rfl rfl rfl rfl ?_
                    refine soff rfl rfl rfl rfl ?_
                    refine son rfl rfl rfl ?_
                    refine sv rfl (opv_pick_t rfl rfl) ?_
                    refine sv rfl (opv_pick_t rfl rfl) ?_
                    refine sv rfl (opv_as rfl) ?_
                    refine snil ?_
                    refine cret ?_
                    obtain rfl := Option.some.inj h
                    refine ⟨Or.inr rfl, _, _, _, (resVs_cons (ResV.tmp _ _ rfl) resVs_nil), (pubA_id rfl), ?_⟩
                    rfl
                  · replace h := ite_f hc h
                    clear hc
                    refine son rfl rfl rfl ?_
                    refine sv rfl (opv_mv rfl) ?_
                    refine son rfl rfl rfl ?_
                    refine sv rfl (opv_len_sl si28 rfl) ?_
                    refine son rfl rfl rfl ?_
                    refine sv rfl (opv_ieql rfl rfl) ?_
                    refine son rfl rfl rfl ?_
                    refine sv rfl (opv_pick_f rfl rfl) ?_
                    refine sv rfl (opv_pick_t rfl rfl) ?_
                    refine sv rfl (opv_as rfl) ?_
                    refine snil ?_
                    refine cret ?_
                    obtain rfl := Option.some.inj h
                    refine ⟨Or.inr rfl, _, _, _, (resVs_cons (ResV.tmp _ _ rfl) resVs_nil), (pubA_id rfl), ?_⟩
                    rfl
                · replace h := ite_f hc h
                  clear hc
                  refine son rfl rfl rfl ?_
                  refine sv rfl (opv_loadN ti27 rfl (.lp _ _ _ rfl) (Nat.le_of_ble_eq_true rfl)) ?_
                  refine son rfl rfl rfl ?_
                  obtain ⟨v13, hv13, h⟩ := bind_eq h
                  refine scall1 rfl fn19 (opnds_cons rfl opnds_nil) (pubA_id rfl) (m19_stream_Wants_c hv13) ?_
                  refine son rfl rfl rfl ?_
                  refine sv rfl (opv_mv rfl) ?_
                  refine son rfl rfl rfl ?_
                  refine sv rfl (opv_len_sl si22 rfl) ?_
                  refine son rfl rfl rfl ?_
                  refine sv rfl (opv_mv rfl) ?_
                  refine son rfl rfl rfl ?_
                  refine sv rfl (opv_sub rfl rfl) ?_
                  refine son rfl rfl rfl ?_
                  refine sv rfl (opv_mv rfl) ?_
                  refine son rfl rfl rfl ?_
                  refine sv rfl (opv_sub rfl rfl) ?_
                  refine son rfl rfl rfl ?_
                  refine sv rfl (opv_ieql rfl rfl) ?_
                  refine son rfl rfl rfl ?_
                  refine sv rfl (opv_pick_f rfl rfl) ?_
                  refine sv rfl (opv_pick_t rfl rfl) ?_
                  refine sv rfl (opv_mv rfl) ?_
                  refine ssplit 133 rfl (fun hc => ?_) (fun hc => ?_)
                  · replace h := ite_t hc h
                    clear hc
                    refine son rfl rfl rfl ?_
                    refine sv rfl (opv_mv rfl) ?_
                    refine son rfl rfl rfl ?_
                    refine sv rfl (opv_lss rfl rfl) ?_
                    refine son rfl rfl rfl ?_
                    refine sv rfl (opv_mv rfl) ?_
                    refine ssplit 136 rfl (fun hc => ?_) (fun hc => ?_)
                    · replace h := ite_t hc h
                      clear hc
                      refine soff rfl rfl rfl rfl ?_
                      refine soff rfl rfl rfl rfl ?_
                      refine soff rfl rfl rfl rfl ?_
                      refine son rfl rfl rfl ?_
                      refine sv rfl (opv_pick_t rfl rfl) ?_
                      refine sv rfl (opv_pick_t rfl rfl) ?_
                      refine sv rfl (opv_as rfl) ?_
                      refine snil ?_
                      refine cret ?_
                      obtain rfl := Option.some.inj h
                      refine ⟨Or.inr rfl, _, _, _, (resVs_cons (ResV.tmp _ _ rfl) resVs_nil), (pubA_id rfl), ?_⟩
                      rfl
                    · replace h := ite_f hc h
                      clear hc
                      refine son rfl rfl rfl ?_
                      refine sv rfl (opv_mv rfl) ?_
                      refine son rfl rfl rfl ?_
                      refine sv rfl (opv_len_sl si28 rfl) ?_
                      refine son rfl rfl rfl ?_
                      refine sv rfl (opv_ieql rfl rfl) ?_
                      refine son rfl rfl rfl ?_
                      refine sv rfl (opv_pick_f rfl rfl) ?_
                      refine sv rfl (opv_pick_t rfl rfl) ?_
                      refine sv rfl (opv_as rfl) ?_
                      refine snil ?_
                      refine cret ?_
                      obtain rfl := Option.some.inj h
                      refine ⟨Or.inr rfl, _, _, _, (resVs_cons (ResV.tmp _ _ rfl) resVs_nil), (pubA_id rfl), ?_⟩
                      rfl
                  · replace h := ite_f hc h
                    clear hc
                    refine soff rfl rfl rfl rfl ?_
                    refine soff rfl rfl rfl rfl ?_
                    refine soff rfl rfl rfl rfl ?_
                    refine soffu rfl rfl rfl ?_
                    refine soffu rfl rfl rfl ?_
                    refine soffu rfl rfl rfl ?_
                    refine soff rfl rfl rfl rfl ?_
                    refine sv rfl (opv_pick_f rfl rfl) ?_
                    refine sv rfl (opv_as rfl) ?_
                    refine snil ?_
                    refine cret ?_
                    obtain rfl := Option.some.inj h
                    refine ⟨Or.inr rfl, _, _, _, (resVs_cons (ResV.tmp _ _ rfl) resVs_nil), (pubA_id rfl), ?_⟩
                    rfl
              · replace h := ite_f hc h
                clear hc
                refine soff rfl rfl rfl rfl ?_
                refine soff rfl rfl rfl rfl ?_
                refine soff rfl rfl rfl rfl ?_
                refine soff rfl rfl rfl rfl ?_
                refine soffu rfl rfl rfl ?_
                refine soffu rfl rfl rfl ?_
                refine soffu rfl rfl rfl ?_
                refine soffu rfl rfl rfl ?_
                refine soffu rfl rfl rfl ?_
                refine soffu rfl rfl rfl ?_
                refine soffu rfl rfl rfl ?_
                refine soffu rfl rfl rfl ?_
                refine soffu rfl rfl rfl ?_
                refine soff rfl rfl rfl rfl ?_
                refine sv rfl (opv_pick_f rfl rfl) ?_
                refine sv rfl (opv_mv rfl) ?_
                refine soff rfl rfl rfl rfl ?_
                refine soff rfl rfl rfl rfl ?_
                refine soff rfl rfl rfl rfl ?_
                refine soffu rfl rfl rfl ?_
                refine soffu rfl rfl rfl ?_
                refine soffu rfl rfl rfl ?_
                refine soff rfl rfl rfl rfl ?_
                refine sv rfl (opv_pick_f rfl rfl) ?_
                refine sv rfl (opv_as rfl) ?_
                refine snil ?_
                refine cret ?_
                obtain rfl := Option.some.inj h
                refine ⟨Or.inr rfl, _, _, _, (resVs_cons (ResV.tmp _ _ rfl) resVs_nil), (pubA_id rfl), ?_⟩
                rfl
            · replace h := ite_f hc h
              clear hc
              refine soff rfl rfl rfl rfl ?_
              refine soff rfl rfl rfl rfl ?_
              refine sv rfl (opv_pick_f rfl rfl) ?_
              refine sv rfl (opv_mv rfl) ?_
              refine soff rfl rfl rfl rfl ?_
              refine soff rfl rfl rfl rfl ?_
              refine soff rfl rfl rfl rfl ?_
              refine soff rfl rfl rfl rfl ?_
              refine soffu rfl rfl rfl ?_
              refine soffu rfl rfl rfl ?_
              refine soffu rfl rfl rfl ?_
              refine soffu rfl rfl rfl ?_
              refine soffu rfl rfl rfl ?_
              refine soffu rfl rfl rfl ?_
              refine soffu rfl rfl rfl ?_
              refine soffu rfl rfl rfl ?_
              refine soffu rfl rfl rfl ?_
              refine soff rfl rfl rfl rfl ?_
              refine sv rfl (opv_pick_f rfl rfl) ?_
              refine sv rfl (opv_mv rfl) ?_
              refine soff rfl rfl rfl rfl ?_
              refine soff rfl rfl rfl rfl ?_
              refine soff rfl rfl rfl rfl ?_
              refine soffu rfl rfl rfl ?_
              refine soffu rfl rfl rfl ?_
              refine soffu rfl rfl rfl ?_
              refine soff rfl rfl rfl rfl ?_
              refine sv rfl (opv_pick_f rfl rfl) ?_
              refine sv rfl (opv_as rfl) ?_
              refine snil ?_
              refine cret ?_
              obtain rfl := Option.some.inj h
              refine ⟨Or.inr rfl, _, _, _, (resVs_cons (ResV.tmp _ _ rfl) resVs_nil), (pubA_id rfl), ?_⟩
              rfl
          · replace h := ite_f hc h
            clear hc
            refine soff rfl rfl rfl rfl ?_
            refine soff rfl rfl rfl rfl ?_
            refine soff rfl rfl rfl rfl ?_
            refine sv rfl (opv_pick_f rfl rfl) ?_
            refine sv rfl (opv_mv rfl) ?_
            refine soff rfl rfl rfl rfl ?_
            refine soff rfl rfl rfl rfl ?_
            refine sv rfl (opv_pick_f rfl rfl) ?_
            refine sv rfl (opv_mv rfl) ?_
            refine soff rfl rfl rfl rfl ?_
            refine soff rfl rfl rfl rfl ?_
            refine soff rfl rfl rfl rfl ?_
            refine soff rfl rfl rfl rfl ?_
            refine soffu rfl rfl rfl ?_
            refine soffu rfl rfl rfl ?_
            refine soffu rfl rfl rfl ?_
            refine soffu rfl rfl rfl ?_
            refine soffu rfl rfl rfl ?_
            refine soffu rfl rfl rfl ?_
            refine soffu rfl rfl rfl ?_
            refine soffu rfl rfl rfl ?_
            refine soffu rfl rfl rfl ?_
            refine soff rfl rfl rfl rfl ?_
            refine sv rfl (opv_pick_f rfl rfl) ?_
            refine sv rfl (opv_mv rfl) ?_
            refine soff rfl rfl rfl rfl ?_
            refine soff rfl rfl rfl rfl ?_
            refine soff rfl rfl rfl rfl ?_
            refine soffu rfl rfl rfl ?_
            refine soffu rfl rfl rfl ?_
            refine soffu rfl rfl rfl ?_
            refine soff rfl rfl rfl rfl ?_
            refine sv rfl (opv_pick_f rfl rfl) ?_
            refine sv rfl (opv_as rfl) ?_
            refine snil ?_
            refine cret ?_
            obtain rfl := Option.some.inj h
            refine ⟨Or.inr rfl, _, _, _, (resVs_cons (ResV.tmp _ _ rfl) resVs_nil), (pubA_id rfl), ?_⟩
            rfl
        · replace h := ite_f hc h
          clear hc
          refine soff rfl rfl rfl rfl ?_
          refine soff rfl rfl rfl rfl ?_
          refine sv rfl (opv_pick_f rfl rfl) ?_
          refine sv rfl (opv_mv rfl) ?_
          refine soff rfl rfl rfl rfl ?_
          refine soff rfl rfl rfl rfl ?_
          refine soff rfl rfl rfl rfl ?_
          refine sv rfl (opv_pick_f rfl rfl) ?_
          refine sv rfl (opv_mv rfl) ?_
          refine soff rfl rfl rfl rfl ?_
          refine soff rfl rfl rfl rfl ?_
          refine sv rfl (opv_pick_f rfl rfl) ?_
          refine sv rfl (opv_mv rfl) ?_
          refine soff rfl rfl rfl rfl ?_
          refine soff rfl rfl rfl rfl ?_
          refine soff rfl rfl rfl rfl ?_
          refine soff rfl rfl rfl rfl ?_
          refine soffu rfl rfl rfl ?_
          refine soffu rfl rfl rfl ?_
          refine soffu rfl rfl rfl ?_
          refine soffu rfl rfl rfl ?_
          refine soffu rfl rfl rfl ?_
          refine soffu rfl rfl rfl ?_
          refine soffu rfl rfl rfl ?_
          refine soffu rfl rfl rfl ?_
          refine soffu rfl rfl rfl ?_
          refine soff rfl rfl rfl rfl ?_
          refine sv rfl (opv_pick_f rfl rfl) ?_
          refine sv rfl (opv_mv rfl) ?_
          refine soff rfl rfl rfl rfl ?_
          refine soff rfl rfl rfl rfl ?_
          refine soff rfl rfl rfl rfl ?_
          refine soffu rfl rfl rfl ?_
          refine soffu rfl rfl rfl ?_
          refine soffu rfl rfl rfl ?_
          refine soff rfl rfl rfl rfl ?_
          refine sv rfl (opv_pick_f rfl rfl) ?_
          refine sv rfl (opv_as rfl) ?_
          refine snil ?_
          refine cret ?_
          obtain rfl := Option.some.inj h
          refine ⟨Or.inr rfl, _, _, _, (resVs_cons (ResV.tmp _ _ rfl) resVs_nil), (pubA_id rfl), ?_⟩
          rfl
      · skip
        refine cregion ?_
        refine sv rfl (opv_mv rfl) ?_
        refine sv rfl (opv_ineq rfl rfl) ?_
        refine sv rfl (opv_mv rfl) ?_
        refine ssplit 61 rfl (fun hc => ?_) (fun hc => ?_)
        · replace h := ite_t hc h
          clear hc
          refine soff rfl rfl rfl rfl ?_
          refine soff rfl rfl rfl rfl ?_
          refine soff rfl rfl rfl rfl ?_
          refine sv rfl (opv_pick_t rfl rfl) ?_
          refine sv rfl (opv_mv rfl) ?_
          refine soff rfl rfl rfl rfl ?_
          refine soff rfl rfl rfl rfl ?_
          refine sv rfl (opv_pick_t rfl rfl) ?_
          refine sv rfl (opv_mv rfl) ?_
          refine soff rfl rfl rfl rfl ?_
          refine soff rfl rfl rfl rfl ?_
          refine soff rfl rfl rfl rfl ?_
          refine soff rfl rfl rfl rfl ?_
          refine soff rfl rfl rfl rfl ?_
          refine soff rfl rfl rfl rfl ?_
          refine sv rfl (opv_pick_t rfl rfl) ?_
          refine snil ?_
          refine ccond rfl (fun _ => ?_) (fun hx => Bool.noConfusion hx)
          refine cseq ?_
          refine cregion ?_
          refine sv rfl (opv_as rfl) ?_
          refine snil ?_
          refine cret ?_
          refine then_ret ?_
          obtain rfl := Option.some.inj h
          refine ⟨Or.inr rfl, _, _, _, (resVs_cons (ResV.tmp _ _ rfl) resVs_nil), (pubA_id rfl), ?_⟩
          rfl
        · replace h := ite_f hc h
          clear hc
          refine son rfl rfl rfl ?_
          refine sv rfl (opv_mv rfl) ?_
          refine son rfl rfl rfl ?_
          refine sv rfl (opv_len_sl si28 rfl) ?_
          refine son rfl rfl rfl ?_
          refine sv rfl (opv_ineq rfl rfl) ?_
          refine sv rfl (opv_pick_f rfl rfl) ?_
          refine sv rfl (opv_mv rfl) ?_
          refine ssplit 66 rfl (fun hc => ?_) (fun hc => ?_)
          · replace h := ite_t hc h
            clear hc
            refine soff rfl rfl rfl rfl ?_
            refine soff rfl rfl rfl rfl ?_
            refine sv rfl (opv_pick_t rfl rfl) ?_
            refine sv rfl (opv_mv rfl) ?_
            refine soff rfl rfl rfl rfl ?_
            refine soff rfl rfl rfl rfl ?_
            refine soff rfl rfl rfl rfl ?_
            refine soff rfl rfl rfl rfl ?_
            refine soff rfl rfl rfl rfl ?_
            refine soff rfl rfl rfl rfl ?_
            refine sv rfl (opv_pick_t rfl rfl) ?_
            refine snil ?_
            refine ccond rfl (fun _ => ?_) (fun hx => Bool.noConfusion hx)
            refine cseq ?_
            refine cregion ?_
            refine sv rfl (opv_as rfl) ?_
            refine snil ?_
            refine cret ?_
            refine then_ret ?_
            obtain rfl := Option.some.inj h
            refine ⟨Or.inr rfl, _, _, _, (resVs_cons (ResV.tmp _ _ rfl) resVs_nil), (pubA_id rfl), ?_⟩
            rfl
          · replace h := ite_f hc h
            clear hc
            refine son rfl rfl rfl ?_
            refine sv rfl (opv_mv rfl) ?_
            refine son rfl rfl rfl ?_
            refine sv rfl (opv_lss rfl rfl) ?_
            refine sv rfl (opv_pick_f rfl rfl) ?_
            refine sv rfl (opv_mv rfl) ?_
            refine ssplit 70 rfl (fun hc => ?_) (fun hc => ?_)
            · replace h := ite_t hc h
              clear hc
              refine soff rfl rfl rfl rfl ?_
              refine soff rfl rfl rfl rfl ?_
              refine soff rfl rfl rfl rfl ?_
              refine soff rfl rfl rfl rfl ?_
              refine soff rfl rfl rfl rfl ?_
              refine soff rfl rfl rfl rfl ?_
              refine sv rfl (opv_pick_t rfl rfl) ?_
              refine snil ?_
              refine ccond rfl (fun _ => ?_) (fun hx => Bool.noConfusion hx)
              refine cseq ?_
              refine cregion ?_
              refine sv rfl (opv_as rfl) ?_
              refine snil ?_
              refine cret ?_
              refine then_ret ?_
              obtain rfl := Option.some.inj h
              refine ⟨Or.inr rfl, _, _, _, (resVs_cons (ResV.tmp _ _ rfl) resVs_nil), (pubA_id rfl), ?_⟩
              rfl
            · replace h := ite_f hc h
              clear hc
              refine son rfl rfl rfl ?_
              refine sv rfl (opv_mv rfl) ?_
              refine son rfl rfl rfl ?_
              refine sv rfl (opv_mv rfl) ?_
              refine son rfl rfl rfl ?_
              refine sv rfl (opv_len_sl si22 rfl) ?_
              refine son rfl rfl rfl ?_
              refine sv rfl (opv_mv rfl) ?_
              refine son rfl rfl rfl ?_
              refine sv rfl (opv_sub rfl rfl) ?_
              refine son rfl rfl rfl ?_
              refine sv rfl (opv_gtr rfl rfl) ?_
              refine sv rfl (opv_pick_f rfl rfl) ?_
              refine snil ?_
              refine ccond rfl (fun hc => ?_) (fun hc => ?_)
              · replace h := ite_t hc h
                clear hc
                refine cseq ?_
                refine cregion ?_
                refine sv rfl (opv_as rfl) ?_
                refine snil ?_
                refine cret ?_
                refine then_ret ?_
                obtain rfl := Option.some.inj h
                refine ⟨Or.inr rfl, _, _, _, (resVs_cons (ResV.tmp _ _ rfl) resVs_nil), (pubA_id rfl), ?_⟩
                rfl
              · replace h := ite_f hc h
                clear hc
                refine cskip ?_
                refine then_normal ?_
                exact ⟨(), _, h, ⟨rfl, rfl, rfl, rfl, rfl, trivial⟩, rfl⟩
    · skip
      refine cregion ?_
      refine sv rfl (opv_mv rfl) ?_
      refine sv rfl (opv_ineq rfl rfl) ?_
      refine sv rfl (opv_mv rfl) ?_
      refine ssplit 37 rfl (fun hc => ?_) (fun hc => ?_)
      · replace h := ite_t hc h
        clear hc
        refine soff rfl rfl rfl rfl ?_
        refine soff rfl rfl rfl rfl ?_
        refine soff rfl rfl rfl rfl ?_
        refine soff rfl rfl rfl rfl ?_
        refine sv rfl (opv_pick_t rfl rfl) ?_
        refine snil ?_
        refine ccond rfl (fun _ => ?_) (fun hx => Bool.noConfusion hx)
        refine cseq ?_
        refine cregion ?_
        refine sv rfl (opv_mv rfl) ?_
        refine sv rfl (opv_mv rfl) ?_
        refine ssplit 44 rfl (fun hc => ?_) (fun hc => ?_)
        · replace h := ite_t hc h
          clear hc
          refine son rfl rfl rfl ?_
          refine sv rfl (opv_mv rfl) ?_
          refine son rfl rfl rfl ?_
          refine sv rfl (opv_ieql rfl rfl) ?_
          refine sv rfl (opv_pick_t rfl rfl) ?_
          refine sv rfl (opv_as rfl) ?_
          refine snil ?_
          refine cret ?_
          refine then_ret ?_
          obtain rfl := Option.some.inj h
          refine ⟨Or.inr rfl, _, _, _, (resVs_cons (ResV.tmp _ _ rfl) resVs_nil), (pubA_id rfl), ?_⟩
          rfl
        · replace h := ite_f hc h
          clear hc
          refine soff rfl rfl rfl rfl ?_
          refine soff rfl rfl rfl rfl ?_
          refine sv rfl (opv_pick_f rfl rfl) ?_
          refine sv rfl (opv_as rfl) ?_
          refine snil ?_
          refine cret ?_
          refine then_ret ?_
          obtain rfl := Option.some.inj h
          refine ⟨Or.inr rfl, _, _, _, (resVs_cons (ResV.tmp _ _ rfl) resVs_nil), (pubA_id rfl), ?_⟩
          rfl
      · replace h := ite_f hc h
        clear hc
        refine son rfl rfl rfl ?_
        refine sv rfl (opv_mv rfl) ?_
        refine son rfl rfl rfl ?_
        refine sv rfl (opv_mv rfl) ?_
        refine son rfl rfl rfl ?_
        refine sv rfl (opv_len_sl si22 rfl) ?_
        refine son rfl rfl rfl ?_
        refine sv rfl (opv_ieql rfl rfl) ?_
        refine sv rfl (opv_pick_f rfl rfl) ?_
        refine snil ?_
        refine ccond rfl (fun hc => ?_) (fun hc => ?_)
        · replace h := ite_t hc h
          clear hc
          refine cseq ?_
          refine cregion ?_
          refine sv rfl (opv_mv rfl) ?_
          refine sv rfl (opv_mv rfl) ?_
          refine ssplit 44 rfl (fun hc => ?_) (fun hc => ?_)
          · replace h := ite_t hc h
            clear hc
            refine son rfl rfl rfl ?_
            refine sv rfl (opv_mv rfl) ?_
            refine son rfl rfl rfl ?_
            refine sv rfl (opv_ieql rfl rfl) ?_
            refine sv rfl (opv_pick_t rfl rfl) ?_
            refine sv rfl (opv_as rfl) ?_
            refine snil ?_
            refine cret ?_
            refine then_ret ?_
            obtain rfl := Option.some.inj h
            refine ⟨Or.inr rfl, _, _, _, (resVs_cons (ResV.tmp _ _ rfl) resVs_nil), (pubA_id rfl), ?_⟩
            rfl
          · replace h := ite_f hc h
            clear hc
            refine soff rfl rfl rfl rfl ?_
            refine soff rfl rfl rfl rfl ?_
            refine sv rfl (opv_pick_f rfl rfl) ?_
            refine sv rfl (opv_as rfl) ?_
            refine snil ?_
            refine cret ?_
            refine then_ret ?_
            obtain rfl := Option.some.inj h
            refine ⟨Or.inr rfl, _, _, _, (resVs_cons (ResV.tmp _ _ rfl) resVs_nil), (pubA_id rfl), ?_⟩
            rfl
        · replace h := ite_f hc h
          clear hc
          refine cskip ?_
          refine then_normal ?_
          exact ⟨(), _, h, ⟨rfl, rfl, rfl, trivial⟩, rfl⟩

def m8_l04_StreamApart_k2 (a0 : GR04Stream) (a1 : List UInt8) (v1 : Bool) (b2 : Unit) : Option Bool :=
  (m12_l04_ours a0).bind fun v3 => if (([] : List UInt8).length + a1.length) * 1 ≤ 140737488355328 then ((m11_stream_Feed v3 a1).bind fun v5 => (m11_stream_Feed v3 a1).bind fun v6 => if v1 then ((m15_l04_theirs v5.1).bind fun v7 => (m15_l04_theirs v6.1).bind fun v8 => (m14_r04_Same v7 v8).bind fun v9 => if v9 then ((m16_r03_Lists v5.2.1 v6.2.1).bind fun v10 => if v10 then (if (decide (v5.2.2 = v6.2.2)) then (if (a1 == (([] : List UInt8) ++ a1)) then ((m15_l04_theirs v3).bind fun v11 => (m14_r04_Same v11 a0).bind fun v12 => if v12 then (if (decide (v5.2.2 = 1)) then (some true) else (if (decide (v5.2.2 = 13)) then (some true) else ((m17_stream_Sane v5.1).bind fun v13 => some v13))) else (some false)) else (some false)) else (some false)) else (some false)) else (some false)) else (some false)) else none
def m8_l04_StreamApart (a0 : GR04Stream) (a1 : List UInt8) : Option Bool :=
  (m10_l04_awake).bind fun v1 => if (decide (1000 < (a0.Buf.length : Int))) then (some v1) else (if (decide (1000 < (a1.length : Int))) then (some v1) else (m8_l04_StreamApart_k2 a0 a1 v1 ()))

set_option maxRecDepth 100000 in
theorem m8_l04_StreamApart_c {a0 : GR04Stream} {a1 : List UInt8} {r : Bool} (h : m8_l04_StreamApart a0 a1 = some r) : CallsA Try.prog 8 [.agg [.sl a0.Buf.length (a0.Buf.flatMap eU8), .i .i64 a0.Dead], .one (.sl a1.length (a1.flatMap eU8))] (· = .s (.one (.b r))) := by
  unfold m8_l04_StreamApart at h
  refine callsA_of Try.func8 rfl (nt := 87) rfl (Nat.le_of_ble_eq_true rfl) ?_
  intro w0 S0
  refine cseq ?_
  refine cregion ?_
  refine sbox rfl rfl ?_
  refine sv rfl (opv_as rfl) ?_
  refine snil ?_
  refine cseq ?_
  refine cregion ?_
  obtain ⟨v1, hv1, h⟩ := bind_eq h
  refine scall1 rfl fn10 opnds_nil (pubA_id rfl) (m10_l04_awake_c hv1) ?_
  refine sv rfl (opv_as rfl) ?_
  refine snil ?_
  refine cseq ?_
  refine cseq ?_
  refine cjoin3 (Unit) (fun b2 => [(1, .s (.one (.sl a1.length (a1.flatMap eU8)))), (2, .s (.one (.lp 0 0))), (5, .s (.one (.b v1)))]) (fun b2 => [.box [.sl a0.Buf.length (a0.Buf.flatMap eU8), .i .i64 a0.Dead]]) (fun b2 => m8_l04_StreamApart_k2 a0 a1 v1 b2 = some r) (fun _ _ => inbL_of rfl) (fun _ _ => blkinb_of rfl) (fun _ _ => Nat.le_of_ble_eq_true rfl) (fun b2 h => ?_) ?_
  · unfold m8_l04_StreamApart_k2 at h
    refine cseq ?_
    refine cregion ?_
    refine sv rfl (opv_loadN ti25 rfl (.lp _ _ _ rfl) (Nat.le_of_ble_eq_true rfl)) ?_
    obtain ⟨v3, hv3, h⟩ := bind_eq h
    refine scall1 rfl fn12 (opnds_cons rfl opnds_nil) (pubA_id rfl) (m12_l04_ours_c hv3) ?_
    refine salloc rfl zi27 ?_
    refine sstore sz27 rfl rfl rfl rfl (Nat.le_of_ble_eq_true rfl) ?_
    refine smem [.box [.sl a0.Buf.length (a0.Buf.flatMap eU8), .i .i64 a0.Dead], .box [.sl v3.Buf.length (v3.Buf.flatMap eU8), .i .i64 v3.Dead]] rfl ?_
    refine snil ?_
    refine cseq ?_
    refine cregion ?_
    refine sbuild0 rfl Try.underlying22 ei5 ?_
    refine sv rfl (opv_mv rfl) ?_
    obtain ⟨hb4, h⟩ := chk_eq h
    refine sapp (f := eU8) (xs := ([] : List UInt8)) (us := a1) rfl Try.underlying22 ei5 ni22 (fun _ => rfl) rfl rfl (.one _ _ _ _ (.id _ rfl)) rfl rfl rfl (.sl _ _ _ (flat_len (f := eU8) (fun _ => rfl) _)) rfl rfl hb4 (by decide) ?_
    refine sv rfl (opv_as rfl) ?_
    refine snil ?_
    refine cseq ?_
    refine cregion ?_
    refine sv rfl (opv_loadN ti27 rfl (.lp _ _ _ rfl) (Nat.le_of_ble_eq_true rfl)) ?_
    refine sv rfl (opv_mv rfl) ?_
    obtain ⟨v5, hv5, h⟩ := bind_eq h
    refine scall1 rfl fn11 (opnds_cons rfl (opnds_cons rfl opnds_nil)) (pubA_id rfl) (m11_stream_Feed_c hv5) ?_
    refine sv rfl (opv_mvt rfl) ?_
    refine sv rfl (opv_extract rfl rfl) ?_
    refine sv rfl (opv_extract rfl rfl) ?_
    refine sv rfl (opv_extract rfl rfl) ?_
    refine salloc rfl zi27 ?_
    refine sstore sz27 rfl rfl rfl rfl (Nat.le_of_ble_eq_true rfl) ?_
    refine smem [.box [.sl a0.Buf.length (a0.Buf.flatMap eU8), .i .i64 a0.Dead], .box [.sl v3.Buf.length (v3.Buf.flatMap eU8), .i .i64 v3.Dead], .arr 5 1 0 ((([] : List UInt8) ++ a1).flatMap eU8), .box [.sl v5.1.Buf.length (v5.1.Buf.flatMap eU8), .i .i64 v5.1.Dead]] rfl ?_
    refine sv rfl (opv_as rfl) ?_
    refine sv rfl (opv_as rfl) ?_
    refine snil ?_
    refine cseq ?_
    refine cregion ?_
    refine sv rfl (opv_loadN ti27 rfl (.lp _ _ _ rfl) (Nat.le_of_ble_eq_true rfl)) ?_
    refine sv rfl (opv_mv rfl) ?_
    obtain ⟨v6, hv6, h⟩ := bind_eq h
    refine scall1 rfl fn11 (opnds_cons rfl (opnds_cons rfl opnds_nil)) (pubA_id rfl) (m11_stream_Feed_c hv6) ?_
    refine sv rfl (opv_mvt rfl) ?_
    refine sv rfl (opv_extract rfl rfl) ?_
    refine sv rfl (opv_extract rfl rfl) ?_
    refine sv rfl (opv_extract rfl rfl) ?_
    refine salloc rfl zi27 ?_
    refine sstore sz27 rfl rfl rfl rfl (Nat.le_of_ble_eq_true rfl) ?_
    refine smem [.box [.sl a0.Buf.length (a0.Buf.flatMap eU8), .i .i64 a0.Dead], .box [.sl v3.Buf.length (v3.Buf.flatMap eU8), .i .i64 v3.Dead], .arr 5 1 0 ((([] : List UInt8) ++ a1).flatMap eU8), .box [.sl v5.1.Buf.length (v5.1.Buf.flatMap eU8), .i .i64 v5.1.Dead], .box [.sl v6.1.Buf.length (v6.1.Buf.flatMap eU8), .i .i64 v6.1.Dead]] rfl ?_
    refine sv rfl (opv_as rfl) ?_
    refine sv rfl (opv_as rfl) ?_
    refine snil ?_
    refine cseq ?_
    refine cpub 7 rfl (by (repeat' first | exact PubA.nil _ | apply PubA.cons | apply PubV.one | apply PubV.agg | exact PubL.nil | exact PubL.ls _ _ _ _ _ _ rfl (flat_len (f := eU8) (fun _ => rfl) _).symm | exact PubL.id _ rfl | exact PubLs.nil _ | apply PubLs.cons)) ?_
    refine cdraw mixed (by kernel_rfl) ?_
    refine dv rfl (opv_mv rfl) ?_
    refine dv rfl (opv_mv rfl) ?_
    refine dsplit 45 rfl (fun hc => ?_) (fun hc => ?_)
    · replace h := ite_t hc h
      clear hc
      refine dvg rfl rfl rfl (opv_loadN ti27 rfl (.lp _ _ _ rfl) (Nat.le_of_ble_eq_true rfl)) ?_
      obtain ⟨v7, hv7, h⟩ := bind_eq h
      refine ddg rfl rfl rfl (opD_call fn15 (opnds_cons rfl opnds_nil) rfl (m15_l04_theirs_c hv7)) ?_
      refine dvg rfl rfl rfl (opv_loadN ti27 rfl (.lp _ _ _ rfl) (Nat.le_of_ble_eq_true rfl)) ?_
      obtain ⟨v8, hv8, h⟩ := bind_eq h
      refine ddg rfl rfl rfl (opD_call fn15 (opnds_cons rfl opnds_nil) rfl (m15_l04_theirs_c hv8)) ?_
      obtain ⟨v9, hv9, h⟩ := bind_eq h
      refine ddg rfl rfl rfl (opD_call fn14 (opnds_cons rfl (opnds_cons rfl opnds_nil)) rfl (m14_r04_Same_c hv9)) ?_
      refine dv rfl (opv_pick_t rfl rfl) ?_
      refine dv rfl (opv_mv rfl) ?_
      refine dsplit 52 rfl (fun hc => ?_) (fun hc => ?_)
      · replace h := ite_t hc h
        clear hc
        refine dvg rfl rfl rfl (opv_mv rfl) ?_
        refine dvg rfl rfl rfl (opv_mv rfl) ?_
        obtain ⟨v10, hv10, h⟩ := bind_eq h
        refine ddg rfl rfl rfl (opD_call fn16 (opnds_cons rfl (opnds_cons rfl opnds_nil)) rfl (m16_r03_Lists_c hv10)) ?_
        refine dv rfl (opv_pick_t rfl rfl) ?_
        refine dv rfl (opv_mv rfl) ?_
        refine dsplit 57 rfl (fun hc => ?_) (fun hc => ?_)
        · replace h := ite_t hc h
          clear hc
          refine dvg rfl rfl rfl (opv_mv rfl) ?_
          refine dvg rfl rfl rfl (opv_mv rfl) ?_
          refine dvg rfl rfl rfl (opv_ieql rfl rfl) ?_
          refine dv rfl (opv_pick_t rfl rfl) ?_
          refine dv rfl (opv_mv rfl) ?_
          refine dsplit 62 rfl (fun hc => ?_) (fun hc => ?_)
          · replace h := ite_t hc h
            clear hc
            refine dvg rfl rfl rfl (opv_mv rfl) ?_
            refine dvg rfl rfl rfl (opv_bs (l := a1) Try.underlying22 Try.underlying5 Try.underlying9 rfl rfl rfl) ?_
            refine dvg rfl rfl rfl (opv_mv rfl) ?_
            refine dvg rfl rfl rfl (opv_bs (l := (([] : List UInt8) ++ a1)) Try.underlying22 Try.underlying5 Try.underlying9 rfl rfl rfl) ?_
            refine dvg rfl rfl rfl (opv_seql' rfl rfl) ?_
            refine dv rfl (opv_pick_t rfl rfl) ?_
            refine dv rfl (opv_mv rfl) ?_
            refine dsplit 69 rfl (fun hc => ?_) (fun hc => ?_)
            · replace h := ite_t hc h
              clear hc
              refine dvg rfl rfl rfl (opv_loadN ti27 rfl (.lp _ _ _ rfl) (Nat.le_of_ble_eq_true rfl)) ?_
              obtain ⟨v11, hv11, h⟩ := bind_eq h
              refine ddg rfl rfl rfl (opD_call fn15 (opnds_cons rfl opnds_nil) rfl (m15_l04_theirs_c hv11)) ?_
              refine dvg rfl rfl rfl (opv_loadN ti25 rfl (.lp _ _ _ rfl) (Nat.le_of_ble_eq_true rfl)) ?_
              obtain ⟨v12, hv12, h⟩ := bind_eq h
              refine ddg rfl rfl rfl (opD_call fn14 (opnds_cons rfl (opnds_cons rfl opnds_nil)) rfl (m14_r04_Same_c hv12)) ?_
              refine dv rfl (opv_pick_t rfl rfl) ?_
              refine dv rfl (opv_mv rfl) ?_
              refine dsplit 75 rfl (fun hc => ?_) (fun hc => ?_)
              · replace h := ite_t hc h
                clear hc
                refine dvg rfl rfl rfl (opv_mv rfl) ?_
                refine dvg rfl rfl rfl (opv_ieql rfl rfl) ?_
                refine dvg rfl rfl rfl (opv_mv rfl) ?_
                refine dsplit 78 rfl (fun hc => ?_) (fun hc => ?_)
                · replace h := ite_t hc h
                  clear hc
                  refine doff rfl rfl rfl rfl ?_
                  refine doff rfl rfl rfl rfl ?_
                  refine dvg rfl rfl rfl (opv_pick_t rfl rfl) ?_
                  refine dvg rfl rfl rfl (opv_mv rfl) ?_
                  refine doff rfl rfl rfl rfl ?_
                  refine doff rfl rfl rfl rfl ?_
                  refine dvg rfl rfl rfl (opv_pick_t rfl rfl) ?_
                  refine dv rfl (opv_pick_t rfl rfl) ?_
                  refine dv rfl (opv_as rfl) ?_
                  refine dnil ?_
                  refine then_normal ?_
                  refine cret ?_
                  obtain rfl := Option.some.inj h
                  refine ⟨Or.inr rfl, _, _, _, (resVs_cons (ResV.tmp _ _ rfl) resVs_nil), (pubA_id rfl), ?_⟩
                  rfl
                · replace h := ite_f hc h
                  clear hc
                  refine dvg rfl rfl rfl (opv_mv rfl) ?_
                  refine dvg rfl rfl rfl (opv_ieql rfl rfl) ?_
                  refine dvg rfl rfl rfl (opv_pick_f rfl rfl) ?_
                  refine dvg rfl rfl rfl (opv_mv rfl) ?_
                  refine dsplit 82 rfl (fun hc => ?_) (fun hc => ?_)
                  · replace h := ite_t hc h
                    clear hc
                    refine doff rfl rfl rfl rfl ?_
                    refine doff rfl rfl rfl rfl ?_
                    refine dvg rfl rfl rfl (opv_pick_t rfl rfl) ?_
                    refine dv rfl (opv_pick_t rfl rfl) ?_
                    refine dv rfl (opv_as rfl) ?_
                    refine dnil ?_
                    refine then_normal ?_
                    refine cret ?_
                    obtain rfl := Option.some.inj h
                    refine ⟨Or.inr rfl, _, _, _, (resVs_cons (ResV.tmp _ _ rfl) resVs_nil), (pubA_id rfl), ?_⟩
                    rfl
                  · replace h := ite_f hc h
                    clear hc
                    refine dvg rfl rfl rfl (opv_loadN ti27 rfl (.lp _ _ _ rfl) (Nat.le_of_ble_eq_true rfl)) ?_
                    obtain ⟨v13, hv13, h⟩ := bind_eq h
                    refine ddg rfl rfl rfl (opD_call fn17 (opnds_cons rfl opnds_nil) rfl (m17_stream_Sane_c hv13)) ?_
                    refine dvg rfl rfl rfl (opv_pick_f rfl rfl) ?_
                    refine dv rfl (opv_pick_t rfl rfl) ?_
                    refine dv rfl (opv_as rfl) ?_
                    refine dnil ?_
                    refine then_normal ?_
                    refine cret ?_
                    obtain rfl := Option.some.inj h
                    refine ⟨Or.inr rfl, _, _, _, (resVs_cons (ResV.tmp _ _ rfl) resVs_nil), (pubA_id rfl), ?_⟩
                    rfl
              · replace h := ite_f hc h
                clear hc
                refine doff rfl rfl rfl rfl ?_
                refine doff rfl rfl rfl rfl ?_
                refine doff rfl rfl rfl rfl ?_
                refine doffu rfl rfl rfl ?_
                refine doffu rfl rfl rfl ?_
                refine doff rfl rfl rfl rfl ?_
                refine doff rfl rfl rfl rfl ?_
                refine doffu rfl rfl rfl ?_
                refine doffu rfl rfl rfl ?_
                refine doff rfl rfl rfl rfl ?_
                refine dv rfl (opv_pick_f rfl rfl) ?_
                refine dv rfl (opv_as rfl) ?_
                refine dnil ?_
                refine then_normal ?_
                refine cret ?_
                obtain rfl := Option.some.inj h
                refine ⟨Or.inr rfl, _, _, _, (resVs_cons (ResV.tmp _ _ rfl) resVs_nil), (pubA_id rfl), ?_⟩
                rfl
            · replace h := ite_f hc h
              clear hc
              refine doff rfl rfl rfl rfl ?_
              refine doff rfl rfl rfl rfl ?_
              refine doff rfl rfl rfl rfl ?_
              refine doff rfl rfl rfl rfl ?_
              refine dv rfl (opv_pick_f rfl rfl) ?_
              refine dv rfl (opv_mv rfl) ?_
              refine doff rfl rfl rfl rfl ?_
              refine doff rfl rfl rfl rfl ?_
              refine doff rfl rfl rfl rfl ?_
              refine doffu rfl rfl rfl ?_
              refine doffu rfl rfl rfl ?_
              refine doff rfl rfl rfl rfl ?_
              refine doff rfl rfl rfl rfl ?_
              refine doffu rfl rfl rfl ?_
              refine doffu rfl rfl rfl ?_
              refine doff rfl rfl rfl rfl ?_
              refine dv rfl (opv_pick_f rfl rfl) ?_
              refine dv rfl (opv_as rfl) ?_
              refine dnil ?_
              refine then_normal ?_
              refine cret ?_
              obtain rfl := Option.some.inj h
              refine ⟨Or.inr rfl, _, _, _, (resVs_cons (ResV.tmp _ _ rfl) resVs_nil), (pubA_id rfl), ?_⟩
              rfl
          · replace h := ite_f hc h
            clear hc
            refine doff rfl rfl rfl rfl ?_
            refine doff rfl rfl rfl rfl ?_
            refine doff rfl rfl rfl rfl ?_
            refine doff rfl rfl rfl rfl ?_
            refine doff rfl rfl rfl rfl ?_
            refine dv rfl (opv_pick_f rfl rfl) ?_
            refine dv rfl (opv_mv rfl) ?_
            refine doff rfl rfl rfl rfl ?_
            refine doff rfl rfl rfl rfl ?_
            refine doff rfl rfl rfl rfl ?_
            refine doff rfl rfl rfl rfl ?_
            refine dv rfl (opv_pick_f rfl rfl) ?_
            refine dv rfl (opv_mv rfl) ?_
            refine doff rfl rfl rfl rfl ?_
            refine doff rfl rfl rfl rfl ?_
            refine doff rfl rfl rfl rfl ?_
            refine doffu rfl rfl rfl ?_
            refine doffu rfl rfl rfl ?_
            refine doff rfl rfl rfl rfl ?_
            refine doff rfl rfl rfl rfl ?_
            refine doffu rfl rfl rfl ?_
            refine doffu rfl rfl rfl ?_
            refine doff rfl rfl rfl rfl ?_
            refine dv rfl (opv_pick_f rfl rfl) ?_
            refine dv rfl (opv_as rfl) ?_
            refine dnil ?_
            refine then_normal ?_
            refine cret ?_
            obtain rfl := Option.some.inj h
            refine ⟨Or.inr rfl, _, _, _, (resVs_cons (ResV.tmp _ _ rfl) resVs_nil), (pubA_id rfl), ?_⟩
            rfl
        · replace h := ite_f hc h
          clear hc
          refine doff rfl rfl rfl rfl ?_
          refine doff rfl rfl rfl rfl ?_
          refine doff rfl rfl rfl rfl ?_
          refine dv rfl (opv_pick_f rfl rfl) ?_
          refine dv rfl (opv_mv rfl) ?_
          refine doff rfl rfl rfl rfl ?_
          refine doff rfl rfl rfl rfl ?_
          refine doff rfl rfl rfl rfl ?_
          refine doff rfl rfl rfl rfl ?_
          refine doff rfl rfl rfl rfl ?_
          refine dv rfl (opv_pick_f rfl rfl) ?_
          refine dv rfl (opv_mv rfl) ?_
          refine doff rfl rfl rfl rfl ?_
          refine doff rfl rfl rfl rfl ?_
          refine doff rfl rfl rfl rfl ?_
          refine doff rfl rfl rfl rfl ?_
          refine dv rfl (opv_pick_f rfl rfl) ?_
          refine dv rfl (opv_mv rfl) ?_
          refine doff rfl rfl rfl rfl ?_
          refine doff rfl rfl rfl rfl ?_
          refine doff rfl rfl rfl rfl ?_
          refine doffu rfl rfl rfl ?_
          refine doffu rfl rfl rfl ?_
          refine doff rfl rfl rfl rfl ?_
          refine doff rfl rfl rfl rfl ?_
          refine doffu rfl rfl rfl ?_
          refine doffu rfl rfl rfl ?_
          refine doff rfl rfl rfl rfl ?_
          refine dv rfl (opv_pick_f rfl rfl) ?_
          refine dv rfl (opv_as rfl) ?_
          refine dnil ?_
          refine then_normal ?_
          refine cret ?_
          obtain rfl := Option.some.inj h
          refine ⟨Or.inr rfl, _, _, _, (resVs_cons (ResV.tmp _ _ rfl) resVs_nil), (pubA_id rfl), ?_⟩
          rfl
      · replace h := ite_f hc h
        clear hc
        refine doff rfl rfl rfl rfl ?_
        refine doff rfl rfl rfl rfl ?_
        refine doff rfl rfl rfl rfl ?_
        refine dv rfl (opv_pick_f rfl rfl) ?_
        refine dv rfl (opv_mv rfl) ?_
        refine doff rfl rfl rfl rfl ?_
        refine doff rfl rfl rfl rfl ?_
        refine doff rfl rfl rfl rfl ?_
        refine dv rfl (opv_pick_f rfl rfl) ?_
        refine dv rfl (opv_mv rfl) ?_
        refine doff rfl rfl rfl rfl ?_
        refine doff rfl rfl rfl rfl ?_
        refine doff rfl rfl rfl rfl ?_
        refine doff rfl rfl rfl rfl ?_
        refine doff rfl rfl rfl rfl ?_
        refine dv rfl (opv_pick_f rfl rfl) ?_
        refine dv rfl (opv_mv rfl) ?_
        refine doff rfl rfl rfl rfl ?_
        refine doff rfl rfl rfl rfl ?_
        refine doff rfl rfl rfl rfl ?_
        refine doff rfl rfl rfl rfl ?_
        refine dv rfl (opv_pick_f rfl rfl) ?_
        refine dv rfl (opv_mv rfl) ?_
        refine doff rfl rfl rfl rfl ?_
        refine doff rfl rfl rfl rfl ?_
        refine doff rfl rfl rfl rfl ?_
        refine doffu rfl rfl rfl ?_
        refine doffu rfl rfl rfl ?_
        refine doff rfl rfl rfl rfl ?_
        refine doff rfl rfl rfl rfl ?_
        refine doffu rfl rfl rfl ?_
        refine doffu rfl rfl rfl ?_
        refine doff rfl rfl rfl rfl ?_
        refine dv rfl (opv_pick_f rfl rfl) ?_
        refine dv rfl (opv_as rfl) ?_
        refine dnil ?_
        refine then_normal ?_
        refine cret ?_
        obtain rfl := Option.some.inj h
        refine ⟨Or.inr rfl, _, _, _, (resVs_cons (ResV.tmp _ _ rfl) resVs_nil), (pubA_id rfl), ?_⟩
        rfl
    · replace h := ite_f hc h
      clear hc
      refine doff rfl rfl rfl rfl ?_
      refine doff rfl rfl rfl rfl ?_
      refine doff rfl rfl rfl rfl ?_
      refine doff rfl rfl rfl rfl ?_
      refine doff rfl rfl rfl rfl ?_
      refine dv rfl (opv_pick_f rfl rfl) ?_
      refine dv rfl (opv_mv rfl) ?_
      refine doff rfl rfl rfl rfl ?_
      refine doff rfl rfl rfl rfl ?_
      refine doff rfl rfl rfl rfl ?_
      refine dv rfl (opv_pick_f rfl rfl) ?_
      refine dv rfl (opv_mv rfl) ?_
      refine doff rfl rfl rfl rfl ?_
      refine doff rfl rfl rfl rfl ?_
      refine doff rfl rfl rfl rfl ?_
      refine dv rfl (opv_pick_f rfl rfl) ?_
      refine dv rfl (opv_mv rfl) ?_
      refine doff rfl rfl rfl rfl ?_
      refine doff rfl rfl rfl rfl ?_
      refine doff rfl rfl rfl rfl ?_
      refine doff rfl rfl rfl rfl ?_
      refine doff rfl rfl rfl rfl ?_
      refine dv rfl (opv_pick_f rfl rfl) ?_
      refine dv rfl (opv_mv rfl) ?_
      refine doff rfl rfl rfl rfl ?_
      refine doff rfl rfl rfl rfl ?_
      refine doff rfl rfl rfl rfl ?_
      refine doff rfl rfl rfl rfl ?_
      refine dv rfl (opv_pick_f rfl rfl) ?_
      refine dv rfl (opv_mv rfl) ?_
      refine doff rfl rfl rfl rfl ?_
      refine doff rfl rfl rfl rfl ?_
      refine doff rfl rfl rfl rfl ?_
      refine doffu rfl rfl rfl ?_
      refine doffu rfl rfl rfl ?_
      refine doff rfl rfl rfl rfl ?_
      refine doff rfl rfl rfl rfl ?_
      refine doffu rfl rfl rfl ?_
      refine doffu rfl rfl rfl ?_
      refine doff rfl rfl rfl rfl ?_
      refine dv rfl (opv_pick_f rfl rfl) ?_
      refine dv rfl (opv_as rfl) ?_
      refine dnil ?_
      refine then_normal ?_
      refine cret ?_
      obtain rfl := Option.some.inj h
      refine ⟨Or.inr rfl, _, _, _, (resVs_cons (ResV.tmp _ _ rfl) resVs_nil), (pubA_id rfl), ?_⟩
      rfl
  · skip
    refine cregion ?_
    refine sv rfl (opv_fieldAddr_lp fi25_0 rfl) ?_
    refine sv rfl (opv_load1 ti22 rfl (.lp _ _ _ rfl) rfl) ?_
    refine sv rfl (opv_len_sl si22 rfl) ?_
    refine sv rfl (opv_gtr rfl rfl) ?_
    refine sv rfl (opv_mv rfl) ?_
    refine ssplit 19 rfl (fun hc => ?_) (fun hc => ?_)
    · replace h := ite_t hc h
      clear hc
      refine soff rfl rfl rfl rfl ?_
      refine soff rfl rfl rfl rfl ?_
      refine soff rfl rfl rfl rfl ?_
      refine sv rfl (opv_pick_t rfl rfl) ?_
      refine snil ?_
      refine ccond rfl (fun _ => ?_) (fun hx => Bool.noConfusion hx)
      refine cseq ?_
      refine cregion ?_
      refine sv rfl (opv_mv rfl) ?_
      refine sv rfl (opv_as rfl) ?_
      refine snil ?_
      refine cret ?_
      refine then_ret ?_
      obtain rfl := Option.some.inj h
      refine ⟨Or.inr rfl, _, _, _, (resVs_cons (ResV.tmp _ _ rfl) resVs_nil), (pubA_id rfl), ?_⟩
      rfl
    · replace h := ite_f hc h
      clear hc
      refine son rfl rfl rfl ?_
      refine sv rfl (opv_mv rfl) ?_
      refine son rfl rfl rfl ?_
      refine sv rfl (opv_len_sl si22 rfl) ?_
      refine son rfl rfl rfl ?_
      refine sv rfl (opv_gtr rfl rfl) ?_
      refine sv rfl (opv_pick_f rfl rfl) ?_
      refine snil ?_
      refine ccond rfl (fun hc => ?_) (fun hc => ?_)
      · replace h := ite_t hc h
        clear hc
        refine cseq ?_
        refine cregion ?_
        refine sv rfl (opv_mv rfl) ?_
        refine sv rfl (opv_as rfl) ?_
        refine snil ?_
        refine cret ?_
        refine then_ret ?_
        obtain rfl := Option.some.inj h
        refine ⟨Or.inr rfl, _, _, _, (resVs_cons (ResV.tmp _ _ rfl) resVs_nil), (pubA_id rfl), ?_⟩
        rfl
      · replace h := ite_f hc h
        clear hc
        refine cskip ?_
        refine then_normal ?_
        exact ⟨(), _, h, ⟨rfl, rfl, rfl, trivial⟩, rfl⟩

def m9_l04_StreamNothing (a0 : GR04Stream) : Option Bool :=
  (m10_l04_awake).bind fun v1 => if (decide (1000 < (a0.Buf.length : Int))) then (some v1) else ((m12_l04_ours a0).bind fun v2 => (m11_stream_Feed v2 ([] : List UInt8)).bind fun v3 => (m12_l04_ours a0).bind fun v4 => (m17_stream_Sane v4).bind fun v5 => if (!v5) then (if v1 then (if (decide (v3.2.2 = 1)) then (some (decide ((v3.2.1.length : Int) = 0))) else (some false)) else (some false)) else (if (!decide (a0.Dead = 0)) then (if v1 then (if (decide (v3.2.2 = 13)) then (if (decide ((v3.2.1.length : Int) = 0)) then (some (decide (v3.1.Dead = a0.Dead))) else (some false)) else (some false)) else (some false)) else (if v1 then (if (decide (v3.2.2 = 0)) then (if (decide ((v3.2.1.length : Int) = 0)) then ((m15_l04_theirs v3.1).bind fun v6 => (m14_r04_Same v6 a0).bind fun v7 => some v7) else (some false)) else (some false)) else (some false))))

set_option maxRecDepth 100000 in
theorem m9_l04_StreamNothing_c {a0 : GR04Stream} {r : Bool} (h : m9_l04_StreamNothing a0 = some r) : CallsA Try.prog 9 [.agg [.sl a0.Buf.length (a0.Buf.flatMap eU8), .i .i64 a0.Dead]] (· = .s (.one (.b r))) := by
  unfold m9_l04_StreamNothing at h
  refine callsA_of Try.func9 rfl (nt := 72) rfl (Nat.le_of_ble_eq_true rfl) ?_
  intro w0 S0
  refine cseq ?_
  refine cregion ?_
  refine sbox rfl rfl ?_
  refine sv rfl (opv_as rfl) ?_
  refine snil ?_
  refine cseq ?_
  refine cregion ?_
  obtain ⟨v1, hv1, h⟩ := bind_eq h
  refine scall1 rfl fn10 opnds_nil (pubA_id rfl) (m10_l04_awake_c hv1) ?_
  refine sv rfl (opv_as rfl) ?_
  refine snil ?_
  refine cseq ?_
  refine cseq ?_
  refine cregion ?_
  refine sv rfl (opv_fieldAddr_lp fi25_0 rfl) ?_
  refine sv rfl (opv_load1 ti22 rfl (.lp _ _ _ rfl) rfl) ?_
  refine sv rfl (opv_len_sl si22 rfl) ?_
  refine sv rfl (opv_gtr rfl rfl) ?_
  refine snil ?_
  refine ccond rfl (fun hc => ?_) (fun hc => ?_)
  · replace h := ite_t hc h
    clear hc
    refine cseq ?_
    refine cregion ?_
    refine sv rfl (opv_mv rfl) ?_
    refine sv rfl (opv_as rfl) ?_
    refine snil ?_
    refine cret ?_
    refine then_ret ?_
    obtain rfl := Option.some.inj h
    refine ⟨Or.inr rfl, _, _, _, (resVs_cons (ResV.tmp _ _ rfl) resVs_nil), (pubA_id rfl), ?_⟩
    rfl
  · replace h := ite_f hc h
    clear hc
    refine cskip ?_
    refine then_normal ?_
    refine cseq ?_
    refine cregion ?_
    refine sv rfl (opv_loadN ti25 rfl (.lp _ _ _ rfl) (Nat.le_of_ble_eq_true rfl)) ?_
    obtain ⟨v2, hv2, h⟩ := bind_eq h
    refine scall1 rfl fn12 (opnds_cons rfl opnds_nil) (pubA_id rfl) (m12_l04_ours_c hv2) ?_
    obtain ⟨v3, hv3, h⟩ := bind_eq h
    refine scall1 rfl fn11 (opnds_cons rfl (opnds_cons rfl opnds_nil)) (pubC rfl) (m11_stream_Feed_c hv3) ?_
    refine sv rfl (opv_mvt rfl) ?_
    refine sv rfl (opv_extract rfl rfl) ?_
    refine sv rfl (opv_extract rfl rfl) ?_
    refine sv rfl (opv_extract rfl rfl) ?_
    refine salloc rfl zi27 ?_
    refine sstore sz27 rfl rfl rfl rfl (Nat.le_of_ble_eq_true rfl) ?_
    refine smem [.box [.sl a0.Buf.length (a0.Buf.flatMap eU8), .i .i64 a0.Dead], .box [.sl v3.1.Buf.length (v3.1.Buf.flatMap eU8), .i .i64 v3.1.Dead]] rfl ?_
    refine sv rfl (opv_as rfl) ?_
    refine sv rfl (opv_as rfl) ?_
    refine snil ?_
    refine cseq ?_
    refine cblock ?_
    refine cseq ?_
    refine cregion ?_
    refine sv rfl (opv_loadN ti25 rfl (.lp _ _ _ rfl) (Nat.le_of_ble_eq_true rfl)) ?_
    obtain ⟨v4, hv4, h⟩ := bind_eq h
    refine scall1 rfl fn12 (opnds_cons rfl opnds_nil) (pubA_id rfl) (m12_l04_ours_c hv4) ?_
    obtain ⟨v5, hv5, h⟩ := bind_eq h
    refine scall1 rfl fn17 (opnds_cons rfl opnds_nil) (pubA_id rfl) (m17_stream_Sane_c hv5) ?_
    refine sv rfl (opv_not rfl) ?_
    refine sv rfl (opv_as rfl) ?_
    refine snil ?_
    refine ccond rfl (fun hc => ?_) (fun hc => ?_)
    · replace h := ite_t hc h
      clear hc
      refine cseq ?_
      refine cregion ?_
      refine sv rfl (opv_mv rfl) ?_
      refine sv rfl (opv_mv rfl) ?_
      refine ssplit 26 rfl (fun hc => ?_) (fun hc => ?_)
      · replace h := ite_t hc h
        clear hc
        refine son rfl rfl rfl ?_
        refine sv rfl (opv_mv rfl) ?_
        refine son rfl rfl rfl ?_
        refine sv rfl (opv_ieql rfl rfl) ?_
        refine sv rfl (opv_pick_t rfl rfl) ?_
        refine sv rfl (opv_mv rfl) ?_
        refine ssplit 30 rfl (fun hc => ?_) (fun hc => ?_)
        · replace h := ite_t hc h
          clear hc
          refine son rfl rfl rfl ?_
          refine sv rfl (opv_mv rfl) ?_
          refine son rfl rfl rfl ?_
          refine sv rfl (opv_len_sl si28 rfl) ?_
          refine son rfl rfl rfl ?_
          refine sv rfl (opv_ieql rfl rfl) ?_
          refine sv rfl (opv_pick_t rfl rfl) ?_
          refine sv rfl (opv_as rfl) ?_
          refine snil ?_
          refine cret ?_
          refine block_ret ?_
          refine then_ret ?_
          obtain rfl := Option.some.inj h
          refine ⟨Or.inr rfl, _, _, _, (resVs_cons (ResV.tmp _ _ rfl) resVs_nil), (pubA_id rfl), ?_⟩
          rfl
        · replace h := ite_f hc h
          clear hc
          refine soff rfl rfl rfl rfl ?_
          refine soff rfl rfl rfl rfl ?_
          refine soff rfl rfl rfl rfl ?_
          refine sv rfl (opv_pick_f rfl rfl) ?_
          refine sv rfl (opv_as rfl) ?_
          refine snil ?_
          refine cret ?_
          refine block_ret ?_
          refine then_ret ?_
          obtain rfl := Option.some.inj h
          refine ⟨Or.inr rfl, _, _, _, (resVs_cons (ResV.tmp _ _ rfl) resVs_nil), (pubA_id rfl), ?_⟩
          rfl
      · replace h := ite_f hc h
        clear hc
        refine soff rfl rfl rfl rfl ?_
        refine soff rfl rfl rfl rfl ?_
        refine sv rfl (opv_pick_f rfl rfl) ?_
        refine sv rfl (opv_mv rfl) ?_
        refine soff rfl rfl rfl rfl ?_
        refine soff rfl rfl rfl rfl ?_
        refine soff rfl rfl rfl rfl ?_
        refine sv rfl (opv_pick_f rfl rfl) ?_
        refine sv rfl (opv_as rfl) ?_
        refine snil ?_
        refine cret ?_
        refine block_ret ?_
        refine then_ret ?_
        obtain rfl := Option.some.inj h
        refine ⟨Or.inr rfl, _, _, _, (resVs_cons (ResV.tmp _ _ rfl) resVs_nil), (pubA_id rfl), ?_⟩
        rfl
    · replace h := ite_f hc h
      clear hc
      refine cseq ?_
      refine cregion ?_
      refine sv rfl (opv_fieldAddr_lp fi25_1 rfl) ?_
      refine sv rfl (opv_load1 ti23 rfl (.lp _ _ _ rfl) rfl) ?_
      refine sv rfl (opv_ineq rfl rfl) ?_
      refine sv rfl (opv_as rfl) ?_
      refine snil ?_
      refine ccond rfl (fun hc => ?_) (fun hc => ?_)
      · replace h := ite_t hc h
        clear hc
        refine cseq ?_
        refine cregion ?_
        refine sv rfl (opv_mv rfl) ?_
        refine sv rfl (opv_mv rfl) ?_
        refine ssplit 40 rfl (fun hc => ?_) (fun hc => ?_)
        · replace h := ite_t hc h
          clear hc
          refine son rfl rfl rfl ?_
          refine sv rfl (opv_mv rfl) ?_
          refine son rfl rfl rfl ?_
          refine sv rfl (opv_ieql rfl rfl) ?_
          refine sv rfl (opv_pick_t rfl rfl) ?_
          refine sv rfl (opv_mv rfl) ?_
          refine ssplit 44 rfl (fun hc => ?_) (fun hc => ?_)
          · replace h := ite_t hc h
            clear hc
            refine son rfl rfl rfl ?_
            refine sv rfl (opv_mv rfl) ?_
            refine son rfl rfl rfl ?_
            refine sv rfl (opv_len_sl si28 rfl) ?_
            refine son rfl rfl rfl ?_
            refine sv rfl (opv_ieql rfl rfl) ?_
            refine sv rfl (opv_pick_t rfl rfl) ?_
            refine sv rfl (opv_mv rfl) ?_
            refine ssplit 49 rfl (fun hc => ?_) (fun hc => ?_)
            · replace h := ite_t hc h
              clear hc
              refine son rfl rfl rfl ?_
              refine sv rfl (opv_fieldAddr_lp fi27_1 rfl) ?_
              refine son rfl rfl rfl ?_
              refine sv rfl (opv_load1 ti23 rfl (.lp _ _ _ rfl) rfl) ?_
              refine son rfl rfl rfl ?_
              refine sv rfl (opv_fieldAddr_lp fi25_1 rfl) ?_
              refine son rfl rfl rfl ?_
              refine sv rfl (opv_load1 ti23 rfl (.lp _ _ _ rfl) rfl) ?_
              refine son rfl rfl rfl ?_
              refine sv rfl (opv_ieql rfl rfl) ?_
              refine sv rfl (opv_pick_t rfl rfl) ?_
              refine sv rfl (opv_as rfl) ?_
              refine snil ?_
              refine cret ?_
              refine block_ret ?_
              refine then_ret ?_
              obtain rfl := Option.some.inj h
              refine ⟨Or.inr rfl, _, _, _, (resVs_cons (ResV.tmp _ _ rfl) resVs_nil), (pubA_id rfl), ?_⟩
              rfl
            · replace h := ite_f hc h
              clear hc
              refine soff rfl rfl rfl rfl ?_
              refine soff rfl rfl rfl rfl ?_
              refine soff rfl rfl rfl rfl ?_
              refine soff rfl rfl rfl rfl ?_
              refine soff rfl rfl rfl rfl ?_
              refine sv rfl (opv_pick_f rfl rfl) ?_
              refine sv rfl (opv_as rfl) ?_
              refine snil ?_
              refine cret ?_
              refine block_ret ?_
              refine then_ret ?_
              obtain rfl := Option.some.inj h
              refine ⟨Or.inr rfl, _, _, _, (resVs_cons (ResV.tmp _ _ rfl) resVs_nil), (pubA_id rfl), ?_⟩
              rfl
          · replace h := ite_f hc h
            clear hc
            refine soff rfl rfl rfl rfl ?_
            refine soff rfl rfl rfl rfl ?_
            refine soff rfl rfl rfl rfl ?_
            refine sv rfl (opv_pick_f rfl rfl) ?_
            refine sv rfl (opv_mv rfl) ?_
            refine soff rfl rfl rfl rfl ?_
            refine soff rfl rfl rfl rfl ?_
            refine soff rfl rfl rfl rfl ?_
            refine soff rfl rfl rfl rfl ?_
            refine soff rfl rfl rfl rfl ?_
            refine sv rfl (opv_pick_f rfl rfl) ?_
            refine sv rfl (opv_as rfl) ?_
            refine snil ?_
            refine cret ?_
            refine block_ret ?_
            refine then_ret ?_
            obtain rfl := Option.some.inj h
            refine ⟨Or.inr rfl, _, _, _, (resVs_cons (ResV.tmp _ _ rfl) resVs_nil), (pubA_id rfl), ?_⟩
            rfl
        · replace h := ite_f hc h
          clear hc
          refine soff rfl rfl rfl rfl ?_
          refine soff rfl rfl rfl rfl ?_
          refine sv rfl (opv_pick_f rfl rfl) ?_
          refine sv rfl (opv_mv rfl) ?_
          refine soff rfl rfl rfl rfl ?_
          refine soff rfl rfl rfl rfl ?_
          refine soff rfl rfl rfl rfl ?_
          refine sv rfl (opv_pick_f rfl rfl) ?_
          refine sv rfl (opv_mv rfl) ?_
          refine soff rfl rfl rfl rfl ?_
          refine soff rfl rfl rfl rfl ?_
          refine soff rfl rfl rfl rfl ?_
          refine soff rfl rfl rfl rfl ?_
          refine soff rfl rfl rfl rfl ?_
          refine sv rfl (opv_pick_f rfl rfl) ?_
          refine sv rfl (opv_as rfl) ?_
          refine snil ?_
          refine cret ?_
          refine block_ret ?_
          refine then_ret ?_
          obtain rfl := Option.some.inj h
          refine ⟨Or.inr rfl, _, _, _, (resVs_cons (ResV.tmp _ _ rfl) resVs_nil), (pubA_id rfl), ?_⟩
          rfl
      · replace h := ite_f hc h
        clear hc
        refine cskip ?_
        refine block_normal ?_
        refine then_normal ?_
        refine cseq ?_
        refine cdraw mixed (by kernel_rfl) ?_
        refine dv rfl (opv_mv rfl) ?_
        refine dv rfl (opv_mv rfl) ?_
        refine dsplit 57 rfl (fun hc => ?_) (fun hc => ?_)
        · replace h := ite_t hc h
          clear hc
          refine dvg rfl rfl rfl (opv_mv rfl) ?_
          refine dvg rfl rfl rfl (opv_ieql rfl rfl) ?_
          refine dv rfl (opv_pick_t rfl rfl) ?_
          refine dv rfl (opv_mv rfl) ?_
          refine dsplit 61 rfl (fun hc => ?_) (fun hc => ?_)
          · replace h := ite_t hc h
            clear hc
            refine dvg rfl rfl rfl (opv_mv rfl) ?_
            refine dvg rfl rfl rfl (opv_len_sl si28 rfl) ?_
            refine dvg rfl rfl rfl (opv_ieql rfl rfl) ?_
            refine dv rfl (opv_pick_t rfl rfl) ?_
            refine dv rfl (opv_mv rfl) ?_
            refine dsplit 66 rfl (fun hc => ?_) (fun hc => ?_)
            · replace h := ite_t hc h
              clear hc
              refine dvg rfl rfl rfl (opv_loadN ti27 rfl (.lp _ _ _ rfl) (Nat.le_of_ble_eq_true rfl)) ?_
              obtain ⟨v6, hv6, h⟩ := bind_eq h
              refine ddg rfl rfl rfl (opD_call fn15 (opnds_cons rfl opnds_nil) rfl (m15_l04_theirs_c hv6)) ?_
              refine dvg rfl rfl rfl (opv_loadN ti25 rfl (.lp _ _ _ rfl) (Nat.le_of_ble_eq_true rfl)) ?_
              obtain ⟨v7, hv7, h⟩ := bind_eq h
              refine ddg rfl rfl rfl (opD_call fn14 (opnds_cons rfl (opnds_cons rfl opnds_nil)) rfl (m14_r04_Same_c hv7)) ?_
              refine dv rfl (opv_pick_t rfl rfl) ?_
              refine dv rfl (opv_as rfl) ?_
              refine dnil ?_
              refine then_normal ?_
              refine cret ?_
              obtain rfl := Option.some.inj h
              refine ⟨Or.inr rfl, _, _, _, (resVs_cons (ResV.tmp _ _ rfl) resVs_nil), (pubA_id rfl), ?_⟩
              rfl
            · replace h := ite_f hc h
              clear hc
              refine doff rfl rfl rfl rfl ?_
              refine doff rfl rfl rfl rfl ?_
              refine doff rfl rfl rfl rfl ?_
              refine doff rfl rfl rfl rfl ?_
              refine dv rfl (opv_pick_f rfl rfl) ?_
              refine dv rfl (opv_as rfl) ?_
              refine dnil ?_
              refine then_normal ?_
              refine cret ?_
              obtain rfl := Option.some.inj h
              refine ⟨Or.inr rfl, _, _, _, (resVs_cons (ResV.tmp _ _ rfl) resVs_nil), (pubA_id rfl), ?_⟩
              rfl
          · replace h := ite_f hc h
            clear hc
            refine doff rfl rfl rfl rfl ?_
            refine doff rfl rfl rfl rfl ?_
            refine doff rfl rfl rfl rfl ?_
            refine dv rfl (opv_pick_f rfl rfl) ?_
            refine dv rfl (opv_mv rfl) ?_
            refine doff rfl rfl rfl rfl ?_
            refine doff rfl rfl rfl rfl ?_
            refine doff rfl rfl rfl rfl ?_
            refine doff rfl rfl rfl rfl ?_
            refine dv rfl (opv_pick_f rfl rfl) ?_
            refine dv rfl (opv_as rfl) ?_
            refine dnil ?_
            refine then_normal ?_
            refine cret ?_
            obtain rfl := Option.some.inj h
            refine ⟨Or.inr rfl, _, _, _, (resVs_cons (ResV.tmp _ _ rfl) resVs_nil), (pubA_id rfl), ?_⟩
            rfl
        · replace h := ite_f hc h
          clear hc
          refine doff rfl rfl rfl rfl ?_
          refine doff rfl rfl rfl rfl ?_
          refine dv rfl (opv_pick_f rfl rfl) ?_
          refine dv rfl (opv_mv rfl) ?_
          refine doff rfl rfl rfl rfl ?_
          refine doff rfl rfl rfl rfl ?_
          refine doff rfl rfl rfl rfl ?_
          refine dv rfl (opv_pick_f rfl rfl) ?_
          refine dv rfl (opv_mv rfl) ?_
          refine doff rfl rfl rfl rfl ?_
          refine doff rfl rfl rfl rfl ?_
          refine doff rfl rfl rfl rfl ?_
          refine doff rfl rfl rfl rfl ?_
          refine dv rfl (opv_pick_f rfl rfl) ?_
          refine dv rfl (opv_as rfl) ?_
          refine dnil ?_
          refine then_normal ?_
          refine cret ?_
          obtain rfl := Option.some.inj h
          refine ⟨Or.inr rfl, _, _, _, (resVs_cons (ResV.tmp _ _ rfl) resVs_nil), (pubA_id rfl), ?_⟩
          rfl

def m25_slices_Concat_k3 (b3 : (List UInt8)) : Option (List UInt8) :=
  some b3

def m25_slices_Concat_s4 (a0 : List (List UInt8)) (s4 : Int × (List UInt8)) : Option (LB (Int × (List UInt8)) ((List UInt8))) :=
  if (decide (s4.1 < (a0.length : Int))) then ((idx a0 s4.1).bind fun u5 => if (s4.2.length + u5.length) * 1 ≤ 140737488355328 then (some (.cont ((wI (s4.1 + 1)), (s4.2 ++ u5)))) else none) else (some (.brk s4.2))

def m25_slices_Concat_k1 (a0 : List (List UInt8)) (b1 : Int) : Option (List UInt8) :=
  (m37_slices_Growo b1).bind fun v2 => (iterB (m25_slices_Concat_s4 a0) fuel (0, v2)).bind fun e7 => m25_slices_Concat_k3 e7

def m25_slices_Concat_s8 (a0 : List (List UInt8)) (s8 : Int × Int) : Option (LB (Int × Int) (Int)) :=
  if (decide (s8.2 < (a0.length : Int))) then ((idx a0 s8.2).bind fun u9 => if (decide ((wI (s8.1 + (u9.length : Int))) < 0)) then none else (some (.cont ((wI (s8.1 + (u9.length : Int))), (wI (s8.2 + 1)))))) else (some (.brk s8.1))
def m25_slices_Concat (a0 : List (List UInt8)) : Option (List UInt8) :=
  (iterB (m25_slices_Concat_s8 a0) fuel (0, 0)).bind fun e10 => m25_slices_Concat_k1 a0 e10

set_option maxRecDepth 100000 in
theorem m25_slices_Concat_c {a0 : List (List UInt8)} {r : (List UInt8)} (h : m25_slices_Concat a0 = some r) : CallsA Try.prog 25 [.one (.sl a0.length (a0.flatMap (eL eU8)))] (· = .s (.one (.sl r.length (r.flatMap eU8)))) := by
  unfold m25_slices_Concat at h
  refine callsA_of Try.func25 rfl (nt := 36) rfl (Nat.le_of_ble_eq_true rfl) ?_
  intro w0 S0
  refine cseq ?_
  refine cregion ?_
  refine sv rfl (opv_as rfl) ?_
  refine snil ?_
  refine cseq ?_
  refine cregion ?_
  refine sv rfl (opv_as rfl) ?_
  refine snil ?_
  refine cseq ?_
  refine cseq ?_
  refine cregion ?_
  refine sv rfl (opv_mv rfl) ?_
  refine sv rfl (opv_len_sl si28 rfl) ?_
  refine sv rfl (opv_mv rfl) ?_
  refine snil ?_
  refine cjoin (Int) (fun b1 => [(0, .s (.one (.sl a0.length (a0.flatMap (eL eU8))))), (3, .s (.one (.i .i64 b1)))]) (fun b1 => []) (fun b1 => m25_slices_Concat_k1 a0 b1 = some r) (fun _ _ => inbL_of rfl) (fun _ _ => blkinb_of rfl) (fun _ _ => Nat.le_of_ble_eq_true rfl) (fun b1 h => ?_) ?_
  · unfold m25_slices_Concat_k1 at h
    refine cseq ?_
    refine cregion ?_
    refine sv rfl (opv_mv rfl) ?_
    obtain ⟨v2, hv2, h⟩ := bind_eq h
    refine scallB (x' := .s (.one (.ls 0 v2.length))) (M' := [.arr 5 1 0 (v2.flatMap eU8)]) [] rfl fn37 (.func _) (opnds_cons rfl (opnds_cons rfl opnds_nil)) (m37_slices_Growo_c hv2) rfl rfl (by decide) rfl rfl rfl ?_
    refine sv rfl (opv_as rfl) ?_
    refine snil ?_
    refine cseq ?_
    refine cseq ?_
    refine cregion ?_
    refine sv rfl (opv_mv rfl) ?_
    refine sv rfl (opv_len_sl si28 rfl) ?_
    refine sv rfl (opv_mv rfl) ?_
    refine snil ?_
    refine cjoin ((List UInt8)) (fun b3 => [(6, .s (.one (.ls 0 b3.length)))]) (fun b3 => [.arr 5 1 0 (b3.flatMap eU8)]) (fun b3 => m25_slices_Concat_k3 b3 = some r) (fun _ _ => inbL_of rfl) (fun _ _ => blkinb_of rfl) (fun _ _ => Nat.le_of_ble_eq_true rfl) (fun b3 h => ?_) ?_
    · unfold m25_slices_Concat_k3 at h
      refine cseq ?_
      refine cregion ?_
      refine sv rfl (opv_mv rfl) ?_
      refine sv rfl (opv_as rfl) ?_
      refine snil ?_
      refine cret ?_
      obtain rfl := Option.some.inj h
      refine ⟨Or.inr rfl, _, _, _, (resVs_cons (ResV.tmp _ _ rfl) resVs_nil), (by (repeat' first | exact PubA.nil _ | apply PubA.cons | apply PubV.one | apply PubV.agg | exact PubL.nil | exact PubL.ls _ _ _ _ _ _ rfl (flat_len (f := eU8) (fun _ => rfl) _).symm | exact PubL.id _ rfl | exact PubLs.nil _ | apply PubLs.cons)), ?_⟩
      rfl
    · skip
      refine cblock ?_
      obtain ⟨x4, hx4, ho4⟩ := bind_eq h
      refine awc_loop (G := Nat × (Int × (List UInt8))) (fun g => [(6, .s (.one (.ls 0 g.2.2.length))), (25, .s (.one (.sl a0.length (a0.flatMap (eL eU8))))), (26, .s (.one (.i .i64 (a0.length : Int)))), (27, .s (.one (.i .i64 g.2.1)))]) (fun g => [.arr 5 1 0 (g.2.2.flatMap eU8)]) (fun g => iterB (m25_slices_Concat_s4 a0) g.1 g.2 = some x4) (fun g => g.1) (fuel, (0, v2)) hx4 ⟨rfl, rfl, rfl, rfl, trivial⟩ [] rfl (fun _ _ => inbL_of rfl) (fun _ _ => blkinb_of rfl) (fun _ _ => Nat.le_of_ble_eq_true rfl) ?_
      clear hx4 h
      rintro ⟨n4, s4⟩ h
      obtain ⟨n4, y4, rfl, h, hk4⟩ := iterB_eq h
      unfold m25_slices_Concat_s4 at h
      refine cseq ?_
      refine cregion ?_
      refine sv rfl (opv_lss rfl rfl) ?_
      refine snil ?_
      refine cseq ?_
      refine ccond rfl (fun hc => ?_) (fun hc => ?_)
      · replace h := ite_t hc h
        clear hc
        refine cskip ?_
        refine then_normal ?_
        refine cseq ?_
        refine cblock ?_
        refine cseq ?_
        refine cregion ?_
        obtain ⟨u5, hu5, h⟩ := bind_eq h
        refine sv rfl (opv_ix (f := (eL eU8)) si28 (fun _ => rfl) rfl rfl rfl rfl hu5) ?_
        refine sv rfl (opv_load1 ti22 rfl (.cp _) rfl) ?_
        refine sv rfl (opv_as rfl) ?_
        refine snil ?_
        refine cregion ?_
        refine sv rfl (opv_mv rfl) ?_
        refine sv rfl (opv_mv rfl) ?_
        obtain ⟨hb6, h⟩ := chk_eq h
        refine sapp (f := eU8) (xs := s4.2) (us := u5) rfl Try.underlying22 ei5 ni22 (fun _ => rfl) rfl rfl (.one _ _ _ _ (.id _ rfl)) rfl rfl rfl (.sl _ _ _ (flat_len (f := eU8) (fun _ => rfl) _)) rfl rfl hb6 (by decide) ?_
        refine sv rfl (opv_as rfl) ?_
        refine snil0 ?_
        refine block_normal ?_
        refine then_normal ?_
        refine cregion ?_
        refine sv rfl (opv_add rfl rfl) ?_
        refine sv rfl (opv_mv rfl) ?_
        refine snil ?_
        obtain rfl := Option.some.inj h
        exact ⟨(n4, ((wI (s4.1 + 1)), (s4.2 ++ u5))), _, hk4, ⟨rfl, rfl, rfl, rfl, trivial⟩, rfl, Nat.lt_succ_self _⟩
      · replace h := ite_f hc h
        clear hc
        refine cexit ?_
        refine then_exit ?_
        refine then_exit ?_
        refine block_hit ?_
        refine then_normal ?_
        obtain rfl := Option.some.inj h
        obtain rfl : _ = x4 := hk4
        exact ⟨s4.2, _, ho4, ⟨rfl, trivial⟩, rfl⟩
  · skip
    refine cblock ?_
    obtain ⟨x8, hx8, ho8⟩ := bind_eq h
    refine awc_loop (G := Nat × (Int × Int)) (fun g => [(0, .s (.one (.sl a0.length (a0.flatMap (eL eU8))))), (3, .s (.one (.i .i64 g.2.1))), (9, .s (.one (.sl a0.length (a0.flatMap (eL eU8))))), (10, .s (.one (.i .i64 (a0.length : Int)))), (11, .s (.one (.i .i64 g.2.2)))]) (fun g => []) (fun g => iterB (m25_slices_Concat_s8 a0) g.1 g.2 = some x8) (fun g => g.1) (fuel, (0, 0)) hx8 ⟨rfl, rfl, rfl, rfl, rfl, trivial⟩ [] rfl (fun _ _ => inbL_of rfl) (fun _ _ => blkinb_of rfl) (fun _ _ => Nat.le_of_ble_eq_true rfl) ?_
    clear hx8 h
    rintro ⟨n8, s8⟩ h
    obtain ⟨n8, y8, rfl, h, hk8⟩ := iterB_eq h
    unfold m25_slices_Concat_s8 at h
    refine cseq ?_
    refine cregion ?_
    refine sv rfl (opv_lss rfl rfl) ?_
    refine snil ?_
    refine cseq ?_
    refine ccond rfl (fun hc => ?_) (fun hc => ?_)
    · replace h := ite_t hc h
      clear hc
      refine cskip ?_
      refine then_normal ?_
      refine cseq ?_
      refine cblock ?_
      refine cseq ?_
      refine cregion ?_
      obtain ⟨u9, hu9, h⟩ := bind_eq h
      refine sv rfl (opv_ix (f := (eL eU8)) si28 (fun _ => rfl) rfl rfl rfl rfl hu9) ?_
      refine sv rfl (opv_load1 ti22 rfl (.cp _) rfl) ?_
      refine sv rfl (opv_as rfl) ?_
      refine snil ?_
      refine cseq ?_
      refine cregion ?_
      refine sv rfl (opv_mv rfl) ?_
      refine sv rfl (opv_mv rfl) ?_
      refine sv rfl (opv_len_sl si22 rfl) ?_
      refine sv rfl (opv_add rfl rfl) ?_
      refine sv rfl (opv_as rfl) ?_
      refine snil ?_
      refine cseq ?_
      refine cregion ?_
      refine sv rfl (opv_mv rfl) ?_
      refine sv rfl (opv_lss rfl rfl) ?_
      refine snil ?_
      refine ccond rfl (fun hc => ?_) (fun hc => ?_)
      · replace h := ite_t hc h
        clear hc
        cases h
      · replace h := ite_f hc h
        clear hc
        refine cskip ?_
        refine block_normal ?_
        refine then_normal ?_
        refine cregion ?_
        refine sv rfl (opv_add rfl rfl) ?_
        refine sv rfl (opv_mv rfl) ?_
        refine snil ?_
        obtain rfl := Option.some.inj h
        exact ⟨(n8, ((wI (s8.1 + (u9.length : Int))), (wI (s8.2 + 1)))), _, hk8, ⟨rfl, rfl, rfl, rfl, rfl, trivial⟩, rfl, Nat.lt_succ_self _⟩
    · replace h := ite_f hc h
      clear hc
      refine cexit ?_
      refine then_exit ?_
      refine then_exit ?_
      refine block_hit ?_
      refine then_normal ?_
      obtain rfl := Option.some.inj h
      obtain rfl : _ = x8 := hk8
      exact ⟨s8.1, _, ho8, ⟨rfl, rfl, trivial⟩, rfl⟩

def m31_enc_New (a0 : List UInt8) : Option (Int × Int × (List UInt8)) :=
  some (0, 0, a0)

set_option maxRecDepth 100000 in
theorem m31_enc_New_c {a0 : List UInt8} {r : Int × Int × (List UInt8)} (h : m31_enc_New a0 = some r) : CallsB Try.prog 31 [] [.one (.sl a0.length (a0.flatMap eU8))] (fun y m' => y = .s (.one (.lp 0 0)) ∧ m' = [.box [.fn 39 [] [.lp 1 0, .lp 2 0], .i .i64 r.1], .box [.i .i64 r.2.1], .box [.sl r.2.2.length (r.2.2.flatMap eU8)]]) := by
  unfold m31_enc_New at h
  refine callsB_of Try.func31 rfl (nt := 7) rfl (Nat.le_of_ble_eq_true rfl) ?_
  intro w0 S0 X0 H0
  refine cseq ?_
  refine cregion ?_
  refine sbox rfl rfl ?_
  refine sv rfl (opv_as rfl) ?_
  refine snil ?_
  refine cseq ?_
  refine cregion ?_
  refine salloc rfl zi3 ?_
  refine sstore sz3 rfl rfl rfl rfl (Nat.le_of_ble_eq_true rfl) ?_
  refine smem [.box [.sl a0.length (a0.flatMap eU8)], .box [.i .i64 0]] rfl ?_
  refine snil ?_
  refine cseq ?_
  refine cregion ?_
  refine sv rfl (opv_makeFunc opnds1_nil (opnds1_cons rfl rfl (opnds1_cons rfl rfl opnds1_nil))) ?_
  refine sv rfl (opv_build zi74 pi74 (parts_cons rfl parts_nil) (.cons _ _ _ _ _ _ _ rfl rfl (Nat.le_of_ble_eq_true rfl) (.nil _))) ?_
  refine sbox rfl rfl ?_
  refine sv rfl (opv_as rfl) ?_
  refine snil ?_
  refine cret ?_
  obtain rfl := Option.some.inj h
  exact ⟨Or.inr rfl, _, [2, 1, 0], [.one (.lp 0 0)], [.box [.fn 39 [] [.lp 1 0, .lp 2 0], .i .i64 0], .box [.i .i64 0], .box [.sl a0.length (a0.flatMap eU8)]], (resVs_cons (ResV.tmp _ _ rfl) resVs_nil), rfl, rfl, ⟨by decide, rfl⟩, rfl, rfl, ⟨rfl, rfl⟩⟩


end Go.Proofs.Ytoojcpiigkmhiaa.Abs
