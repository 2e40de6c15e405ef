/-
  t
-/
import Derived.Test.YthmibhmmbajcfaaT22b
namespace Go.Proofs.Ythmibhmmbajcfaa.Abs
open Go.RowKit Go.Proofs
def m3_l22_NetIs_k8 (a0 : GR22Net) (a1 : Int) (a2 : Int) (a3 : Int) (a4 : Int) (v1 : Bool) (v3 : GNetNet) (b8 : Unit) : Option Bool :=
  (m17_net_Take (GNetNet.mk v3.Links v3.Packets v3.Next) a1).bind fun v9 => (m18_r22_Take a0 a1).bind fun v10 => (m19_net_Dup (GNetNet.mk v3.Links v3.Packets v3.Next) a1).bind fun v11 => (m20_r22_Dup a0 a1).bind fun v12 => (m16_l22_theirs v9.1).bind fun v31 => (m15_r22_Same v31 v10.1).bind fun v32 => if (!v32) then (some false) else ((m22_l22_packet v9.2.1).bind fun v33 => (m21_r22_SamePacket v33 v10.2.1).bind fun v34 => if (!v34) then (some false) else (if (!(v9.2.2 == v10.2.2)) then (some false) else ((m16_l22_theirs v11.1).bind fun v35 => (m15_r22_Same v35 v12.1).bind fun v36 => if (!v36) then (some false) else (if (!decide (v11.2 = v12.2)) then (some false) else (m3_l22_NetIs_k13 a0 a1 a2 a3 a4 v1 v3 ())))))

def m3_l22_NetIs_k2 (a0 : GR22Net) (a1 : Int) (a2 : Int) (a3 : Int) (a4 : Int) (a5 : Bool) (a6 : List UInt8) (v1 : Bool) (b2 : Unit) : Option Bool :=
  (m10_l22_ours a0).bind fun v3 => (m11_net_Open v3 a3 a4).bind fun v4 => (m12_r22_Open a0 a3 a4).bind fun v5 => (m13_net_Send (GNetNet.mk v3.Links v3.Packets v3.Next) a1 a5 a6).bind fun v6 => (m14_r22_Send a0 a1 a5 a6).bind fun v7 => (m16_l22_theirs (GNetNet.mk v4.1.Links v4.1.Packets v4.1.Next)).bind fun v37 => (m15_r22_Same v37 v5.1).bind fun v38 => if (!v38) then (some false) else (if (!decide (v4.2.1 = v5.2.1)) then (some false) else (if (!decide (v4.2.2 = v5.2.2)) then (some false) else ((m16_l22_theirs v6.1).bind fun v39 => (m15_r22_Same v39 v7.1).bind fun v40 => if (!v40) then (some false) else (if (!decide (v6.2 = v7.2)) then (some false) else (m3_l22_NetIs_k8 a0 a1 a2 a3 a4 v1 v3 ())))))
def m3_l22_NetIs (a0 : GR22Net) (a1 : Int) (a2 : Int) (a3 : Int) (a4 : Int) (a5 : Bool) (a6 : List UInt8) : Option Bool :=
  (m8_l22_awake).bind fun v1 => (m9_r22_Few a0).bind fun v41 => if (!v41) then (some v1) else (if (decide (2100 < (a6.length : Int))) then (some v1) else (m3_l22_NetIs_k2 a0 a1 a2 a3 a4 a5 a6 v1 ()))

set_option maxRecDepth 100000 in
theorem m3_l22_NetIs_c {a0 : GR22Net} {a1 : Int} {a2 : Int} {a3 : Int} {a4 : Int} {a5 : Bool} {a6 : List UInt8} {r : Bool} (h : m3_l22_NetIs a0 a1 a2 a3 a4 a5 a6 = some r) : CallsA Try.prog 3 [.agg a0, .one (.i .i64 a1), .one (.i .i64 a2), .one (.i .i64 a3), .one (.i .i64 a4), .one (.b a5), .one (.sl a6.length (a6.flatMap eU8))] (· = .s (.one (.b r))) := by
  unfold m3_l22_NetIs at h
  refine callsA_of Try.func3 rfl (nt := 216) rfl (Nat.le_of_ble_eq_true rfl) ?_
  intro w0 S0
  refine cseq ?_
  refine cregion ?_
  refine sbox rfl rfl ?_
  refine sv rfl (opv_as rfl) ?_
  refine snil ?_
  refine cseq ?_
  refine cregion ?_
  obtain ⟨v1, hv1, h⟩ := bind_eq h
  refine scall1 rfl fn8 opnds_nil (pubA_id rfl) (m8_l22_awake_c hv1) ?_
  refine sv rfl (opv_as rfl) ?_
  refine snil ?_
  refine cseq ?_
  refine cseq ?_
  refine cjoin3 (Unit) (fun b2 => [(1, .s (.one (.i .i64 a1))), (2, .s (.one (.i .i64 a2))), (3, .s (.one (.i .i64 a3))), (4, .s (.one (.i .i64 a4))), (5, .s (.one (.b a5))), (6, .s (.one (.sl a6.length (a6.flatMap eU8)))), (7, .s (.one (.lp 0 0))), (15, .s (.one (.b v1)))]) (fun b2 => [.box a0]) (fun b2 => m3_l22_NetIs_k2 a0 a1 a2 a3 a4 a5 a6 v1 b2 = some r) (fun _ _ => inbL_of rfl) (fun _ _ => blkinb_of rfl) (fun _ _ => Nat.le_of_ble_eq_true rfl) (fun b2 h => ?_) ?_
  · unfold m3_l22_NetIs_k2 at h
    refine cseq ?_
    refine cregion ?_
    refine sv rfl (opv_loadN ti25 rfl (.lp _ _ _ rfl) (Nat.le_of_ble_eq_true rfl)) ?_
    obtain ⟨v3, hv3, h⟩ := bind_eq h
    refine scall1 rfl fn10 (opnds_cons rfl opnds_nil) (pubA_id rfl) (m10_l22_ours_c hv3) ?_
    refine salloc rfl zi32 ?_
    refine sstore sz32 rfl rfl rfl rfl (Nat.le_of_ble_eq_true rfl) ?_
    refine smem [.box a0, .box v3] rfl ?_
    refine snil ?_
    refine cseq ?_
    refine cregion ?_
    refine sv rfl (opv_loadN ti32 rfl (.lp _ _ _ rfl) (Nat.le_of_ble_eq_true rfl)) ?_
    refine sv rfl (opv_mv rfl) ?_
    refine sv rfl (opv_mv rfl) ?_
    obtain ⟨v4, hv4, h⟩ := bind_eq h
    refine scall1 rfl fn11 (opnds_cons rfl (opnds_cons rfl (opnds_cons rfl opnds_nil))) (pubA_id rfl) (m11_net_Open_c hv4) ?_
    refine sv rfl (opv_mvt rfl) ?_
    refine sv rfl (opv_extract rfl rfl) ?_
    refine sv rfl (opv_extract rfl rfl) ?_
    refine sv rfl (opv_extract rfl rfl) ?_
    refine salloc rfl zi32 ?_
    refine sstore sz32 rfl rfl rfl rfl (Nat.le_of_ble_eq_true rfl) ?_
    refine smem [.box a0, .box v3, .box v4.1] rfl ?_
    refine sv rfl (opv_as rfl) ?_
    refine sv rfl (opv_as rfl) ?_
    refine snil ?_
    refine cseq ?_
    refine cregion ?_
    refine sv rfl (opv_loadN ti25 rfl (.lp _ _ _ rfl) (Nat.le_of_ble_eq_true rfl)) ?_
    refine sv rfl (opv_mv rfl) ?_
    refine sv rfl (opv_mv rfl) ?_
    obtain ⟨v5, hv5, h⟩ := bind_eq h
    refine scall1 rfl fn12 (opnds_cons rfl (opnds_cons rfl (opnds_cons rfl opnds_nil))) (pubA_id rfl) (m12_r22_Open_c hv5) ?_
    refine sv rfl (opv_mvt rfl) ?_
    refine sv rfl (opv_extract rfl rfl) ?_
    refine sv rfl (opv_extract rfl rfl) ?_
    refine sv rfl (opv_extract rfl rfl) ?_
    refine salloc rfl zi25 ?_
    refine sstore sz25 rfl rfl rfl rfl (Nat.le_of_ble_eq_true rfl) ?_
    refine smem [.box a0, .box v3, .box v4.1, .box v5.1] rfl ?_
    refine sv rfl (opv_as rfl) ?_
    refine sv rfl (opv_as rfl) ?_
    refine snil ?_
    refine cseq ?_
    refine cregion ?_
    refine sv rfl (opv_loadN ti32 rfl (.lp _ _ _ rfl) (Nat.le_of_ble_eq_true rfl)) ?_
    refine sv rfl (opv_mv rfl) ?_
    refine sv rfl (opv_mv rfl) ?_
    refine sv rfl (opv_mv rfl) ?_
    obtain ⟨v6, hv6, h⟩ := bind_eq h
    refine scall1 rfl fn13 (opnds_cons rfl (opnds_cons rfl (opnds_cons rfl (opnds_cons rfl opnds_nil)))) (pubA_id rfl) (m13_net_Send_c hv6) ?_
    refine sv rfl (opv_mvt rfl) ?_
    refine sv rfl (opv_extract rfl rfl) ?_
    refine sv rfl (opv_extract rfl rfl) ?_
    refine salloc rfl zi32 ?_
    refine sstore sz32 rfl rfl rfl rfl (Nat.le_of_ble_eq_true rfl) ?_
    refine smem [.box a0, .box v3, .box v4.1, .box v5.1, .box v6.1] rfl ?_
    refine sv rfl (opv_as rfl) ?_
    refine snil ?_
    refine cseq ?_
    refine cregion ?_
    refine sv rfl (opv_loadN ti25 rfl (.lp _ _ _ rfl) (Nat.le_of_ble_eq_true rfl)) ?_
    refine sv rfl (opv_mv rfl) ?_
    refine sv rfl (opv_mv rfl) ?_
    refine sv rfl (opv_mv rfl) ?_
    obtain ⟨v7, hv7, h⟩ := bind_eq h
    refine scall1 rfl fn14 (opnds_cons rfl (opnds_cons rfl (opnds_cons rfl (opnds_cons rfl opnds_nil)))) (pubA_id rfl) (m14_r22_Send_c hv7) ?_
    refine sv rfl (opv_mvt rfl) ?_
    refine sv rfl (opv_extract rfl rfl) ?_
    refine sv rfl (opv_extract rfl rfl) ?_
    refine salloc rfl zi25 ?_
    refine sstore sz25 rfl rfl rfl rfl (Nat.le_of_ble_eq_true rfl) ?_
    refine smem [.box a0, .box v3, .box v4.1, .box v5.1, .box v6.1, .box v7.1] rfl ?_
    refine sv rfl (opv_as rfl) ?_
    refine snil ?_
    refine cseq ?_
    refine cseq ?_
    refine cjoin3 (Unit) (fun b8 => [(1, .s (.one (.i .i64 a1))), (2, .s (.one (.i .i64 a2))), (3, .s (.one (.i .i64 a3))), (4, .s (.one (.i .i64 a4))), (7, .s (.one (.lp 0 0))), (15, .s (.one (.b v1))), (16, .s (.one (.lp 1 0)))]) (fun b8 => [.box a0, .box v3, .box v4.1, .box v5.1, .box v6.1, .box v7.1]) (fun b8 => m3_l22_NetIs_k8 a0 a1 a2 a3 a4 v1 v3 b8 = some r) (fun _ _ => inbL_of rfl) (fun _ _ => blkinb_of rfl) (fun _ _ => Nat.le_of_ble_eq_true rfl) (fun b8 h => ?_) ?_
    · unfold m3_l22_NetIs_k8 at h
      refine cseq ?_
      refine cregion ?_
      refine sv rfl (opv_loadN ti32 rfl (.lp _ _ _ rfl) (Nat.le_of_ble_eq_true rfl)) ?_
      refine sv rfl (opv_mv rfl) ?_
      obtain ⟨v9, hv9, h⟩ := bind_eq h
      refine scall1 rfl fn17 (opnds_cons rfl (opnds_cons rfl opnds_nil)) (pubA_id rfl) (m17_net_Take_c hv9) ?_
      refine sv rfl (opv_mvt rfl) ?_
      refine sv rfl (opv_extract rfl rfl) ?_
      refine sv rfl (opv_extract rfl rfl) ?_
      refine sv rfl (opv_extract rfl rfl) ?_
      refine salloc rfl zi32 ?_
      refine salloc rfl zi46 ?_
      refine sstore sz32 rfl rfl rfl rfl (Nat.le_of_ble_eq_true rfl) ?_
      refine smem [.box a0, .box v3, .box v4.1, .box v5.1, .box v6.1, .box v7.1, .box v9.1, .box [.i .i64 0, .b false, .raw (.slice none 0 0)]] rfl ?_
      refine sstore sz46 rfl rfl rfl rfl (Nat.le_of_ble_eq_true rfl) ?_
      refine smem [.box a0, .box v3, .box v4.1, .box v5.1, .box v6.1, .box v7.1, .box v9.1, .box v9.2.1] rfl ?_
      refine sv rfl (opv_as rfl) ?_
      refine snil ?_
      refine cseq ?_
      refine cregion ?_
      refine sv rfl (opv_loadN ti25 rfl (.lp _ _ _ rfl) (Nat.le_of_ble_eq_true rfl)) ?_
      refine sv rfl (opv_mv rfl) ?_
      obtain ⟨v10, hv10, h⟩ := bind_eq h
      refine scall1 rfl fn18 (opnds_cons rfl (opnds_cons rfl opnds_nil)) (pubA_id rfl) (m18_r22_Take_c hv10) ?_
      refine sv rfl (opv_mvt rfl) ?_
      refine sv rfl (opv_extract rfl rfl) ?_
      refine sv rfl (opv_extract rfl rfl) ?_
      refine sv rfl (opv_extract rfl rfl) ?_
      refine salloc rfl zi25 ?_
      refine salloc rfl zi49 ?_
      refine sstore sz25 rfl rfl rfl rfl (Nat.le_of_ble_eq_true rfl) ?_
      refine smem [.box a0, .box v3, .box v4.1, .box v5.1, .box v6.1, .box v7.1, .box v9.1, .box v9.2.1, .box v10.1, .box [.i .i64 0, .b false, .raw (.slice none 0 0)]] rfl ?_
      refine sstore sz49 rfl rfl rfl rfl (Nat.le_of_ble_eq_true rfl) ?_
      refine smem [.box a0, .box v3, .box v4.1, .box v5.1, .box v6.1, .box v7.1, .box v9.1, .box v9.2.1, .box v10.1, .box v10.2.1] rfl ?_
      refine sv rfl (opv_as rfl) ?_
      refine snil ?_
      refine cseq ?_
      refine cregion ?_
      refine sv rfl (opv_loadN ti32 rfl (.lp _ _ _ rfl) (Nat.le_of_ble_eq_true rfl)) ?_
      refine sv rfl (opv_mv rfl) ?_
      obtain ⟨v11, hv11, h⟩ := bind_eq h
      refine scall1 rfl fn19 (opnds_cons rfl (opnds_cons rfl opnds_nil)) (pubA_id rfl) (m19_net_Dup_c hv11) ?_
      refine sv rfl (opv_mvt rfl) ?_
      refine sv rfl (opv_extract rfl rfl) ?_
      refine sv rfl (opv_extract rfl rfl) ?_
      refine salloc rfl zi32 ?_
      refine sstore sz32 rfl rfl rfl rfl (Nat.le_of_ble_eq_true rfl) ?_
      refine smem [.box a0, .box v3, .box v4.1, .box v5.1, .box v6.1, .box v7.1, .box v9.1, .box v9.2.1, .box v10.1, .box v10.2.1, .box v11.1] rfl ?_
      refine sv rfl (opv_as rfl) ?_
      refine snil ?_
      refine cseq ?_
      refine cregion ?_
      refine sv rfl (opv_loadN ti25 rfl (.lp _ _ _ rfl) (Nat.le_of_ble_eq_true rfl)) ?_
      refine sv rfl (opv_mv rfl) ?_
      obtain ⟨v12, hv12, h⟩ := bind_eq h
      refine scall1 rfl fn20 (opnds_cons rfl (opnds_cons rfl opnds_nil)) (pubA_id rfl) (m20_r22_Dup_c hv12) ?_
      refine sv rfl (opv_mvt rfl) ?_
      refine sv rfl (opv_extract rfl rfl) ?_
      refine sv rfl (opv_extract rfl rfl) ?_
      refine salloc rfl zi25 ?_
      refine sstore sz25 rfl rfl rfl rfl (Nat.le_of_ble_eq_true rfl) ?_
      refine smem [.box a0, .box v3, .box v4.1, .box v5.1, .box v6.1, .box v7.1, .box v9.1, .box v9.2.1, .box v10.1, .box v10.2.1, .box v11.1, .box v12.1] rfl ?_
      refine sv rfl (opv_as rfl) ?_
      refine snil ?_
      refine cseq ?_
      refine cseq ?_
      refine cjoin3 (Unit) (fun b13 => [(1, .s (.one (.i .i64 a1))), (2, .s (.one (.i .i64 a2))), (3, .s (.one (.i .i64 a3))), (4, .s (.one (.i .i64 a4))), (7, .s (.one (.lp 0 0))), (15, .s (.one (.b v1))), (16, .s (.one (.lp 1 0)))]) (fun b13 => [.box a0, .box v3, .box v4.1, .box v5.1, .box v6.1, .box v7.1, .box v9.1, .box v9.2.1, .box v10.1, .box v10.2.1, .box v11.1, .box v12.1]) (fun b13 => m3_l22_NetIs_k13 a0 a1 a2 a3 a4 v1 v3 b13 = some r) (fun _ _ => inbL_of rfl) (fun _ _ => blkinb_of rfl) (fun _ _ => Nat.le_of_ble_eq_true rfl) (fun b13 h => ?_) ?_
      · unfold m3_l22_NetIs_k13 at h
        refine cseq ?_
        refine cdraw mixed (by kernel_rfl) ?_
        refine dv rfl (opv_mv rfl) ?_
        refine dv rfl (opv_mv rfl) ?_
        refine dsplit 164 rfl (fun hc => ?_) (fun hc => ?_)
        · replace h := ite_t hc h
          clear hc
          refine dvg rfl rfl rfl (opv_loadN ti32 rfl (.lp _ _ _ rfl) (Nat.le_of_ble_eq_true rfl)) ?_
          refine dvg rfl rfl rfl (opv_loadN ti25 rfl (.lp _ _ _ rfl) (Nat.le_of_ble_eq_true rfl)) ?_
          refine dvg rfl rfl rfl (opv_mv rfl) ?_
          refine dvg rfl rfl rfl (opv_mv rfl) ?_
          obtain ⟨v14, hv14, h⟩ := bind_eq h
          refine ddg rfl rfl rfl (opD_call fn23 (opnds_cons rfl (opnds_cons rfl (opnds_cons rfl (opnds_cons rfl opnds_nil)))) rfl (m23_l22_finds_c hv14)) ?_
          refine dv rfl (opv_pick_t rfl rfl) ?_
          refine dv rfl (opv_mv rfl) ?_
          refine dsplit 171 rfl (fun hc => ?_) (fun hc => ?_)
          · replace h := ite_t hc h
            clear hc
            refine dvg rfl rfl rfl (opv_loadN ti32 rfl (.lp _ _ _ rfl) (Nat.le_of_ble_eq_true rfl)) ?_
            refine dvg rfl rfl rfl (opv_mv rfl) ?_
            obtain ⟨v15, hv15, h⟩ := bind_eq h
            refine ddg rfl rfl rfl (opD_call fn24 (opnds_cons rfl (opnds_cons rfl opnds_nil)) rfl (m24_net_Drop_c hv15)) ?_
            obtain ⟨v16, hv16, h⟩ := bind_eq h
            refine ddg rfl rfl rfl (opD_call fn16 (opnds_cons rfl opnds_nil) rfl (m16_l22_theirs_c hv16)) ?_
            refine dvg rfl rfl rfl (opv_loadN ti25 rfl (.lp _ _ _ rfl) (Nat.le_of_ble_eq_true rfl)) ?_
            refine dvg rfl rfl rfl (opv_mv rfl) ?_
            obtain ⟨v17, hv17, h⟩ := bind_eq h
            refine ddg rfl rfl rfl (opD_call fn25 (opnds_cons rfl (opnds_cons rfl opnds_nil)) rfl (m25_r22_Drop_c hv17)) ?_
            obtain ⟨v18, hv18, h⟩ := bind_eq h
            refine ddg rfl rfl rfl (opD_call fn15 (opnds_cons rfl (opnds_cons rfl opnds_nil)) rfl (m15_r22_Same_c hv18)) ?_
            refine dv rfl (opv_pick_t rfl rfl) ?_
            refine dv rfl (opv_mv rfl) ?_
            refine dsplit 181 rfl (fun hc => ?_) (fun hc => ?_)
            · replace h := ite_t hc h
              clear hc
              refine dvg rfl rfl rfl (opv_loadN ti32 rfl (.lp _ _ _ rfl) (Nat.le_of_ble_eq_true rfl)) ?_
              refine dvg rfl rfl rfl (opv_mv rfl) ?_
              obtain ⟨v19, hv19, h⟩ := bind_eq h
              refine ddg rfl rfl rfl (opD_call fn26 (opnds_cons rfl (opnds_cons rfl opnds_nil)) rfl (m26_net_Cut_c hv19)) ?_
              obtain ⟨v20, hv20, h⟩ := bind_eq h
              refine ddg rfl rfl rfl (opD_call fn16 (opnds_cons rfl opnds_nil) rfl (m16_l22_theirs_c hv20)) ?_
              refine dvg rfl rfl rfl (opv_loadN ti25 rfl (.lp _ _ _ rfl) (Nat.le_of_ble_eq_true rfl)) ?_
              refine dvg rfl rfl rfl (opv_mv rfl) ?_
              obtain ⟨v21, hv21, h⟩ := bind_eq h
              refine ddg rfl rfl rfl (opD_call fn27 (opnds_cons rfl (opnds_cons rfl opnds_nil)) rfl (m27_r22_Cut_c hv21)) ?_
              obtain ⟨v22, hv22, h⟩ := bind_eq h
              refine ddg rfl rfl rfl (opD_call fn15 (opnds_cons rfl (opnds_cons rfl opnds_nil)) rfl (m15_r22_Same_c hv22)) ?_
              refine dv rfl (opv_pick_t rfl rfl) ?_
              refine dv rfl (opv_mv rfl) ?_
              refine dsplit 191 rfl (fun hc => ?_) (fun hc => ?_)
              · replace h := ite_t hc h
                clear hc
                refine dvg rfl rfl rfl (opv_loadN ti32 rfl (.lp _ _ _ rfl) (Nat.le_of_ble_eq_true rfl)) ?_
                refine dvg rfl rfl rfl (opv_mv rfl) ?_
                refine dvg rfl rfl rfl (opv_mv rfl) ?_
                obtain ⟨v23, hv23, h⟩ := bind_eq h
                refine ddg rfl rfl rfl (opD_call fn28 (opnds_cons rfl (opnds_cons rfl (opnds_cons rfl opnds_nil))) rfl (m28_net_Flip_c hv23)) ?_
                obtain ⟨v24, hv24, h⟩ := bind_eq h
                refine ddg rfl rfl rfl (opD_call fn16 (opnds_cons rfl opnds_nil) rfl (m16_l22_theirs_c hv24)) ?_
                refine dvg rfl rfl rfl (opv_loadN ti25 rfl (.lp _ _ _ rfl) (Nat.le_of_ble_eq_true rfl)) ?_
                refine dvg rfl rfl rfl (opv_mv rfl) ?_
                refine dvg rfl rfl rfl (opv_mv rfl) ?_
                obtain ⟨v25, hv25, h⟩ := bind_eq h
                refine ddg rfl rfl rfl (opD_call fn29 (opnds_cons rfl (opnds_cons rfl (opnds_cons rfl opnds_nil))) rfl (m29_r22_Flip_c hv25)) ?_
                obtain ⟨v26, hv26, h⟩ := bind_eq h
                refine ddg rfl rfl rfl (opD_call fn15 (opnds_cons rfl (opnds_cons rfl opnds_nil)) rfl (m15_r22_Same_c hv26)) ?_
                refine dv rfl (opv_pick_t rfl rfl) ?_
                refine dv rfl (opv_mv rfl) ?_
                refine dsplit 203 rfl (fun hc => ?_) (fun hc => ?_)
                · replace h := ite_t hc h
                  clear hc
                  refine dvg rfl rfl rfl (opv_loadN ti32 rfl (.lp _ _ _ rfl) (Nat.le_of_ble_eq_true rfl)) ?_
                  obtain ⟨v27, hv27, h⟩ := bind_eq h
                  refine ddg rfl rfl rfl (opD_call fn30 (opnds_cons rfl opnds_nil) rfl (m30_net_Sane_c hv27)) ?_
                  refine dvg rfl rfl rfl (opv_loadN ti25 rfl (.lp _ _ _ rfl) (Nat.le_of_ble_eq_true rfl)) ?_
                  obtain ⟨v28, hv28, h⟩ := bind_eq h
                  refine ddg rfl rfl rfl (opD_call fn31 (opnds_cons rfl opnds_nil) rfl (m31_r22_Sane_c hv28)) ?_
                  refine dvg rfl rfl rfl (opv_beql Try.underlying4 rfl rfl) ?_
                  refine dv rfl (opv_pick_t rfl rfl) ?_
                  refine dv rfl (opv_mv rfl) ?_
                  refine dsplit 210 rfl (fun hc => ?_) (fun hc => ?_)
                  · replace h := ite_t hc h
                    clear hc
                    refine dvg rfl rfl rfl (opv_loadN ti32 rfl (.lp _ _ _ rfl) (Nat.le_of_ble_eq_true rfl)) ?_
                    obtain ⟨v29, hv29, h⟩ := bind_eq h
                    refine ddg rfl rfl rfl (opD_call fn16 (opnds_cons rfl opnds_nil) rfl (m16_l22_theirs_c hv29)) ?_
                    refine dvg rfl rfl rfl (opv_loadN ti25 rfl (.lp _ _ _ rfl) (Nat.le_of_ble_eq_true rfl)) ?_
                    obtain ⟨v30, hv30, h⟩ := bind_eq h
                    refine ddg rfl rfl rfl (opD_call fn15 (opnds_cons rfl (opnds_cons rfl opnds_nil)) rfl (m15_r22_Same_c hv30)) ?_
                    refine dv rfl (opv_pick_t rfl rfl) ?_
                    refine dv rfl (opv_as rfl) ?_
                    refine dnil ?_
                    refine then_normal ?_
                    refine cret ?_
                    obtain rfl := Option.some.inj h
                    refine ⟨Or.inr rfl, _, _, _, (resVs_cons (ResV.tmp _ _ rfl) resVs_nil), (pubA_id rfl), ?_⟩
                    rfl
                  · replace h := ite_f hc h
                    clear hc
                    refine doff rfl rfl rfl rfl ?_
                    refine doff rfl rfl rfl rfl ?_
                    refine doff rfl rfl rfl rfl ?_
                    refine doff rfl rfl rfl rfl ?_
                    refine dv rfl (opv_pick_f rfl rfl) ?_
                    refine dv rfl (opv_as rfl) ?_
                    refine dnil ?_
                    refine then_normal ?_
                    refine cret ?_
                    obtain rfl := Option.some.inj h
                    refine ⟨Or.inr rfl, _, _, _, (resVs_cons (ResV.tmp _ _ rfl) resVs_nil), (pubA_id rfl), ?_⟩
                    rfl
                · replace h := ite_f hc h
                  clear hc
                  refine doff rfl rfl rfl rfl ?_
                  refine doff rfl rfl rfl rfl ?_
                  refine doff rfl rfl rfl rfl ?_
                  refine doff rfl rfl rfl rfl ?_
                  refine doff rfl rfl rfl rfl ?_
                  refine dv rfl (opv_pick_f rfl rfl) ?_
                  refine dv rfl (opv_mv rfl) ?_
                  refine doff rfl rfl rfl rfl ?_
                  refine doff rfl rfl rfl rfl ?_
                  refine doff rfl rfl rfl rfl ?_
                  refine doff rfl rfl rfl rfl ?_
                  refine dv rfl (opv_pick_f rfl rfl) ?_
                  refine dv rfl (opv_as rfl) ?_
                  refine dnil ?_
                  refine then_normal ?_
                  refine cret ?_
                  obtain rfl := Option.some.inj h
                  refine ⟨Or.inr rfl, _, _, _, (resVs_cons (ResV.tmp _ _ rfl) resVs_nil), (pubA_id rfl), ?_⟩
                  rfl
              · replace h := ite_f hc h
                clear hc
                refine doff rfl rfl rfl rfl ?_
                refine doff rfl rfl rfl rfl ?_
                refine doff rfl rfl rfl rfl ?_
                refine doff rfl rfl rfl rfl ?_
                refine doff rfl rfl rfl rfl ?_
                refine doff rfl rfl rfl rfl ?_
                refine doff rfl rfl rfl rfl ?_
                refine doff rfl rfl rfl rfl ?_
                refine doff rfl rfl rfl rfl ?_
                refine doff rfl rfl rfl rfl ?_
                refine dv rfl (opv_pick_f rfl rfl) ?_
                refine dv rfl (opv_mv rfl) ?_
                refine doff rfl rfl rfl rfl ?_
                refine doff rfl rfl rfl rfl ?_
                refine doff rfl rfl rfl rfl ?_
                refine doff rfl rfl rfl rfl ?_
                refine doff rfl rfl rfl rfl ?_
                refine dv rfl (opv_pick_f rfl rfl) ?_
                refine dv rfl (opv_mv rfl) ?_
                refine doff rfl rfl rfl rfl ?_
                refine doff rfl rfl rfl rfl ?_
                refine doff rfl rfl rfl rfl ?_
                refine doff rfl rfl rfl rfl ?_
                refine dv rfl (opv_pick_f rfl rfl) ?_
                refine dv rfl (opv_as rfl) ?_
                refine dnil ?_
                refine then_normal ?_
                refine cret ?_
                obtain rfl := Option.some.inj h
                refine ⟨Or.inr rfl, _, _, _, (resVs_cons (ResV.tmp _ _ rfl) resVs_nil), (pubA_id rfl), ?_⟩
                rfl
            · replace h := ite_f hc h
              clear hc
              refine doff rfl rfl rfl rfl ?_
              refine doff rfl rfl rfl rfl ?_
              refine doff rfl rfl rfl rfl ?_
              refine doff rfl rfl rfl rfl ?_
              refine doff rfl rfl rfl rfl ?_
              refine doff rfl rfl rfl rfl ?_
              refine doff rfl rfl rfl rfl ?_
              refine doff rfl rfl rfl rfl ?_
              refine dv rfl (opv_pick_f rfl rfl) ?_
              refine dv rfl (opv_mv rfl) ?_
              refine doff rfl rfl rfl rfl ?_
              refine doff rfl rfl rfl rfl ?_
              refine doff rfl rfl rfl rfl ?_
              refine doff rfl rfl rfl rfl ?_
              refine doff rfl rfl rfl rfl ?_
              refine doff rfl rfl rfl rfl ?_
              refine doff rfl rfl rfl rfl ?_
              refine doff rfl rfl rfl rfl ?_
              refine doff rfl rfl rfl rfl ?_
              refine doff rfl rfl rfl rfl ?_
              refine dv rfl (opv_pick_f rfl rfl) ?_
              refine dv rfl (opv_mv rfl) ?_
              refine doff rfl rfl rfl rfl ?_
              refine doff rfl rfl rfl rfl ?_
              refine doff rfl rfl rfl rfl ?_
              refine doff rfl rfl rfl rfl ?_
              refine doff rfl rfl rfl rfl ?_
              refine dv rfl (opv_pick_f rfl rfl) ?_
              refine dv rfl (opv_mv rfl) ?_
              refine doff rfl rfl rfl rfl ?_
              refine doff rfl rfl rfl rfl ?_
              refine doff rfl rfl rfl rfl ?_
              refine doff rfl rfl rfl rfl ?_
              refine dv rfl (opv_pick_f rfl rfl) ?_
              refine dv rfl (opv_as rfl) ?_
              refine dnil ?_
              refine then_normal ?_
              refine cret ?_
              obtain rfl := Option.some.inj h
              refine ⟨Or.inr rfl, _, _, _, (resVs_cons (ResV.tmp _ _ rfl) resVs_nil), (pubA_id rfl), ?_⟩
              rfl
          · replace h := ite_f hc h
            clear hc
            refine doff rfl rfl rfl rfl ?_
            refine doff rfl rfl rfl rfl ?_
            refine doff rfl rfl rfl rfl ?_
            refine doff rfl rfl rfl rfl ?_
            refine doff rfl rfl rfl rfl ?_
            refine doff rfl rfl rfl rfl ?_
            refine doff rfl rfl rfl rfl ?_
            refine doff rfl rfl rfl rfl ?_
            refine dv rfl (opv_pick_f rfl rfl) ?_
            refine dv rfl (opv_mv rfl) ?_
            refine doff rfl rfl rfl rfl ?_
            refine doff rfl rfl rfl rfl ?_
            refine doff rfl rfl rfl rfl ?_
            refine doff rfl rfl rfl rfl ?_
            refine doff rfl rfl rfl rfl ?_
            refine doff rfl rfl rfl rfl ?_
            refine doff rfl rfl rfl rfl ?_
            refine doff rfl rfl rfl rfl ?_
            refine dv rfl (opv_pick_f rfl rfl) ?_
            refine dv rfl (opv_mv rfl) ?_
            refine doff rfl rfl rfl rfl ?_
            refine doff rfl rfl rfl rfl ?_
            refine doff rfl rfl rfl rfl ?_
            refine doff rfl rfl rfl rfl ?_
            refine doff rfl rfl rfl rfl ?_
            refine doff rfl rfl rfl rfl ?_
            refine doff rfl rfl rfl rfl ?_
            refine doff rfl rfl rfl rfl ?_
            refine doff rfl rfl rfl rfl ?_
            refine doff rfl rfl rfl rfl ?_
            refine dv rfl (opv_pick_f rfl rfl) ?_
            refine dv rfl (opv_mv rfl) ?_
            refine doff rfl rfl rfl rfl ?_
            refine doff rfl rfl rfl rfl ?_
            refine doff rfl rfl rfl rfl ?_
            refine doff rfl rfl rfl rfl ?_
            refine doff rfl rfl rfl rfl ?_
            refine dv rfl (opv_pick_f rfl rfl) ?_
            refine dv rfl (opv_mv rfl) ?_
            refine doff rfl rfl rfl rfl ?_
            refine doff rfl rfl rfl rfl ?_
            refine doff rfl rfl rfl rfl ?_
            refine doff rfl rfl rfl rfl ?_
            refine dv rfl (opv_pick_f rfl rfl) ?_
            refine dv rfl (opv_as rfl) ?_
            refine dnil ?_
            refine then_normal ?_
            refine cret ?_
            obtain rfl := Option.some.inj h
            refine ⟨Or.inr rfl, _, _, _, (resVs_cons (ResV.tmp _ _ rfl) resVs_nil), (pubA_id rfl), ?_⟩
            rfl
        · replace h := ite_f hc h
          clear hc
          refine doff rfl rfl rfl rfl ?_
          refine doff rfl rfl rfl rfl ?_
          refine doff rfl rfl rfl rfl ?_
          refine doff rfl rfl rfl rfl ?_
          refine doff rfl rfl rfl rfl ?_
          refine dv rfl (opv_pick_f rfl rfl) ?_
          refine dv rfl (opv_mv rfl) ?_
          refine doff rfl rfl rfl rfl ?_
          refine doff rfl rfl rfl rfl ?_
          refine doff rfl rfl rfl rfl ?_
          refine doff rfl rfl rfl rfl ?_
          refine doff rfl rfl rfl rfl ?_
          refine doff rfl rfl rfl rfl ?_
          refine doff rfl rfl rfl rfl ?_
          refine doff rfl rfl rfl rfl ?_
          refine dv rfl (opv_pick_f rfl rfl) ?_
          refine dv rfl (opv_mv rfl) ?_
          refine doff rfl rfl rfl rfl ?_
          refine doff rfl rfl rfl rfl ?_
          refine doff rfl rfl rfl rfl ?_
          refine doff rfl rfl rfl rfl ?_
          refine doff rfl rfl rfl rfl ?_
          refine doff rfl rfl rfl rfl ?_
          refine doff rfl rfl rfl rfl ?_
          refine doff rfl rfl rfl rfl ?_
          refine dv rfl (opv_pick_f rfl rfl) ?_
          refine dv rfl (opv_mv rfl) ?_
          refine doff rfl rfl rfl rfl ?_
          refine doff rfl rfl rfl rfl ?_
          refine doff rfl rfl rfl rfl ?_
          refine doff rfl rfl rfl rfl ?_
          refine doff rfl rfl rfl rfl ?_
          refine doff rfl rfl rfl rfl ?_
          refine doff rfl rfl rfl rfl ?_
          refine doff rfl rfl rfl rfl ?_
          refine doff rfl rfl rfl rfl ?_
          refine doff rfl rfl rfl rfl ?_
          refine dv rfl (opv_pick_f rfl rfl) ?_
          refine dv rfl (opv_mv rfl) ?_
          refine doff rfl rfl rfl rfl ?_
          refine doff rfl rfl rfl rfl ?_
          refine doff rfl rfl rfl rfl ?_
          refine doff rfl rfl rfl rfl ?_
          refine doff rfl rfl rfl rfl ?_
          refine dv rfl (opv_pick_f rfl rfl) ?_
          refine dv rfl (opv_mv rfl) ?_
          refine doff rfl rfl rfl rfl ?_
          refine doff rfl rfl rfl rfl ?_
          refine doff rfl rfl rfl rfl ?_
          refine doff rfl rfl rfl rfl ?_
          refine dv rfl (opv_pick_f rfl rfl) ?_
          refine dv rfl (opv_as rfl) ?_
          refine dnil ?_
          refine then_normal ?_
          refine cret ?_
          obtain rfl := Option.some.inj h
          refine ⟨Or.inr rfl, _, _, _, (resVs_cons (ResV.tmp _ _ rfl) resVs_nil), (pubA_id rfl), ?_⟩
          rfl
      · skip
        refine cdraw mixed (by kernel_rfl) ?_
        refine dv rfl (opv_loadN ti32 rfl (.lp _ _ _ rfl) (Nat.le_of_ble_eq_true rfl)) ?_
        obtain ⟨v31, hv31, h⟩ := bind_eq h
        refine dd rfl (opD_call fn16 (opnds_cons rfl opnds_nil) rfl (m16_l22_theirs_c hv31)) ?_
        refine dv rfl (opv_loadN ti25 rfl (.lp _ _ _ rfl) (Nat.le_of_ble_eq_true rfl)) ?_
        obtain ⟨v32, hv32, h⟩ := bind_eq h
        refine dd rfl (opD_call fn15 (opnds_cons rfl (opnds_cons rfl opnds_nil)) rfl (m15_r22_Same_c hv32)) ?_
        refine dv rfl (opv_not rfl) ?_
        refine dv rfl (opv_mv rfl) ?_
        refine dsplit 139 rfl (fun hc => ?_) (fun hc => ?_)
        · replace h := ite_t hc h
          clear hc
          refine doff rfl rfl rfl rfl ?_
          refine doff rfl rfl rfl rfl ?_
          refine doff rfl rfl rfl rfl ?_
          refine doff rfl rfl rfl rfl ?_
          refine doff rfl rfl rfl rfl ?_
          refine dv rfl (opv_pick_t rfl rfl) ?_
          refine dv rfl (opv_mv rfl) ?_
          refine doff rfl rfl rfl rfl ?_
          refine doff rfl rfl rfl rfl ?_
          refine doff rfl rfl rfl rfl ?_
          refine dv rfl (opv_pick_t rfl rfl) ?_
          refine dv rfl (opv_mv rfl) ?_
          refine doff rfl rfl rfl rfl ?_
          refine doff rfl rfl rfl rfl ?_
          refine doff rfl rfl rfl rfl ?_
          refine doff rfl rfl rfl rfl ?_
          refine doff rfl rfl rfl rfl ?_
          refine dv rfl (opv_pick_t rfl rfl) ?_
          refine dv rfl (opv_mv rfl) ?_
          refine doff rfl rfl rfl rfl ?_
          refine doff rfl rfl rfl rfl ?_
          refine doff rfl rfl rfl rfl ?_
          refine dv rfl (opv_pick_t rfl rfl) ?_
          refine dnil ?_
          refine then_normal ?_
          refine ccond rfl (fun _ => ?_) (fun hx => Bool.noConfusion hx)
          refine cseq ?_
          refine cregion ?_
          refine sv rfl (opv_as rfl) ?_
          refine snil ?_
          refine cret ?_
          refine then_ret ?_
          obtain rfl := Option.some.inj h
          refine ⟨Or.inr rfl, _, _, _, (resVs_cons (ResV.tmp _ _ rfl) resVs_nil), (pubA_id rfl), ?_⟩
          rfl
        · replace h := ite_f hc h
          clear hc
          refine dvg rfl rfl rfl (opv_loadN ti46 rfl (.lp _ _ _ rfl) (Nat.le_of_ble_eq_true rfl)) ?_
          obtain ⟨v33, hv33, h⟩ := bind_eq h
          refine ddg rfl rfl rfl (opD_call fn22 (opnds_cons rfl opnds_nil) rfl (m22_l22_packet_c hv33)) ?_
          refine dvg rfl rfl rfl (opv_loadN ti49 rfl (.lp _ _ _ rfl) (Nat.le_of_ble_eq_true rfl)) ?_
          obtain ⟨v34, hv34, h⟩ := bind_eq h
          refine ddg rfl rfl rfl (opD_call fn21 (opnds_cons rfl (opnds_cons rfl opnds_nil)) rfl (m21_r22_SamePacket_c hv34)) ?_
          refine dvg rfl rfl rfl (opv_not rfl) ?_
          refine dv rfl (opv_pick_f rfl rfl) ?_
          refine dv rfl (opv_mv rfl) ?_
          refine dsplit 146 rfl (fun hc => ?_) (fun hc => ?_)
          · replace h := ite_t hc h
            clear hc
            refine doff rfl rfl rfl rfl ?_
            refine doff rfl rfl rfl rfl ?_
            refine doff rfl rfl rfl rfl ?_
            refine dv rfl (opv_pick_t rfl rfl) ?_
            refine dv rfl (opv_mv rfl) ?_
            refine doff rfl rfl rfl rfl ?_
            refine doff rfl rfl rfl rfl ?_
            refine doff rfl rfl rfl rfl ?_
            refine doff rfl rfl rfl rfl ?_
            refine doff rfl rfl rfl rfl ?_
            refine dv rfl (opv_pick_t rfl rfl) ?_
            refine dv rfl (opv_mv rfl) ?_
            refine doff rfl rfl rfl rfl ?_
            refine doff rfl rfl rfl rfl ?_
            refine doff rfl rfl rfl rfl ?_
            refine dv rfl (opv_pick_t rfl rfl) ?_
            refine dnil ?_
            refine then_normal ?_
            refine ccond rfl (fun _ => ?_) (fun hx => Bool.noConfusion hx)
            refine cseq ?_
            refine cregion ?_
            refine sv rfl (opv_as rfl) ?_
            refine snil ?_
            refine cret ?_
            refine then_ret ?_
            obtain rfl := Option.some.inj h
            refine ⟨Or.inr rfl, _, _, _, (resVs_cons (ResV.tmp _ _ rfl) resVs_nil), (pubA_id rfl), ?_⟩
            rfl
          · replace h := ite_f hc h
            clear hc
            refine dvg rfl rfl rfl (opv_mv rfl) ?_
            refine dvg rfl rfl rfl (opv_mv rfl) ?_
            refine dvg rfl rfl rfl (opv_bneq Try.underlying4 rfl rfl) ?_
            refine dv rfl (opv_pick_f rfl rfl) ?_
            refine dv rfl (opv_mv rfl) ?_
            refine dsplit 151 rfl (fun hc => ?_) (fun hc => ?_)
            · replace h := ite_t hc h
              clear hc
              refine doff rfl rfl rfl rfl ?_
              refine doff rfl rfl rfl rfl ?_
              refine doff rfl rfl rfl rfl ?_
              refine doff rfl rfl rfl rfl ?_
              refine doff rfl rfl rfl rfl ?_
              refine dv rfl (opv_pick_t rfl rfl) ?_
              refine dv rfl (opv_mv rfl) ?_
              refine doff rfl rfl rfl rfl ?_
              refine doff rfl rfl rfl rfl ?_
              refine doff rfl rfl rfl rfl ?_
              refine dv rfl (opv_pick_t rfl rfl) ?_
              refine dnil ?_
              refine then_normal ?_
              refine ccond rfl (fun _ => ?_) (fun hx => Bool.noConfusion hx)
              refine cseq ?_
              refine cregion ?_
              refine sv rfl (opv_as rfl) ?_
              refine snil ?_
              refine cret ?_
              refine then_ret ?_
              obtain rfl := Option.some.inj h
              refine ⟨Or.inr rfl, _, _, _, (resVs_cons (ResV.tmp _ _ rfl) resVs_nil), (pubA_id rfl), ?_⟩
              rfl
            · replace h := ite_f hc h
              clear hc
              refine dvg rfl rfl rfl (opv_loadN ti32 rfl (.lp _ _ _ rfl) (Nat.le_of_ble_eq_true rfl)) ?_
              obtain ⟨v35, hv35, h⟩ := bind_eq h
              refine ddg rfl rfl rfl (opD_call fn16 (opnds_cons rfl opnds_nil) rfl (m16_l22_theirs_c hv35)) ?_
              refine dvg rfl rfl rfl (opv_loadN ti25 rfl (.lp _ _ _ rfl) (Nat.le_of_ble_eq_true rfl)) ?_
              obtain ⟨v36, hv36, h⟩ := bind_eq h
              refine ddg rfl rfl rfl (opD_call fn15 (opnds_cons rfl (opnds_cons rfl opnds_nil)) rfl (m15_r22_Same_c hv36)) ?_
              refine dvg rfl rfl rfl (opv_not rfl) ?_
              refine dv rfl (opv_pick_f rfl rfl) ?_
              refine dv rfl (opv_mv rfl) ?_
              refine dsplit 158 rfl (fun hc => ?_) (fun hc => ?_)
              · replace h := ite_t hc h
                clear hc
                refine doff rfl rfl rfl rfl ?_
                refine doff rfl rfl rfl rfl ?_
                refine doff rfl rfl rfl rfl ?_
                refine dv rfl (opv_pick_t rfl rfl) ?_
                refine dnil ?_
                refine then_normal ?_
                refine ccond rfl (fun _ => ?_) (fun hx => Bool.noConfusion hx)
                refine cseq ?_
                refine cregion ?_
                refine sv rfl (opv_as rfl) ?_
                refine snil ?_
                refine cret ?_
                refine then_ret ?_
                obtain rfl := Option.some.inj h
                refine ⟨Or.inr rfl, _, _, _, (resVs_cons (ResV.tmp _ _ rfl) resVs_nil), (pubA_id rfl), ?_⟩
                rfl
              · replace h := ite_f hc h
                clear hc
                refine dvg rfl rfl rfl (opv_mv rfl) ?_
                refine dvg rfl rfl rfl (opv_mv rfl) ?_
                refine dvg rfl rfl rfl (opv_ineq rfl rfl) ?_
                refine dv rfl (opv_pick_f rfl rfl) ?_
                refine dnil ?_
                refine then_normal ?_
                refine ccond rfl (fun hc => ?_) (fun hc => ?_)
                · replace h := ite_t hc h
                  clear hc
                  refine cseq ?_
                  refine cregion ?_
                  refine sv rfl (opv_as rfl) ?_
                  refine snil ?_
                  refine cret ?_
                  refine then_ret ?_
                  obtain rfl := Option.some.inj h
                  refine ⟨Or.inr rfl, _, _, _, (resVs_cons (ResV.tmp _ _ rfl) resVs_nil), (pubA_id rfl), ?_⟩
                  rfl
                · replace h := ite_f hc h
                  clear hc
                  refine cskip ?_
                  refine then_normal ?_
                  exact ⟨(), _, h, ⟨rfl, rfl, rfl, rfl, rfl, rfl, rfl, trivial⟩, rfl⟩
    · skip
      refine cdraw mixed (by kernel_rfl) ?_
      refine dv rfl (opv_loadN ti32 rfl (.lp _ _ _ rfl) (Nat.le_of_ble_eq_true rfl)) ?_
      obtain ⟨v37, hv37, h⟩ := bind_eq h
      refine dd rfl (opD_call fn16 (opnds_cons rfl opnds_nil) rfl (m16_l22_theirs_c hv37)) ?_
      refine dv rfl (opv_loadN ti25 rfl (.lp _ _ _ rfl) (Nat.le_of_ble_eq_true rfl)) ?_
      obtain ⟨v38, hv38, h⟩ := bind_eq h
      refine dd rfl (opD_call fn15 (opnds_cons rfl (opnds_cons rfl opnds_nil)) rfl (m15_r22_Same_c hv38)) ?_
      refine dv rfl (opv_not rfl) ?_
      refine dv rfl (opv_mv rfl) ?_
      refine dsplit 86 rfl (fun hc => ?_) (fun hc => ?_)
      · replace h := ite_t hc h
        clear hc
        refine doff rfl rfl rfl rfl ?_
        refine doff rfl rfl rfl rfl ?_
        refine doff rfl rfl rfl rfl ?_
        refine dv rfl (opv_pick_t rfl rfl) ?_
        refine dv rfl (opv_mv rfl) ?_
        refine doff rfl rfl rfl rfl ?_
        refine doff rfl rfl rfl rfl ?_
        refine doff rfl rfl rfl rfl ?_
        refine dv rfl (opv_pick_t rfl rfl) ?_
        refine dv rfl (opv_mv rfl) ?_
        refine doff rfl rfl rfl rfl ?_
        refine doff rfl rfl rfl rfl ?_
        refine doff rfl rfl rfl rfl ?_
        refine doff rfl rfl rfl rfl ?_
        refine doff rfl rfl rfl rfl ?_
        refine dv rfl (opv_pick_t rfl rfl) ?_
        refine dv rfl (opv_mv rfl) ?_
        refine doff rfl rfl rfl rfl ?_
        refine doff rfl rfl rfl rfl ?_
        refine doff rfl rfl rfl rfl ?_
        refine dv rfl (opv_pick_t rfl rfl) ?_
        refine dnil ?_
        refine then_normal ?_
        refine ccond rfl (fun _ => ?_) (fun hx => Bool.noConfusion hx)
        refine cseq ?_
        refine cregion ?_
        refine sv rfl (opv_as rfl) ?_
        refine snil ?_
        refine cret ?_
        refine then_ret ?_
        obtain rfl := Option.some.inj h
        refine ⟨Or.inr rfl, _, _, _, (resVs_cons (ResV.tmp _ _ rfl) resVs_nil), (pubA_id rfl), ?_⟩
        rfl
      · replace h := ite_f hc h
        clear hc
        refine dvg rfl rfl rfl (opv_mv rfl) ?_
        refine dvg rfl rfl rfl (opv_mv rfl) ?_
        refine dvg rfl rfl rfl (opv_ineq rfl rfl) ?_
        refine dv rfl (opv_pick_f rfl rfl) ?_
        refine dv rfl (opv_mv rfl) ?_
        refine dsplit 91 rfl (fun hc => ?_) (fun hc => ?_)
        · replace h := ite_t hc h
          clear hc
          refine doff rfl rfl rfl rfl ?_
          refine doff rfl rfl rfl rfl ?_
          refine doff rfl rfl rfl rfl ?_
          refine dv rfl (opv_pick_t rfl rfl) ?_
          refine dv rfl (opv_mv rfl) ?_
          refine doff rfl rfl rfl rfl ?_
          refine doff rfl rfl rfl rfl ?_
          refine doff rfl rfl rfl rfl ?_
          refine doff rfl rfl rfl rfl ?_
          refine doff rfl rfl rfl rfl ?_
          refine dv rfl (opv_pick_t rfl rfl) ?_
          refine dv rfl (opv_mv rfl) ?_
          refine doff rfl rfl rfl rfl ?_
          refine doff rfl rfl rfl rfl ?_
          refine doff rfl rfl rfl rfl ?_
          refine dv rfl (opv_pick_t rfl rfl) ?_
          refine dnil ?_
          refine then_normal ?_
          refine ccond rfl (fun _ => ?_) (fun hx => Bool.noConfusion hx)
          refine cseq ?_
          refine cregion ?_
          refine sv rfl (opv_as rfl) ?_
          refine snil ?_
          refine cret ?_
          refine then_ret ?_
          obtain rfl := Option.some.inj h
          refine ⟨Or.inr rfl, _, _, _, (resVs_cons (ResV.tmp _ _ rfl) resVs_nil), (pubA_id rfl), ?_⟩
          rfl
        · replace h := ite_f hc h
          clear hc
          refine dvg rfl rfl rfl (opv_mv rfl) ?_
          refine dvg rfl rfl rfl (opv_mv rfl) ?_
          refine dvg rfl rfl rfl (opv_ineq rfl rfl) ?_
          refine dv rfl (opv_pick_f rfl rfl) ?_
          refine dv rfl (opv_mv rfl) ?_
          refine dsplit 96 rfl (fun hc => ?_) (fun hc => ?_)
          · replace h := ite_t hc h
            clear hc
            refine doff rfl rfl rfl rfl ?_
            refine doff rfl rfl rfl rfl ?_
            refine doff rfl rfl rfl rfl ?_
            refine doff rfl rfl rfl rfl ?_
            refine doff rfl rfl rfl rfl ?_
            refine dv rfl (opv_pick_t rfl rfl) ?_
            refine dv rfl (opv_mv rfl) ?_
            refine doff rfl rfl rfl rfl ?_
            refine doff rfl rfl rfl rfl ?_
            refine doff rfl rfl rfl rfl ?_
            refine dv rfl (opv_pick_t rfl rfl) ?_
            refine dnil ?_
            refine then_normal ?_
            refine ccond rfl (fun _ => ?_) (fun hx => Bool.noConfusion hx)
            refine cseq ?_
            refine cregion ?_
            refine sv rfl (opv_as rfl) ?_
            refine snil ?_
            refine cret ?_
            refine then_ret ?_
            obtain rfl := Option.some.inj h
            refine ⟨Or.inr rfl, _, _, _, (resVs_cons (ResV.tmp _ _ rfl) resVs_nil), (pubA_id rfl), ?_⟩
            rfl
          · replace h := ite_f hc h
            clear hc
            refine dvg rfl rfl rfl (opv_loadN ti32 rfl (.lp _ _ _ rfl) (Nat.le_of_ble_eq_true rfl)) ?_
            obtain ⟨v39, hv39, h⟩ := bind_eq h
            refine ddg rfl rfl rfl (opD_call fn16 (opnds_cons rfl opnds_nil) rfl (m16_l22_theirs_c hv39)) ?_
            refine dvg rfl rfl rfl (opv_loadN ti25 rfl (.lp _ _ _ rfl) (Nat.le_of_ble_eq_true rfl)) ?_
            obtain ⟨v40, hv40, h⟩ := bind_eq h
            refine ddg rfl rfl rfl (opD_call fn15 (opnds_cons rfl (opnds_cons rfl opnds_nil)) rfl (m15_r22_Same_c hv40)) ?_
            refine dvg rfl rfl rfl (opv_not rfl) ?_
            refine dv rfl (opv_pick_f rfl rfl) ?_
            refine dv rfl (opv_mv rfl) ?_
            refine dsplit 103 rfl (fun hc => ?_) (fun hc => ?_)
            · replace h := ite_t hc h
              clear hc
              refine doff rfl rfl rfl rfl ?_
              refine doff rfl rfl rfl rfl ?_
              refine doff rfl rfl rfl rfl ?_
              refine dv rfl (opv_pick_t rfl rfl) ?_
              refine dnil ?_
              refine then_normal ?_
              refine ccond rfl (fun _ => ?_) (fun hx => Bool.noConfusion hx)
              refine cseq ?_
              refine cregion ?_
              refine sv rfl (opv_as rfl) ?_
              refine snil ?_
              refine cret ?_
              refine then_ret ?_
              obtain rfl := Option.some.inj h
              refine ⟨Or.inr rfl, _, _, _, (resVs_cons (ResV.tmp _ _ rfl) resVs_nil), (pubA_id rfl), ?_⟩
              rfl
            · replace h := ite_f hc h
              clear hc
              refine dvg rfl rfl rfl (opv_mv rfl) ?_
              refine dvg rfl rfl rfl (opv_mv rfl) ?_
              refine dvg rfl rfl rfl (opv_ineq rfl rfl) ?_
              refine dv rfl (opv_pick_f rfl rfl) ?_
              refine dnil ?_
              refine then_normal ?_
              refine ccond rfl (fun hc => ?_) (fun hc => ?_)
              · replace h := ite_t hc h
                clear hc
                refine cseq ?_
                refine cregion ?_
                refine sv rfl (opv_as rfl) ?_
                refine snil ?_
                refine cret ?_
                refine then_ret ?_
                obtain rfl := Option.some.inj h
                refine ⟨Or.inr rfl, _, _, _, (resVs_cons (ResV.tmp _ _ rfl) resVs_nil), (pubA_id rfl), ?_⟩
                rfl
              · replace h := ite_f hc h
                clear hc
                refine cskip ?_
                refine then_normal ?_
                exact ⟨(), _, h, ⟨rfl, rfl, rfl, rfl, rfl, rfl, rfl, trivial⟩, rfl⟩
  · skip
    refine cregion ?_
    refine sv rfl (opv_loadN ti25 rfl (.lp _ _ _ rfl) (Nat.le_of_ble_eq_true rfl)) ?_
    obtain ⟨v41, hv41, h⟩ := bind_eq h
    refine scall1 rfl fn9 (opnds_cons rfl opnds_nil) (pubA_id rfl) (m9_r22_Few_c hv41) ?_
    refine sv rfl (opv_not rfl) ?_
    refine sv rfl (opv_mv rfl) ?_
    refine ssplit 41 rfl (fun hc => ?_) (fun hc => ?_)
    · replace h := ite_t hc h
      clear hc
      refine soff rfl rfl rfl rfl ?_
      refine soff rfl rfl rfl rfl ?_
      refine soff rfl rfl rfl rfl ?_
      refine sv rfl (opv_pick_t rfl rfl) ?_
      refine snil ?_
      refine ccond rfl (fun _ => ?_) (fun hx => Bool.noConfusion hx)
      refine cseq ?_
      refine cregion ?_
      refine sv rfl (opv_mv rfl) ?_
      refine sv rfl (opv_as rfl) ?_
      refine snil ?_
      refine cret ?_
      refine then_ret ?_
      obtain rfl := Option.some.inj h
      refine ⟨Or.inr rfl, _, _, _, (resVs_cons (ResV.tmp _ _ rfl) resVs_nil), (pubA_id rfl), ?_⟩
      rfl
    · replace h := ite_f hc h
      clear hc
      refine son rfl rfl rfl ?_
      refine sv rfl (opv_mv rfl) ?_
      refine son rfl rfl rfl ?_
      refine sv rfl (opv_len_sl si26 rfl) ?_
      refine son rfl rfl rfl ?_
      refine sv rfl (opv_gtr rfl rfl) ?_
      refine sv rfl (opv_pick_f rfl rfl) ?_
      refine snil ?_
      refine ccond rfl (fun hc => ?_) (fun hc => ?_)
      · replace h := ite_t hc h
        clear hc
        refine cseq ?_
        refine cregion ?_
        refine sv rfl (opv_mv rfl) ?_
        refine sv rfl (opv_as rfl) ?_
        refine snil ?_
        refine cret ?_
        refine then_ret ?_
        obtain rfl := Option.some.inj h
        refine ⟨Or.inr rfl, _, _, _, (resVs_cons (ResV.tmp _ _ rfl) resVs_nil), (pubA_id rfl), ?_⟩
        rfl
      · replace h := ite_f hc h
        clear hc
        refine cskip ?_
        refine then_normal ?_
        exact ⟨(), _, h, ⟨rfl, rfl, rfl, rfl, rfl, rfl, rfl, rfl, trivial⟩, rfl⟩

def m4_l22_NetFlips_k7 (v1 : Bool) (b7 : Unit) : Option Bool :=
  some v1

def m4_l22_NetFlips_s8 (a0 : GR22Net) (a1 : Int) (a2 : Int) (v4 : GNetNet) (s8 : Int) : Option (LR (Int) (Unit) (Bool)) :=
  if (decide (s8 < (a0.Packets.length : Int))) then ((idx v4.Packets s8).bind fun u9 => (m22_l22_packet u9).bind fun v10 => (idx a0.Packets s8).bind fun u11 => (m21_r22_SamePacket v10 u11).bind fun v12 => if (decide (s8 = a1)) then (if (v12 == (decide (0 ≤ a2))) then (some (.ret false)) else (some (.cont (wI (s8 + 1))))) else (if (v12 == false) then (some (.ret false)) else (some (.cont (wI (s8 + 1)))))) else (some (.brk ()))

def m4_l22_NetFlips_k6 (a0 : GR22Net) (a1 : Int) (a2 : Int) (v1 : Bool) (v4 : GNetNet) (b6 : Unit) : Option Bool :=
  (iter (m4_l22_NetFlips_s8 a0 a1 a2 v4) fuel 0).bind fun x => match x with | .inl r => some r | .inr e13 => m4_l22_NetFlips_k7 v1 e13

def m4_l22_NetFlips_k3 (a0 : GR22Net) (a1 : Int) (a2 : Int) (v1 : Bool) (v2 : GNetNet) (b3 : Unit) : Option Bool :=
  (m28_net_Flip v2 a1 a2).bind fun v4 => (m28_net_Flip v4 a1 a2).bind fun v5 => (m16_l22_theirs v5).bind fun v14 => (m15_r22_Same v14 a0).bind fun v15 => if (!v15) then (some false) else (if (!decide ((v4.Packets.length : Int) = (a0.Packets.length : Int))) then (some false) else ((m30_net_Sane v4).bind fun v16 => if (!v16) then (some false) else (m4_l22_NetFlips_k6 a0 a1 a2 v1 v4 ())))
def m4_l22_NetFlips (a0 : GR22Net) (a1 : Int) (a2 : Int) : Option Bool :=
  (m8_l22_awake).bind fun v1 => (m10_l22_ours a0).bind fun v2 => (m9_r22_Few a0).bind fun v17 => if (!v17) then (some v1) else ((m30_net_Sane v2).bind fun v18 => if (!v18) then (some v1) else (m4_l22_NetFlips_k3 a0 a1 a2 v1 v2 ()))

set_option maxRecDepth 100000 in
theorem m4_l22_NetFlips_c {a0 : GR22Net} {a1 : Int} {a2 : Int} {r : Bool} (h : m4_l22_NetFlips a0 a1 a2 = some r) : CallsA Try.prog 4 [.agg a0, .one (.i .i64 a1), .one (.i .i64 a2)] (· = .s (.one (.b r))) := by
  unfold m4_l22_NetFlips at h
  refine callsA_of Try.func4 rfl (nt := 79) rfl (Nat.le_of_ble_eq_true rfl) ?_
  intro w0 S0
  refine cseq ?_
  refine cregion ?_
  refine sbox rfl rfl ?_
  refine sv rfl (opv_as rfl) ?_
  refine snil ?_
  refine cseq ?_
  refine cregion ?_
  obtain ⟨v1, hv1, h⟩ := bind_eq h
  refine scall1 rfl fn8 opnds_nil (pubA_id rfl) (m8_l22_awake_c hv1) ?_
  refine sv rfl (opv_as rfl) ?_
  refine snil ?_
  refine cseq ?_
  refine cregion ?_
  refine sv rfl (opv_loadN ti25 rfl (.lp _ _ _ rfl) (Nat.le_of_ble_eq_true rfl)) ?_
  obtain ⟨v2, hv2, h⟩ := bind_eq h
  refine scall1 rfl fn10 (opnds_cons rfl opnds_nil) (pubA_id rfl) (m10_l22_ours_c hv2) ?_
  refine salloc rfl zi32 ?_
  refine sstore sz32 rfl rfl rfl rfl (Nat.le_of_ble_eq_true rfl) ?_
  refine smem [.box a0, .box v2] rfl ?_
  refine snil ?_
  refine cseq ?_
  refine cseq ?_
  refine cjoin3 (Unit) (fun b3 => [(1, .s (.one (.i .i64 a1))), (2, .s (.one (.i .i64 a2))), (3, .s (.one (.lp 0 0))), (7, .s (.one (.b v1))), (8, .s (.one (.lp 1 0)))]) (fun b3 => [.box a0, .box v2]) (fun b3 => m4_l22_NetFlips_k3 a0 a1 a2 v1 v2 b3 = some r) (fun _ _ => inbL_of rfl) (fun _ _ => blkinb_of rfl) (fun _ _ => Nat.le_of_ble_eq_true rfl) (fun b3 h => ?_) ?_
  · unfold m4_l22_NetFlips_k3 at h
    refine cseq ?_
    refine cregion ?_
    refine sv rfl (opv_loadN ti32 rfl (.lp _ _ _ rfl) (Nat.le_of_ble_eq_true rfl)) ?_
    refine sv rfl (opv_mv rfl) ?_
    refine sv rfl (opv_mv rfl) ?_
    obtain ⟨v4, hv4, h⟩ := bind_eq h
    refine scall1 rfl fn28 (opnds_cons rfl (opnds_cons rfl (opnds_cons rfl opnds_nil))) (pubA_id rfl) (m28_net_Flip_c hv4) ?_
    refine salloc rfl zi32 ?_
    refine sstore sz32 rfl rfl rfl rfl (Nat.le_of_ble_eq_true rfl) ?_
    refine smem [.box a0, .box v2, .box v4] rfl ?_
    refine snil ?_
    refine cseq ?_
    refine cregion ?_
    refine sv rfl (opv_loadN ti32 rfl (.lp _ _ _ rfl) (Nat.le_of_ble_eq_true rfl)) ?_
    refine sv rfl (opv_mv rfl) ?_
    refine sv rfl (opv_mv rfl) ?_
    obtain ⟨v5, hv5, h⟩ := bind_eq h
    refine scall1 rfl fn28 (opnds_cons rfl (opnds_cons rfl (opnds_cons rfl opnds_nil))) (pubA_id rfl) (m28_net_Flip_c hv5) ?_
    refine salloc rfl zi32 ?_
    refine sstore sz32 rfl rfl rfl rfl (Nat.le_of_ble_eq_true rfl) ?_
    refine smem [.box a0, .box v2, .box v4, .box v5] rfl ?_
    refine snil ?_
    refine cseq ?_
    refine cseq ?_
    refine cjoin3 (Unit) (fun b6 => [(1, .s (.one (.i .i64 a1))), (2, .s (.one (.i .i64 a2))), (3, .s (.one (.lp 0 0))), (7, .s (.one (.b v1))), (9, .s (.one (.lp 2 0)))]) (fun b6 => [.box a0, .box v2, .box v4, .box v5]) (fun b6 => m4_l22_NetFlips_k6 a0 a1 a2 v1 v4 b6 = some r) (fun _ _ => inbL_of rfl) (fun _ _ => blkinb_of rfl) (fun _ _ => Nat.le_of_ble_eq_true rfl) (fun b6 h => ?_) ?_
    · unfold m4_l22_NetFlips_k6 at h
      refine cseq ?_
      refine cseq ?_
      refine cregion ?_
      refine sv rfl (opv_as rfl) ?_
      refine snil ?_
      refine cjoin (Unit) (fun b7 => [(7, .s (.one (.b v1)))]) (fun b7 => [.box a0, .box v2, .box v4, .box v5]) (fun b7 => m4_l22_NetFlips_k7 v1 b7 = some r) (fun _ _ => inbL_of rfl) (fun _ _ => blkinb_of rfl) (fun _ _ => Nat.le_of_ble_eq_true rfl) (fun b7 h => ?_) ?_
      · unfold m4_l22_NetFlips_k7 at h
        refine cseq ?_
        refine cregion ?_
        refine sv rfl (opv_mv rfl) ?_
        refine sv rfl (opv_as rfl) ?_
        refine snil ?_
        refine cret ?_
        obtain rfl := Option.some.inj h
        refine ⟨Or.inr rfl, _, _, _, (resVs_cons (ResV.tmp _ _ rfl) resVs_nil), (pubA_id rfl), ?_⟩
        rfl
      · skip
        refine cblock ?_
        obtain ⟨x8, hx8, ho8⟩ := bind_eq h
        refine awc_loop (G := Nat × (Int)) (fun g => [(1, .s (.one (.i .i64 a1))), (2, .s (.one (.i .i64 a2))), (3, .s (.one (.lp 0 0))), (7, .s (.one (.b v1))), (9, .s (.one (.lp 2 0))), (11, .s (.one (.i .i64 g.2)))]) (fun g => [.box a0, .box v2, .box v4, .box v5]) (fun g => iter (m4_l22_NetFlips_s8 a0 a1 a2 v4) g.1 g.2 = some x8) (fun g => g.1) (fuel, 0) hx8 ⟨rfl, rfl, rfl, rfl, rfl, rfl, trivial⟩ [] rfl (fun _ _ => inbL_of rfl) (fun _ _ => blkinb_of rfl) (fun _ _ => Nat.le_of_ble_eq_true rfl) ?_
        clear hx8 h
        rintro ⟨n8, s8⟩ h
        obtain ⟨n8, y8, rfl, h, hk8⟩ := iter_eq h
        unfold m4_l22_NetFlips_s8 at h
        refine cseq ?_
        refine cseq ?_
        refine cregion ?_
        refine sv rfl (opv_mv rfl) ?_
        refine sv rfl (opv_fieldAddr_lp fi25_1 rfl) ?_
        refine sv rfl (opv_load1 ti23 rfl (.lp _ _ _ rfl) rfl) ?_
        refine sv rfl (opv_len_sl si23 rfl) ?_
        refine sv rfl (opv_lss rfl rfl) ?_
        refine snil ?_
        refine ccond rfl (fun hc => ?_) (fun hc => ?_)
        · replace h := ite_t hc h
          clear hc
          refine cskip ?_
          refine then_normal ?_
          refine cseq ?_
          refine cblock ?_
          refine cseq ?_
          refine cdraw mixed (by kernel_rfl) ?_
          refine dv rfl (opv_fieldAddr_lp fi32_1 rfl) ?_
          refine dv rfl (opv_load1 ti30 rfl (.lp _ _ _ rfl) rfl) ?_
          refine dv rfl (opv_mv rfl) ?_
          obtain ⟨u9, hu9, h⟩ := bind_eq h
          refine dv rfl (opv_ix (f := eGNetPacket) si30 (fun _ => rfl) rfl rfl rfl rfl hu9) ?_
          refine dv rfl (opv_loadNe (ys := [.i .i64 u9.Link, .b u9.Up, .sl u9.Bytes.length (u9.Bytes.flatMap eU8)]) ti46 rfl (.cp _) rfl rfl) ?_
          obtain ⟨v10, hv10, h⟩ := bind_eq h
          refine dd rfl (opD_call fn22 (opnds_cons rfl opnds_nil) rfl (m22_l22_packet_c hv10)) ?_
          refine dv rfl (opv_fieldAddr_lp fi25_1 rfl) ?_
          refine dv rfl (opv_load1 ti23 rfl (.lp _ _ _ rfl) rfl) ?_
          refine dv rfl (opv_mv rfl) ?_
          obtain ⟨u11, hu11, h⟩ := bind_eq h
          refine dv rfl (opv_ix (f := eGR22Packet) si23 (fun _ => rfl) rfl rfl rfl rfl hu11) ?_
          refine dv rfl (opv_loadNe (ys := [.i .i64 u11.Link, .b u11.Up, .sl u11.Bytes.length (u11.Bytes.flatMap eU8)]) ti49 rfl (.cp _) rfl rfl) ?_
          obtain ⟨v12, hv12, h⟩ := bind_eq h
          refine dd rfl (opD_call fn21 (opnds_cons rfl (opnds_cons rfl opnds_nil)) rfl (m21_r22_SamePacket_c hv12)) ?_
          refine dv rfl (opv_mv rfl) ?_
          refine dv rfl (opv_mv rfl) ?_
          refine dv rfl (opv_ieql rfl rfl) ?_
          refine dv rfl (opv_mv rfl) ?_
          refine dsplit 73 rfl (fun hc => ?_) (fun hc => ?_)
          · replace h := ite_t hc h
            clear hc
            refine dvg rfl rfl rfl (opv_mv rfl) ?_
            refine dvg rfl rfl rfl (opv_geq rfl rfl) ?_
            refine dv rfl (opv_pick_t rfl rfl) ?_
            refine dv rfl (opv_beql Try.underlying4 rfl rfl) ?_
            refine dnil ?_
            refine then_normal ?_
            refine ccond rfl (fun hc => ?_) (fun hc => ?_)
            · replace h := ite_t hc h
              clear hc
              refine cseq ?_
              refine cregion ?_
              refine sv rfl (opv_as rfl) ?_
              refine snil ?_
              refine cret ?_
              refine block_ret ?_
              refine then_ret ?_
              refine then_ret ?_
              refine block_ret ?_
              refine then_ret ?_
              obtain rfl := Option.some.inj h
              obtain rfl : Sum.inl _ = x8 := hk8
              replace ho8 : some _ = some _ := ho8
              obtain rfl := Option.some.inj ho8
              refine ⟨Or.inr rfl, _, _, _, (resVs_cons (ResV.tmp _ _ rfl) resVs_nil), (pubA_id rfl), ?_⟩
              rfl
            · replace h := ite_f hc h
              clear hc
              refine cskip ?_
              refine block_normal ?_
              refine then_normal ?_
              refine cregion ?_
              refine sv rfl (opv_mv rfl) ?_
              refine sv rfl (opv_add rfl rfl) ?_
              refine sv rfl (opv_as rfl) ?_
              refine snil ?_
              obtain rfl := Option.some.inj h
              exact ⟨(n8, (wI (s8 + 1))), _, hk8, ⟨rfl, rfl, rfl, rfl, rfl, rfl, trivial⟩, rfl, Nat.lt_succ_self _⟩
          · replace h := ite_f hc h
            clear hc
            refine doff rfl rfl rfl rfl ?_
            refine doff rfl rfl rfl rfl ?_
            refine dv rfl (opv_pick_f rfl rfl) ?_
            refine dv rfl (opv_beql Try.underlying4 rfl rfl) ?_
            refine dnil ?_
            refine then_normal ?_
            refine ccond rfl (fun hc => ?_) (fun hc => ?_)
            · replace h := ite_t hc h
              clear hc
              refine cseq ?_
              refine cregion ?_
              refine sv rfl (opv_as rfl) ?_
              refine snil ?_
              refine cret ?_
              refine block_ret ?_
              refine then_ret ?_
              refine then_ret ?_
              refine block_ret ?_
              refine then_ret ?_
              obtain rfl := Option.some.inj h
              obtain rfl : Sum.inl _ = x8 := hk8
              replace ho8 : some _ = some _ := ho8
              obtain rfl := Option.some.inj ho8
              refine ⟨Or.inr rfl, _, _, _, (resVs_cons (ResV.tmp _ _ rfl) resVs_nil), (pubA_id rfl), ?_⟩
              rfl
            · replace h := ite_f hc h
              clear hc
              refine cskip ?_
              refine block_normal ?_
              refine then_normal ?_
              refine cregion ?_
              refine sv rfl (opv_mv rfl) ?_
              refine sv rfl (opv_add rfl rfl) ?_
              refine sv rfl (opv_as rfl) ?_
              refine snil ?_
              obtain rfl := Option.some.inj h
              exact ⟨(n8, (wI (s8 + 1))), _, hk8, ⟨rfl, rfl, rfl, rfl, rfl, rfl, trivial⟩, rfl, Nat.lt_succ_self _⟩
        · replace h := ite_f hc h
          clear hc
          refine cexit ?_
          refine then_exit ?_
          refine then_exit ?_
          refine block_hit ?_
          refine then_normal ?_
          obtain rfl := Option.some.inj h
          obtain rfl : _ = x8 := hk8
          exact ⟨(), _, ho8, ⟨rfl, trivial⟩, rfl⟩
    · skip
      refine cdraw mixed (by kernel_rfl) ?_
      refine dv rfl (opv_loadN ti32 rfl (.lp _ _ _ rfl) (Nat.le_of_ble_eq_true rfl)) ?_
      obtain ⟨v14, hv14, h⟩ := bind_eq h
      refine dd rfl (opD_call fn16 (opnds_cons rfl opnds_nil) rfl (m16_l22_theirs_c hv14)) ?_
      refine dv rfl (opv_loadN ti25 rfl (.lp _ _ _ rfl) (Nat.le_of_ble_eq_true rfl)) ?_
      obtain ⟨v15, hv15, h⟩ := bind_eq h
      refine dd rfl (opD_call fn15 (opnds_cons rfl (opnds_cons rfl opnds_nil)) rfl (m15_r22_Same_c hv15)) ?_
      refine dv rfl (opv_not rfl) ?_
      refine dv rfl (opv_mv rfl) ?_
      refine dsplit 37 rfl (fun hc => ?_) (fun hc => ?_)
      · replace h := ite_t hc h
        clear hc
        refine doff rfl rfl rfl rfl ?_
        refine doff rfl rfl rfl rfl ?_
        refine doff rfl rfl rfl rfl ?_
        refine doff rfl rfl rfl rfl ?_
        refine doff rfl rfl rfl rfl ?_
        refine doff rfl rfl rfl rfl ?_
        refine doff rfl rfl rfl rfl ?_
        refine dv rfl (opv_pick_t rfl rfl) ?_
        refine dv rfl (opv_mv rfl) ?_
        refine doff rfl rfl rfl rfl ?_
        refine doff rfl rfl rfl rfl ?_
        refine doff rfl rfl rfl rfl ?_
        refine dv rfl (opv_pick_t rfl rfl) ?_
        refine dnil ?_
        refine then_normal ?_
        refine ccond rfl (fun _ => ?_) (fun hx => Bool.noConfusion hx)
        refine cseq ?_
        refine cregion ?_
        refine sv rfl (opv_as rfl) ?_
        refine snil ?_
        refine cret ?_
        refine then_ret ?_
        obtain rfl := Option.some.inj h
        refine ⟨Or.inr rfl, _, _, _, (resVs_cons (ResV.tmp _ _ rfl) resVs_nil), (pubA_id rfl), ?_⟩
        rfl
      · replace h := ite_f hc h
        clear hc
        refine dvg rfl rfl rfl (opv_fieldAddr_lp fi32_1 rfl) ?_
        refine dvg rfl rfl rfl (opv_load1 ti30 rfl (.lp _ _ _ rfl) rfl) ?_
        refine dvg rfl rfl rfl (opv_len_sl si30 rfl) ?_
        refine dvg rfl rfl rfl (opv_fieldAddr_lp fi25_1 rfl) ?_
        refine dvg rfl rfl rfl (opv_load1 ti23 rfl (.lp _ _ _ rfl) rfl) ?_
        refine dvg rfl rfl rfl (opv_len_sl si23 rfl) ?_
        refine dvg rfl rfl rfl (opv_ineq rfl rfl) ?_
        refine dv rfl (opv_pick_f rfl rfl) ?_
        refine dv rfl (opv_mv rfl) ?_
        refine dsplit 46 rfl (fun hc => ?_) (fun hc => ?_)
        · replace h := ite_t hc h
          clear hc
          refine doff rfl rfl rfl rfl ?_
          refine doff rfl rfl rfl rfl ?_
          refine doff rfl rfl rfl rfl ?_
          refine dv rfl (opv_pick_t rfl rfl) ?_
          refine dnil ?_
          refine then_normal ?_
          refine ccond rfl (fun _ => ?_) (fun hx => Bool.noConfusion hx)
          refine cseq ?_
          refine cregion ?_
          refine sv rfl (opv_as rfl) ?_
          refine snil ?_
          refine cret ?_
          refine then_ret ?_
          obtain rfl := Option.some.inj h
          refine ⟨Or.inr rfl, _, _, _, (resVs_cons (ResV.tmp _ _ rfl) resVs_nil), (pubA_id rfl), ?_⟩
          rfl
        · replace h := ite_f hc h
          clear hc
          refine dvg rfl rfl rfl (opv_loadN ti32 rfl (.lp _ _ _ rfl) (Nat.le_of_ble_eq_true rfl)) ?_
          obtain ⟨v16, hv16, h⟩ := bind_eq h
          refine ddg rfl rfl rfl (opD_call fn30 (opnds_cons rfl opnds_nil) rfl (m30_net_Sane_c hv16)) ?_
          refine dvg rfl rfl rfl (opv_not rfl) ?_
          refine dv rfl (opv_pick_f rfl rfl) ?_
          refine dnil ?_
          refine then_normal ?_
          refine ccond rfl (fun hc => ?_) (fun hc => ?_)
          · replace h := ite_t hc h
            clear hc
            refine cseq ?_
            refine cregion ?_
            refine sv rfl (opv_as rfl) ?_
            refine snil ?_
            refine cret ?_
            refine then_ret ?_
            obtain rfl := Option.some.inj h
            refine ⟨Or.inr rfl, _, _, _, (resVs_cons (ResV.tmp _ _ rfl) resVs_nil), (pubA_id rfl), ?_⟩
            rfl
          · replace h := ite_f hc h
            clear hc
            refine cskip ?_
            refine then_normal ?_
            exact ⟨(), _, h, ⟨rfl, rfl, rfl, rfl, rfl, trivial⟩, rfl⟩
  · skip
    refine cregion ?_
    refine sv rfl (opv_loadN ti25 rfl (.lp _ _ _ rfl) (Nat.le_of_ble_eq_true rfl)) ?_
    obtain ⟨v17, hv17, h⟩ := bind_eq h
    refine scall1 rfl fn9 (opnds_cons rfl opnds_nil) (pubA_id rfl) (m9_r22_Few_c hv17) ?_
    refine sv rfl (opv_not rfl) ?_
    refine sv rfl (opv_mv rfl) ?_
    refine ssplit 18 rfl (fun hc => ?_) (fun hc => ?_)
    · replace h := ite_t hc h
      clear hc
      refine soff rfl rfl rfl rfl ?_
      refine soff rfl rfl rfl rfl ?_
      refine soff rfl rfl rfl rfl ?_
      refine sv rfl (opv_pick_t rfl rfl) ?_
      refine snil ?_
      refine ccond rfl (fun _ => ?_) (fun hx => Bool.noConfusion hx)
      refine cseq ?_
      refine cregion ?_
      refine sv rfl (opv_mv rfl) ?_
      refine sv rfl (opv_as rfl) ?_
      refine snil ?_
      refine cret ?_
      refine then_ret ?_
      obtain rfl := Option.some.inj h
      refine ⟨Or.inr rfl, _, _, _, (resVs_cons (ResV.tmp _ _ rfl) resVs_nil), (pubA_id rfl), ?_⟩
      rfl
    · replace h := ite_f hc h
      clear hc
      refine son rfl rfl rfl ?_
      refine sv rfl (opv_loadN ti32 rfl (.lp _ _ _ rfl) (Nat.le_of_ble_eq_true rfl)) ?_
      refine son rfl rfl rfl ?_
      obtain ⟨v18, hv18, h⟩ := bind_eq h
      refine scall1 rfl fn30 (opnds_cons rfl opnds_nil) (pubA_id rfl) (m30_net_Sane_c hv18) ?_
      refine son rfl rfl rfl ?_
      refine sv rfl (opv_not rfl) ?_
      refine sv rfl (opv_pick_f rfl rfl) ?_
      refine snil ?_
      refine ccond rfl (fun hc => ?_) (fun hc => ?_)
      · replace h := ite_t hc h
        clear hc
        refine cseq ?_
        refine cregion ?_
        refine sv rfl (opv_mv rfl) ?_
        refine sv rfl (opv_as rfl) ?_
        refine snil ?_
        refine cret ?_
        refine then_ret ?_
        obtain rfl := Option.some.inj h
        refine ⟨Or.inr rfl, _, _, _, (resVs_cons (ResV.tmp _ _ rfl) resVs_nil), (pubA_id rfl), ?_⟩
        rfl
      · replace h := ite_f hc h
        clear hc
        refine cskip ?_
        refine then_normal ?_
        exact ⟨(), _, h, ⟨rfl, rfl, rfl, rfl, rfl, trivial⟩, rfl⟩

def m5_l22_NetTakes_k8 (a1 : Int) (v1 : Bool) (b3 : (List GNetLink) × (List GNetPacket) × Int × (List (List UInt8))) (v6 : GNetNet × GNetPacket × Bool) (b8 : Unit) : Option Bool :=
  (m24_net_Drop (GNetNet.mk b3.1 b3.2.1 b3.2.2.1) ((wI ((BitVec.ofInt 64 a1 &&& BitVec.ofInt 64 65535).toNat : Int)).tmod (b3.2.2.2.length : Int))).bind fun v9 => if v1 then ((m16_l22_theirs v9).bind fun v10 => (m16_l22_theirs v6.1).bind fun v11 => (m15_r22_Same v10 v11).bind fun v12 => if v12 then ((m30_net_Sane v6.1).bind fun v13 => some v13) else (some false)) else (some false)

def m5_l22_NetTakes_k15 (b3 : (List GNetLink) × (List GNetPacket) × Int × (List (List UInt8))) (v6 : GNetNet × GNetPacket × Bool) (s14 : Int) (b15 : Int) : Option (LR (Int) (Unit) (Bool)) :=
  (idx v6.1.Packets s14).bind fun u16 => (idx b3.2.2.2 b15).bind fun u17 => if (!(u16.Bytes == u17)) then (some (.ret false)) else (some (.cont (wI (s14 + 1))))

def m5_l22_NetTakes_s14 (a1 : Int) (b3 : (List GNetLink) × (List GNetPacket) × Int × (List (List UInt8))) (v6 : GNetNet × GNetPacket × Bool) (s14 : Int) : Option (LR (Int) (Unit) (Bool)) :=
  if (decide (s14 < (v6.1.Packets.length : Int))) then (if (decide (((wI ((BitVec.ofInt 64 a1 &&& BitVec.ofInt 64 65535).toNat : Int)).tmod (b3.2.2.2.length : Int)) ≤ s14)) then (m5_l22_NetTakes_k15 b3 v6 s14 (wI (s14 + 1))) else (m5_l22_NetTakes_k15 b3 v6 s14 s14)) else (some (.brk ()))

def m5_l22_NetTakes_k7 (a1 : Int) (v1 : Bool) (b3 : (List GNetLink) × (List GNetPacket) × Int × (List (List UInt8))) (v6 : GNetNet × GNetPacket × Bool) (b7 : Unit) : Option Bool :=
  (iter (m5_l22_NetTakes_s14 a1 b3 v6) fuel 0).bind fun x => match x with | .inl r => some r | .inr e18 => m5_l22_NetTakes_k8 a1 v1 b3 v6 e18

def m5_l22_NetTakes_k4 (a1 : Int) (v1 : Bool) (v2 : GNetNet × Int × Int) (b3 : (List GNetLink) × (List GNetPacket) × Int × (List (List UInt8))) (b4 : Unit) : Option Bool :=
  if (b3.2.2.2.length : Int) ≠ 0 then ((m17_net_Take (GNetNet.mk b3.1 b3.2.1 b3.2.2.1) ((wI ((BitVec.ofInt 64 a1 &&& BitVec.ofInt 64 65535).toNat : Int)).tmod (b3.2.2.2.length : Int))).bind fun v6 => if (!v6.2.2) then (some false) else ((idx b3.2.2.2 ((wI ((BitVec.ofInt 64 a1 &&& BitVec.ofInt 64 65535).toNat : Int)).tmod (b3.2.2.2.length : Int))).bind fun u19 => if (!(v6.2.1.Bytes == u19)) then (some false) else (if (!decide (v6.2.1.Link = v2.2.1)) then (some false) else (if (!decide ((v6.1.Packets.length : Int) = (wI ((b3.2.2.2.length : Int) - 1)))) then (some false) else (m5_l22_NetTakes_k7 a1 v1 b3 v6 ()))))) else none

def m5_l22_NetTakes_k3 (a1 : Int) (v1 : Bool) (v2 : GNetNet × Int × Int) (b3 : (List GNetLink) × (List GNetPacket) × Int × (List (List UInt8))) : Option Bool :=
  if (!decide ((b3.2.1.length : Int) = (b3.2.2.2.length : Int))) then (if v1 then (some (decide ((b3.2.1.length : Int) = (b3.2.2.2.length : Int)))) else (some false)) else (if (decide ((b3.2.2.2.length : Int) = 0)) then (if v1 then (some (decide ((b3.2.1.length : Int) = (b3.2.2.2.length : Int)))) else (some false)) else (m5_l22_NetTakes_k4 a1 v1 v2 b3 ()))

def m5_l22_NetTakes_k24 (a0 : List (List UInt8)) (s20 : Int × (List GNetLink) × (List GNetPacket) × Int × (List (List UInt8))) (v22 : GNetNet × Int) (b24 : Unit) : Option (LR (Int × (List GNetLink) × (List GNetPacket) × Int × (List (List UInt8))) ((List GNetLink) × (List GNetPacket) × Int × (List (List UInt8))) (Bool)) :=
  if (decide (v22.2 = 0)) then ((idx a0 s20.1).bind fun u25 => if (s20.2.2.2.2.length + [u25].length) * 24 ≤ 140737488355328 then (some (.cont ((wI (s20.1 + 1)), v22.1.Links, v22.1.Packets, v22.1.Next, (s20.2.2.2.2 ++ [u25])))) else none) else (some (.cont ((wI (s20.1 + 1)), s20.2.1, s20.2.2.1, s20.2.2.2.1, s20.2.2.2.2)))

def m5_l22_NetTakes_k23 (a0 : List (List UInt8)) (s20 : Int × (List GNetLink) × (List GNetPacket) × Int × (List (List UInt8))) (v22 : GNetNet × Int) (b23 : Bool) : Option (LR (Int × (List GNetLink) × (List GNetPacket) × Int × (List (List UInt8))) ((List GNetLink) × (List GNetPacket) × Int × (List (List UInt8))) (Bool)) :=
  if b23 then (if (!decide (v22.2 = 1)) then (some (.ret false)) else (if (!b23) then (if (decide (64 ≤ (s20.2.2.2.2.length : Int))) then (if (!decide (v22.2 = 8)) then (some (.ret false)) else (if (!b23) then (if (!(decide (64 ≤ (s20.2.2.2.2.length : Int)))) then (if (!decide (v22.2 = 0)) then (some (.ret false)) else (m5_l22_NetTakes_k24 a0 s20 v22 ())) else (m5_l22_NetTakes_k24 a0 s20 v22 ())) else (m5_l22_NetTakes_k24 a0 s20 v22 ()))) else (if (!b23) then (if (!(decide (64 ≤ (s20.2.2.2.2.length : Int)))) then (if (!decide (v22.2 = 0)) then (some (.ret false)) else (m5_l22_NetTakes_k24 a0 s20 v22 ())) else (m5_l22_NetTakes_k24 a0 s20 v22 ())) else (m5_l22_NetTakes_k24 a0 s20 v22 ()))) else (if (!b23) then (if (!(decide (64 ≤ (s20.2.2.2.2.length : Int)))) then (if (!decide (v22.2 = 0)) then (some (.ret false)) else (m5_l22_NetTakes_k24 a0 s20 v22 ())) else (m5_l22_NetTakes_k24 a0 s20 v22 ())) else (m5_l22_NetTakes_k24 a0 s20 v22 ())))) else (if (!b23) then (if (decide (64 ≤ (s20.2.2.2.2.length : Int))) then (if (!decide (v22.2 = 8)) then (some (.ret false)) else (if (!b23) then (if (!(decide (64 ≤ (s20.2.2.2.2.length : Int)))) then (if (!decide (v22.2 = 0)) then (some (.ret false)) else (m5_l22_NetTakes_k24 a0 s20 v22 ())) else (m5_l22_NetTakes_k24 a0 s20 v22 ())) else (m5_l22_NetTakes_k24 a0 s20 v22 ()))) else (if (!b23) then (if (!(decide (64 ≤ (s20.2.2.2.2.length : Int)))) then (if (!decide (v22.2 = 0)) then (some (.ret false)) else (m5_l22_NetTakes_k24 a0 s20 v22 ())) else (m5_l22_NetTakes_k24 a0 s20 v22 ())) else (m5_l22_NetTakes_k24 a0 s20 v22 ()))) else (if (!b23) then (if (!(decide (64 ≤ (s20.2.2.2.2.length : Int)))) then (if (!decide (v22.2 = 0)) then (some (.ret false)) else (m5_l22_NetTakes_k24 a0 s20 v22 ())) else (m5_l22_NetTakes_k24 a0 s20 v22 ())) else (m5_l22_NetTakes_k24 a0 s20 v22 ())))

def m5_l22_NetTakes_s20 (a0 : List (List UInt8)) (v2 : GNetNet × Int × Int) (s20 : Int × (List GNetLink) × (List GNetPacket) × Int × (List (List UInt8))) : Option (LR (Int × (List GNetLink) × (List GNetPacket) × Int × (List (List UInt8))) ((List GNetLink) × (List GNetPacket) × Int × (List (List UInt8))) (Bool)) :=
  if (decide (s20.1 < (a0.length : Int))) then ((idx a0 s20.1).bind fun u21 => (m13_net_Send (GNetNet.mk s20.2.1 s20.2.2.1 s20.2.2.2.1) v2.2.1 (decide ((wI ((BitVec.ofInt 64 s20.1 &&& BitVec.ofInt 64 1).toNat : Int)) = 0)) u21).bind fun v22 => (idx a0 s20.1).bind fun u27 => if (decide ((u27.length : Int) < 1)) then (m5_l22_NetTakes_k23 a0 s20 v22 true) else ((idx a0 s20.1).bind fun u28 => m5_l22_NetTakes_k23 a0 s20 v22 (decide (2048 < (u28.length : Int))))) else (some (.brk (s20.2.1, s20.2.2.1, s20.2.2.2.1, s20.2.2.2.2)))
def m5_l22_NetTakes (a0 : List (List UInt8)) (a1 : Int) : Option Bool :=
  (m8_l22_awake).bind fun v1 => if (decide (70 < (a0.length : Int))) then (some v1) else ((m11_net_Open (GNetNet.mk ([] : List GNetLink) ([] : List GNetPacket) 0) 0 0).bind fun v2 => if (!decide (v2.2.2 = 0)) then (some false) else ((iter (m5_l22_NetTakes_s20 a0 v2) fuel (0, v2.1.Links, v2.1.Packets, v2.1.Next, ([] : List (List UInt8)))).bind fun x => match x with | .inl r => some r | .inr e29 => m5_l22_NetTakes_k3 a1 v1 v2 e29))

set_option maxRecDepth 100000 in
theorem m5_l22_NetTakes_c {a0 : List (List UInt8)} {a1 : Int} {r : Bool} (h : m5_l22_NetTakes a0 a1 = some r) : CallsA Try.prog 5 [.one (.sl a0.length (a0.flatMap (eL eU8))), .one (.i .i64 a1)] (· = .s (.one (.b r))) := by
  unfold m5_l22_NetTakes at h
  refine callsA_of Try.func5 rfl (nt := 210) rfl (Nat.le_of_ble_eq_true rfl) ?_
  intro w0 S0
  refine cseq ?_
  refine cregion ?_
  refine sv rfl (opv_as rfl) ?_
  refine snil ?_
  refine cseq ?_
  refine cregion ?_
  obtain ⟨v1, hv1, h⟩ := bind_eq h
  refine scall1 rfl fn8 opnds_nil (pubA_id rfl) (m8_l22_awake_c hv1) ?_
  refine sv rfl (opv_as rfl) ?_
  refine snil ?_
  refine cseq ?_
  refine cseq ?_
  refine cregion ?_
  refine sv rfl (opv_mv rfl) ?_
  refine sv rfl (opv_len_sl si64 rfl) ?_
  refine sv rfl (opv_gtr rfl rfl) ?_
  refine snil ?_
  refine ccond rfl (fun hc => ?_) (fun hc => ?_)
  · replace h := ite_t hc h
    clear hc
    refine cseq ?_
    refine cregion ?_
    refine sv rfl (opv_mv rfl) ?_
    refine sv rfl (opv_as rfl) ?_
    refine snil ?_
    refine cret ?_
    refine then_ret ?_
    obtain rfl := Option.some.inj h
    refine ⟨Or.inr rfl, _, _, _, (resVs_cons (ResV.tmp _ _ rfl) resVs_nil), (pubA_id rfl), ?_⟩
    rfl
  · replace h := ite_f hc h
    clear hc
    refine cskip ?_
    refine then_normal ?_
    refine cseq ?_
    refine cregion ?_
    refine sv rfl (opv_build zi32 pi32 parts_nil (.nil _)) ?_
    obtain ⟨v2, hv2, h⟩ := bind_eq h
    refine scall1 rfl fn11 (opnds_cons rfl (opnds_cons rfl (opnds_cons rfl opnds_nil))) (pubC rfl) (m11_net_Open_c hv2) ?_
    refine sv rfl (opv_mvt rfl) ?_
    refine sv rfl (opv_extract rfl rfl) ?_
    refine sv rfl (opv_extract rfl rfl) ?_
    refine sv rfl (opv_extract rfl rfl) ?_
    refine salloc rfl zi32 ?_
    refine sstore sz32 rfl rfl rfl rfl (Nat.le_of_ble_eq_true rfl) ?_
    refine smem [.box v2.1] rfl ?_
    refine sv rfl (opv_as rfl) ?_
    refine sv rfl (opv_as rfl) ?_
    refine snil ?_
    refine cseq ?_
    refine cseq ?_
    refine cregion ?_
    refine sv rfl (opv_mv rfl) ?_
    refine sv rfl (opv_ineq rfl rfl) ?_
    refine snil ?_
    refine ccond rfl (fun hc => ?_) (fun hc => ?_)
    · replace h := ite_t hc h
      clear hc
      refine cseq ?_
      refine cregion ?_
      refine sv rfl (opv_as rfl) ?_
      refine snil ?_
      refine cret ?_
      refine then_ret ?_
      obtain rfl := Option.some.inj h
      refine ⟨Or.inr rfl, _, _, _, (resVs_cons (ResV.tmp _ _ rfl) resVs_nil), (pubA_id rfl), ?_⟩
      rfl
    · replace h := ite_f hc h
      clear hc
      refine cskip ?_
      refine then_normal ?_
      refine cseq ?_
      refine cregion ?_
      refine sv rfl (opv_as rfl) ?_
      refine snil ?_
      refine cseq ?_
      refine cseq ?_
      refine cregion ?_
      refine sv rfl (opv_as rfl) ?_
      refine snil ?_
      refine sadopt_c 26 1 9 (by decide) rfl ?_
      refine cjoin ((List GNetLink) × (List GNetPacket) × Int × (List (List UInt8))) (fun b3 => [(1, .s (.one (.i .i64 a1))), (5, .s (.one (.b v1))), (6, .s (.one (.lp 0 0))), (7, .s (.one (.i .i64 v2.2.1))), (9, .s (.one (.ls 1 b3.2.2.2.length)))]) (fun b3 => [.box [.sl b3.1.length (b3.1.flatMap eGNetLink), .sl b3.2.1.length (b3.2.1.flatMap eGNetPacket), .i .i64 b3.2.2.1], .arr 26 1 0 (b3.2.2.2.flatMap (eL eU8))]) (fun b3 => m5_l22_NetTakes_k3 a1 v1 v2 b3 = some r) (fun _ _ => inbL_of rfl) (fun _ _ => blkinb_of rfl) (fun _ _ => Nat.le_of_ble_eq_true rfl) (fun b3 h => ?_) ?_
      · unfold m5_l22_NetTakes_k3 at h
        refine cseq ?_
        refine cseq ?_
        refine cjoin3 (Unit) (fun b4 => [(1, .s (.one (.i .i64 a1))), (5, .s (.one (.b v1))), (6, .s (.one (.lp 0 0))), (7, .s (.one (.i .i64 v2.2.1))), (9, .s (.one (.ls 1 b3.2.2.2.length)))]) (fun b4 => [.box [.sl b3.1.length (b3.1.flatMap eGNetLink), .sl b3.2.1.length (b3.2.1.flatMap eGNetPacket), .i .i64 b3.2.2.1], .arr 26 1 0 (b3.2.2.2.flatMap (eL eU8))]) (fun b4 => m5_l22_NetTakes_k4 a1 v1 v2 b3 b4 = some r) (fun _ _ => inbL_of rfl) (fun _ _ => blkinb_of rfl) (fun _ _ => Nat.le_of_ble_eq_true rfl) (fun b4 h => ?_) ?_
        · unfold m5_l22_NetTakes_k4 at h
          refine cseq ?_
          refine cregion ?_
          refine sv rfl (opv_mv rfl) ?_
          refine sv rfl (opv_and rfl rfl) ?_
          refine sv rfl (opv_mv rfl) ?_
          refine sv rfl (opv_len_ls si64 rfl rfl (flat_len (f := (eL eU8)) (fun _ => rfl) _).symm) ?_
          obtain ⟨hz5, h⟩ := chk_eq h
          refine sv rfl (opv_rem rfl rfl hz5) ?_
          refine sv rfl (opv_as rfl) ?_
          refine snil ?_
          refine cseq ?_
          refine cregion ?_
          refine sv rfl (opv_loadN ti32 rfl (.lp _ _ _ rfl) (Nat.le_of_ble_eq_true rfl)) ?_
          refine sv rfl (opv_mv rfl) ?_
          obtain ⟨v6, hv6, h⟩ := bind_eq h
          refine scall1 rfl fn17 (opnds_cons rfl (opnds_cons rfl opnds_nil)) (pubA_id rfl) (m17_net_Take_c hv6) ?_
          refine sv rfl (opv_mvt rfl) ?_
          refine sv rfl (opv_extract rfl rfl) ?_
          refine sv rfl (opv_extract rfl rfl) ?_
          refine sv rfl (opv_extract rfl rfl) ?_
          refine salloc rfl zi32 ?_
          refine salloc rfl zi46 ?_
          refine sstore sz32 rfl rfl rfl rfl (Nat.le_of_ble_eq_true rfl) ?_
          refine smem [.box [.sl b3.1.length (b3.1.flatMap eGNetLink), .sl b3.2.1.length (b3.2.1.flatMap eGNetPacket), .i .i64 b3.2.2.1], .arr 26 1 0 (b3.2.2.2.flatMap (eL eU8)), .box v6.1, .box [.i .i64 0, .b false, .raw (.slice none 0 0)]] rfl ?_
          refine sstore sz46 rfl rfl rfl rfl (Nat.le_of_ble_eq_true rfl) ?_
          refine smem [.box [.sl b3.1.length (b3.1.flatMap eGNetLink), .sl b3.2.1.length (b3.2.1.flatMap eGNetPacket), .i .i64 b3.2.2.1], .arr 26 1 0 (b3.2.2.2.flatMap (eL eU8)), .box v6.1, .box v6.2.1] rfl ?_
          refine sv rfl (opv_as rfl) ?_
          refine snil ?_
          refine cseq ?_
          refine cseq ?_
          refine cjoin3 (Unit) (fun b7 => [(5, .s (.one (.b v1))), (6, .s (.one (.lp 0 0))), (9, .s (.one (.ls 1 b3.2.2.2.length))), (15, .s (.one (.i .i64 ((wI ((BitVec.ofInt 64 a1 &&& BitVec.ofInt 64 65535).toNat : Int)).tmod (b3.2.2.2.length : Int))))), (16, .s (.one (.lp 2 0)))]) (fun b7 => [.box [.sl b3.1.length (b3.1.flatMap eGNetLink), .sl b3.2.1.length (b3.2.1.flatMap eGNetPacket), .i .i64 b3.2.2.1], .arr 26 1 0 (b3.2.2.2.flatMap (eL eU8)), .box v6.1, .box v6.2.1]) (fun b7 => m5_l22_NetTakes_k7 a1 v1 b3 v6 b7 = some r) (fun _ _ => inbL_of rfl) (fun _ _ => blkinb_of rfl) (fun _ _ => Nat.le_of_ble_eq_true rfl) (fun b7 h => ?_) ?_
          · unfold m5_l22_NetTakes_k7 at h
            refine cseq ?_
            refine cseq ?_
            refine cregion ?_
            refine sv rfl (opv_as rfl) ?_
            refine snil ?_
            refine cjoin (Unit) (fun b8 => [(5, .s (.one (.b v1))), (6, .s (.one (.lp 0 0))), (15, .s (.one (.i .i64 ((wI ((BitVec.ofInt 64 a1 &&& BitVec.ofInt 64 65535).toNat : Int)).tmod (b3.2.2.2.length : Int))))), (16, .s (.one (.lp 2 0)))]) (fun b8 => [.box [.sl b3.1.length (b3.1.flatMap eGNetLink), .sl b3.2.1.length (b3.2.1.flatMap eGNetPacket), .i .i64 b3.2.2.1], .arr 26 1 0 (b3.2.2.2.flatMap (eL eU8)), .box v6.1, .box v6.2.1]) (fun b8 => m5_l22_NetTakes_k8 a1 v1 b3 v6 b8 = some r) (fun _ _ => inbL_of rfl) (fun _ _ => blkinb_of rfl) (fun _ _ => Nat.le_of_ble_eq_true rfl) (fun b8 h => ?_) ?_
            · unfold m5_l22_NetTakes_k8 at h
              refine cseq ?_
              refine cregion ?_
              refine sv rfl (opv_loadN ti32 rfl (.lp _ _ _ rfl) (Nat.le_of_ble_eq_true rfl)) ?_
              refine sv rfl (opv_mv rfl) ?_
              obtain ⟨v9, hv9, h⟩ := bind_eq h
              refine scall1 rfl fn24 (opnds_cons rfl (opnds_cons rfl opnds_nil)) (pubA_id rfl) (m24_net_Drop_c hv9) ?_
              refine salloc rfl zi32 ?_
              refine sstore sz32 rfl rfl rfl rfl (Nat.le_of_ble_eq_true rfl) ?_
              refine smem [.box [.sl b3.1.length (b3.1.flatMap eGNetLink), .sl b3.2.1.length (b3.2.1.flatMap eGNetPacket), .i .i64 b3.2.2.1], .arr 26 1 0 (b3.2.2.2.flatMap (eL eU8)), .box v6.1, .box v6.2.1, .box v9] rfl ?_
              refine snil ?_
              refine cseq ?_
              refine cdraw mixed (by kernel_rfl) ?_
              refine dv rfl (opv_mv rfl) ?_
              refine dv rfl (opv_mv rfl) ?_
              refine dsplit 199 rfl (fun hc => ?_) (fun hc => ?_)
              · replace h := ite_t hc h
                clear hc
                refine dvg rfl rfl rfl (opv_loadN ti32 rfl (.lp _ _ _ rfl) (Nat.le_of_ble_eq_true rfl)) ?_
                obtain ⟨v10, hv10, h⟩ := bind_eq h
                refine ddg rfl rfl rfl (opD_call fn16 (opnds_cons rfl opnds_nil) rfl (m16_l22_theirs_c hv10)) ?_
                refine dvg rfl rfl rfl (opv_loadN ti32 rfl (.lp _ _ _ rfl) (Nat.le_of_ble_eq_true rfl)) ?_
                obtain ⟨v11, hv11, h⟩ := bind_eq h
                refine ddg rfl rfl rfl (opD_call fn16 (opnds_cons rfl opnds_nil) rfl (m16_l22_theirs_c hv11)) ?_
                obtain ⟨v12, hv12, h⟩ := bind_eq h
                refine ddg rfl rfl rfl (opD_call fn15 (opnds_cons rfl (opnds_cons rfl opnds_nil)) rfl (m15_r22_Same_c hv12)) ?_
                refine dv rfl (opv_pick_t rfl rfl) ?_
                refine dv rfl (opv_mv rfl) ?_
                refine dsplit 206 rfl (fun hc => ?_) (fun hc => ?_)
                · replace h := ite_t hc h
                  clear hc
                  refine dvg rfl rfl rfl (opv_loadN ti32 rfl (.lp _ _ _ rfl) (Nat.le_of_ble_eq_true rfl)) ?_
                  obtain ⟨v13, hv13, h⟩ := bind_eq h
                  refine ddg rfl rfl rfl (opD_call fn30 (opnds_cons rfl opnds_nil) rfl (m30_net_Sane_c hv13)) ?_
                  refine dv rfl (opv_pick_t rfl rfl) ?_
                  refine dv rfl (opv_as rfl) ?_
                  refine dnil ?_
                  refine then_normal ?_
                  refine cret ?_
                  obtain rfl := Option.some.inj h
                  refine ⟨Or.inr rfl, _, _, _, (resVs_cons (ResV.tmp _ _ rfl) resVs_nil), (pubA_id rfl), ?_⟩
                  rfl
                · replace h := ite_f hc h
                  clear hc
                  refine doff rfl rfl rfl rfl ?_
                  refine doff rfl rfl rfl rfl ?_
                  refine dv rfl (opv_pick_f rfl rfl) ?_
                  refine dv rfl (opv_as rfl) ?_
                  refine dnil ?_
                  refine then_normal ?_
                  refine cret ?_
                  obtain rfl := Option.some.inj h
                  refine ⟨Or.inr rfl, _, _, _, (resVs_cons (ResV.tmp _ _ rfl) resVs_nil), (pubA_id rfl), ?_⟩
                  rfl
              · replace h := ite_f hc h
                clear hc
                refine doff rfl rfl rfl rfl ?_
                refine doff rfl rfl rfl rfl ?_
                refine doff rfl rfl rfl rfl ?_
                refine doff rfl rfl rfl rfl ?_
                refine doff rfl rfl rfl rfl ?_
                refine dv rfl (opv_pick_f rfl rfl) ?_
                refine dv rfl (opv_mv rfl) ?_
                refine doff rfl rfl rfl rfl ?_
                refine doff rfl rfl rfl rfl ?_
                refine dv rfl (opv_pick_f rfl rfl) ?_
                refine dv rfl (opv_as rfl) ?_
                refine dnil ?_
                refine then_normal ?_
                refine cret ?_
                obtain rfl := Option.some.inj h
                refine ⟨Or.inr rfl, _, _, _, (resVs_cons (ResV.tmp _ _ rfl) resVs_nil), (pubA_id rfl), ?_⟩
                rfl
            · skip
              refine cblock ?_
              obtain ⟨x14, hx14, ho14⟩ := bind_eq h
              refine awc_loop (G := Nat × (Int)) (fun g => [(5, .s (.one (.b v1))), (6, .s (.one (.lp 0 0))), (9, .s (.one (.ls 1 b3.2.2.2.length))), (15, .s (.one (.i .i64 ((wI ((BitVec.ofInt 64 a1 &&& BitVec.ofInt 64 65535).toNat : Int)).tmod (b3.2.2.2.length : Int))))), (16, .s (.one (.lp 2 0))), (19, .s (.one (.i .i64 g.2)))]) (fun g => [.box [.sl b3.1.length (b3.1.flatMap eGNetLink), .sl b3.2.1.length (b3.2.1.flatMap eGNetPacket), .i .i64 b3.2.2.1], .arr 26 1 0 (b3.2.2.2.flatMap (eL eU8)), .box v6.1, .box v6.2.1]) (fun g => iter (m5_l22_NetTakes_s14 a1 b3 v6) g.1 g.2 = some x14) (fun g => g.1) (fuel, 0) hx14 ⟨rfl, rfl, rfl, rfl, rfl, rfl, trivial⟩ [] rfl (fun _ _ => inbL_of rfl) (fun _ _ => blkinb_of rfl) (fun _ _ => Nat.le_of_ble_eq_true rfl) ?_
              clear hx14 h
              rintro ⟨n14, s14⟩ h
              obtain ⟨n14, y14, rfl, h, hk14⟩ := iter_eq h
              unfold m5_l22_NetTakes_s14 at h
              refine cseq ?_
              refine cseq ?_
              refine cregion ?_
              refine sv rfl (opv_mv rfl) ?_
              refine sv rfl (opv_fieldAddr_lp fi32_1 rfl) ?_
              refine sv rfl (opv_load1 ti30 rfl (.lp _ _ _ rfl) rfl) ?_
              refine sv rfl (opv_len_sl si30 rfl) ?_
              refine sv rfl (opv_lss rfl rfl) ?_
              refine snil ?_
              refine ccond rfl (fun hc => ?_) (fun hc => ?_)
              · replace h := ite_t hc h
                clear hc
                refine cskip ?_
                refine then_normal ?_
                refine cseq ?_
                refine cblock ?_
                refine cseq ?_
                refine cregion ?_
                refine sv rfl (opv_mv rfl) ?_
                refine sv rfl (opv_as rfl) ?_
                refine snil ?_
                refine cseq ?_
                refine cseq ?_
                refine cregion ?_
                refine sv rfl (opv_mv rfl) ?_
                refine sv rfl (opv_mv rfl) ?_
                refine sv rfl (opv_geq rfl rfl) ?_
                refine snil ?_
                refine cjoin (Int) (fun b15 => [(5, .s (.one (.b v1))), (6, .s (.one (.lp 0 0))), (9, .s (.one (.ls 1 b3.2.2.2.length))), (15, .s (.one (.i .i64 ((wI ((BitVec.ofInt 64 a1 &&& BitVec.ofInt 64 65535).toNat : Int)).tmod (b3.2.2.2.length : Int))))), (16, .s (.one (.lp 2 0))), (19, .s (.one (.i .i64 s14))), (20, .s (.one (.i .i64 b15)))]) (fun b15 => [.box [.sl b3.1.length (b3.1.flatMap eGNetLink), .sl b3.2.1.length (b3.2.1.flatMap eGNetPacket), .i .i64 b3.2.2.1], .arr 26 1 0 (b3.2.2.2.flatMap (eL eU8)), .box v6.1, .box v6.2.1]) (fun b15 => m5_l22_NetTakes_k15 b3 v6 s14 b15 = some y14) (fun _ _ => inbL_of rfl) (fun _ _ => blkinb_of rfl) (fun _ _ => Nat.le_of_ble_eq_true rfl) (fun b15 h => ?_) ?_
                · unfold m5_l22_NetTakes_k15 at h
                  refine cseq ?_
                  refine cdraw mixed (by kernel_rfl) ?_
                  refine dv rfl (opv_fieldAddr_lp fi32_1 rfl) ?_
                  refine dv rfl (opv_load1 ti30 rfl (.lp _ _ _ rfl) rfl) ?_
                  refine dv rfl (opv_mv rfl) ?_
                  obtain ⟨u16, hu16, h⟩ := bind_eq h
                  refine dv rfl (opv_ix (f := eGNetPacket) si30 (fun _ => rfl) rfl rfl rfl rfl hu16) ?_
                  refine dv rfl (opv_fieldAddr_cp fi46_2 rfl) ?_
                  refine dv rfl (opv_load1 ti26 rfl (.cp _) rfl) ?_
                  refine dv rfl (opv_bs (l := u16.Bytes) Try.underlying26 Try.underlying5 Try.underlying9 rfl rfl rfl) ?_
                  refine dv rfl (opv_mv rfl) ?_
                  refine dv rfl (opv_mv rfl) ?_
                  obtain ⟨u17, hu17, h⟩ := bind_eq h
                  refine dv rfl (opv_ixo (f := (eL eU8)) si64 (fun _ => rfl) rfl rfl rfl rfl rfl hu17) ?_
                  refine dv rfl (opv_ld1o (f := (eL eU8)) 0 ti26 (fun _ => rfl) rfl rfl rfl rfl (idx_eq hu17).2 rfl) ?_
                  refine dv rfl (opv_bs (l := u17) Try.underlying26 Try.underlying5 Try.underlying9 rfl rfl rfl) ?_
                  refine dv rfl (opv_sneq' rfl rfl) ?_
                  refine dnil ?_
                  refine then_normal ?_
                  refine ccond rfl (fun hc => ?_) (fun hc => ?_)
                  · replace h := ite_t hc h
                    clear hc
                    refine cseq ?_
                    refine cregion ?_
                    refine sv rfl (opv_as rfl) ?_
                    refine snil ?_
                    refine cret ?_
                    refine block_ret ?_
                    refine then_ret ?_
                    refine then_ret ?_
                    refine block_ret ?_
                    refine then_ret ?_
                    obtain rfl := Option.some.inj h
                    obtain rfl : Sum.inl _ = x14 := hk14
                    replace ho14 : some _ = some _ := ho14
                    obtain rfl := Option.some.inj ho14
                    refine ⟨Or.inr rfl, _, _, _, (resVs_cons (ResV.tmp _ _ rfl) resVs_nil), (pubA_id rfl), ?_⟩
                    rfl
                  · replace h := ite_f hc h
                    clear hc
                    refine cskip ?_
                    refine block_normal ?_
                    refine then_normal ?_
                    refine cregion ?_
                    refine sv rfl (opv_mv rfl) ?_
                    refine sv rfl (opv_add rfl rfl) ?_
                    refine sv rfl (opv_as rfl) ?_
                    refine snil ?_
                    obtain rfl := Option.some.inj h
                    exact ⟨(n14, (wI (s14 + 1))), _, hk14, ⟨rfl, rfl, rfl, rfl, rfl, rfl, trivial⟩, rfl, Nat.lt_succ_self _⟩
                · skip
                  refine ccond rfl (fun hc => ?_) (fun hc => ?_)
                  · replace h := ite_t hc h
                    clear hc
                    refine cregion ?_
                    refine sv rfl (opv_mv rfl) ?_
                    refine sv rfl (opv_add rfl rfl) ?_
                    refine sv rfl (opv_as rfl) ?_
                    refine snil ?_
                    exact ⟨(wI (s14 + 1)), _, h, ⟨rfl, rfl, rfl, rfl, rfl, rfl, rfl, trivial⟩, rfl⟩
                  · replace h := ite_f hc h
                    clear hc
                    refine cskip ?_
                    refine then_normal ?_
                    exact ⟨s14, _, h, ⟨rfl, rfl, rfl, rfl, rfl, rfl, rfl, trivial⟩, rfl⟩
              · replace h := ite_f hc h
                clear hc
                refine cexit ?_
                refine then_exit ?_
                refine then_exit ?_
                refine block_hit ?_
                refine then_normal ?_
                obtain rfl := Option.some.inj h
                obtain rfl : _ = x14 := hk14
                exact ⟨(), _, ho14, ⟨rfl, rfl, rfl, rfl, trivial⟩, rfl⟩
          · skip
            refine cdraw mixed (by kernel_rfl) ?_
            refine dv rfl (opv_mv rfl) ?_
            refine dv rfl (opv_not rfl) ?_
            refine dv rfl (opv_mv rfl) ?_
            refine dsplit 143 rfl (fun hc => ?_) (fun hc => ?_)
            · replace h := ite_t hc h
              clear hc
              refine doff rfl rfl rfl rfl ?_
              refine doff rfl rfl rfl rfl ?_
              refine doff rfl rfl rfl rfl ?_
              refine doff rfl rfl rfl rfl ?_
              refine doff rfl rfl rfl rfl ?_
              refine doff rfl rfl rfl rfl ?_
              refine doff rfl rfl rfl rfl ?_
              refine doff rfl rfl rfl rfl ?_
              refine doff rfl rfl rfl rfl ?_
              refine dv rfl (opv_pick_t rfl rfl) ?_
              refine dv rfl (opv_mv rfl) ?_
              refine doff rfl rfl rfl rfl ?_
              refine doff rfl rfl rfl rfl ?_
              refine doff rfl rfl rfl rfl ?_
              refine doff rfl rfl rfl rfl ?_
              refine dv rfl (opv_pick_t rfl rfl) ?_
              refine dv rfl (opv_mv rfl) ?_
              refine doff rfl rfl rfl rfl ?_
              refine doff rfl rfl rfl rfl ?_
              refine doff rfl rfl rfl rfl ?_
              refine doff rfl rfl rfl rfl ?_
              refine doff rfl rfl rfl rfl ?_
              refine doff rfl rfl rfl rfl ?_
              refine doff rfl rfl rfl rfl ?_
              refine dv rfl (opv_pick_t rfl rfl) ?_
              refine dnil ?_
              refine then_normal ?_
              refine ccond rfl (fun _ => ?_) (fun hx => Bool.noConfusion hx)
              refine cseq ?_
              refine cregion ?_
              refine sv rfl (opv_as rfl) ?_
              refine snil ?_
              refine cret ?_
              refine then_ret ?_
              obtain rfl := Option.some.inj h
              refine ⟨Or.inr rfl, _, _, _, (resVs_cons (ResV.tmp _ _ rfl) resVs_nil), (pubA_id rfl), ?_⟩
              rfl
            · replace h := ite_f hc h
              clear hc
              refine dvg rfl rfl rfl (opv_fieldAddr_lp fi46_2 rfl) ?_
              refine dvg rfl rfl rfl (opv_load1 ti26 rfl (.lp _ _ _ rfl) rfl) ?_
              refine dvg rfl rfl rfl (opv_bs (l := v6.2.1.Bytes) Try.underlying26 Try.underlying5 Try.underlying9 rfl rfl rfl) ?_
              refine dvg rfl rfl rfl (opv_mv rfl) ?_
              refine dvg rfl rfl rfl (opv_mv rfl) ?_
              obtain ⟨u19, hu19, h⟩ := bind_eq h
              refine dvg rfl rfl rfl (opv_ixo (f := (eL eU8)) si64 (fun _ => rfl) rfl rfl rfl rfl rfl hu19) ?_
              refine dvg rfl rfl rfl (opv_ld1o (f := (eL eU8)) 0 ti26 (fun _ => rfl) rfl rfl rfl rfl (idx_eq hu19).2 rfl) ?_
              refine dvg rfl rfl rfl (opv_bs (l := u19) Try.underlying26 Try.underlying5 Try.underlying9 rfl rfl rfl) ?_
              refine dvg rfl rfl rfl (opv_sneq' rfl rfl) ?_
              refine dv rfl (opv_pick_f rfl rfl) ?_
              refine dv rfl (opv_mv rfl) ?_
              refine dsplit 154 rfl (fun hc => ?_) (fun hc => ?_)
              · replace h := ite_t hc h
                clear hc
                refine doff rfl rfl rfl rfl ?_
                refine doff rfl rfl rfl rfl ?_
                refine doff rfl rfl rfl rfl ?_
                refine doff rfl rfl rfl rfl ?_
                refine dv rfl (opv_pick_t rfl rfl) ?_
                refine dv rfl (opv_mv rfl) ?_
                refine doff rfl rfl rfl rfl ?_
                refine doff rfl rfl rfl rfl ?_
                refine doff rfl rfl rfl rfl ?_
                refine doff rfl rfl rfl rfl ?_
                refine doff rfl rfl rfl rfl ?_
                refine doff rfl rfl rfl rfl ?_
                refine doff rfl rfl rfl rfl ?_
                refine dv rfl (opv_pick_t rfl rfl) ?_
                refine dnil ?_
                refine then_normal ?_
                refine ccond rfl (fun _ => ?_) (fun hx => Bool.noConfusion hx)
                refine cseq ?_
                refine cregion ?_
                refine sv rfl (opv_as rfl) ?_
                refine snil ?_
                refine cret ?_
                refine then_ret ?_
                obtain rfl := Option.some.inj h
                refine ⟨Or.inr rfl, _, _, _, (resVs_cons (ResV.tmp _ _ rfl) resVs_nil), (pubA_id rfl), ?_⟩
                rfl
              · replace h := ite_f hc h
                clear hc
                refine dvg rfl rfl rfl (opv_fieldAddr_lp fi46_0 rfl) ?_
                refine dvg rfl rfl rfl (opv_load1 ti3 rfl (.lp _ _ _ rfl) rfl) ?_
                refine dvg rfl rfl rfl (opv_mv rfl) ?_
                refine dvg rfl rfl rfl (opv_ineq rfl rfl) ?_
                refine dv rfl (opv_pick_f rfl rfl) ?_
                refine dv rfl (opv_mv rfl) ?_
                refine dsplit 160 rfl (fun hc => ?_) (fun hc => ?_)
                · replace h := ite_t hc h
                  clear hc
                  refine doff rfl rfl rfl rfl ?_
                  refine doff rfl rfl rfl rfl ?_
                  refine doff rfl rfl rfl rfl ?_
                  refine doff rfl rfl rfl rfl ?_
                  refine doff rfl rfl rfl rfl ?_
                  refine doff rfl rfl rfl rfl ?_
                  refine doff rfl rfl rfl rfl ?_
                  refine dv rfl (opv_pick_t rfl rfl) ?_
                  refine dnil ?_
                  refine then_normal ?_
                  refine ccond rfl (fun _ => ?_) (fun hx => Bool.noConfusion hx)
                  refine cseq ?_
                  refine cregion ?_
                  refine sv rfl (opv_as rfl) ?_
                  refine snil ?_
                  refine cret ?_
                  refine then_ret ?_
                  obtain rfl := Option.some.inj h
                  refine ⟨Or.inr rfl, _, _, _, (resVs_cons (ResV.tmp _ _ rfl) resVs_nil), (pubA_id rfl), ?_⟩
                  rfl
                · replace h := ite_f hc h
                  clear hc
                  refine dvg rfl rfl rfl (opv_fieldAddr_lp fi32_1 rfl) ?_
                  refine dvg rfl rfl rfl (opv_load1 ti30 rfl (.lp _ _ _ rfl) rfl) ?_
                  refine dvg rfl rfl rfl (opv_len_sl si30 rfl) ?_
                  refine dvg rfl rfl rfl (opv_mv rfl) ?_
                  refine dvg rfl rfl rfl (opv_len_ls si64 rfl rfl (flat_len (f := (eL eU8)) (fun _ => rfl) _).symm) ?_
                  refine dvg rfl rfl rfl (opv_sub rfl rfl) ?_
                  refine dvg rfl rfl rfl (opv_ineq rfl rfl) ?_
                  refine dv rfl (opv_pick_f rfl rfl) ?_
                  refine dnil ?_
                  refine then_normal ?_
                  refine ccond rfl (fun hc => ?_) (fun hc => ?_)
                  · replace h := ite_t hc h
                    clear hc
                    refine cseq ?_
                    refine cregion ?_
                    refine sv rfl (opv_as rfl) ?_
                    refine snil ?_
                    refine cret ?_
                    refine then_ret ?_
                    obtain rfl := Option.some.inj h
                    refine ⟨Or.inr rfl, _, _, _, (resVs_cons (ResV.tmp _ _ rfl) resVs_nil), (pubA_id rfl), ?_⟩
                    rfl
                  · replace h := ite_f hc h
                    clear hc
                    refine cskip ?_
                    refine then_normal ?_
                    exact ⟨(), _, h, ⟨rfl, rfl, rfl, rfl, rfl, trivial⟩, rfl⟩
        · skip
          refine cregion ?_
          refine sv rfl (opv_fieldAddr_lp fi32_1 rfl) ?_
          refine sv rfl (opv_load1 ti30 rfl (.lp _ _ _ rfl) rfl) ?_
          refine sv rfl (opv_len_sl si30 rfl) ?_
          refine sv rfl (opv_mv rfl) ?_
          refine sv rfl (opv_len_ls si64 rfl rfl (flat_len (f := (eL eU8)) (fun _ => rfl) _).symm) ?_
          refine sv rfl (opv_ineq rfl rfl) ?_
          refine sv rfl (opv_mv rfl) ?_
          refine ssplit 115 rfl (fun hc => ?_) (fun hc => ?_)
          · replace h := ite_t hc h
            clear hc
            refine soff rfl rfl rfl rfl ?_
            refine soff rfl rfl rfl rfl ?_
            refine soff rfl rfl rfl rfl ?_
            refine sv rfl (opv_pick_t rfl rfl) ?_
            refine snil ?_
            refine ccond rfl (fun _ => ?_) (fun hx => Bool.noConfusion hx)
            refine cseq ?_
            refine cregion ?_
            refine sv rfl (opv_mv rfl) ?_
            refine sv rfl (opv_mv rfl) ?_
            refine ssplit 121 rfl (fun hc => ?_) (fun hc => ?_)
            · replace h := ite_t hc h
              clear hc
              refine son rfl rfl rfl ?_
              refine sv rfl (opv_fieldAddr_lp fi32_1 rfl) ?_
              refine son rfl rfl rfl ?_
              refine sv rfl (opv_load1 ti30 rfl (.lp _ _ _ rfl) rfl) ?_
              refine son rfl rfl rfl ?_
              refine sv rfl (opv_len_sl si30 rfl) ?_
              refine son rfl rfl rfl ?_
              refine sv rfl (opv_mv rfl) ?_
              refine son rfl rfl rfl ?_
              refine sv rfl (opv_len_ls si64 rfl rfl (flat_len (f := (eL eU8)) (fun _ => rfl) _).symm) ?_
              refine son rfl rfl rfl ?_
              refine sv rfl (opv_ieql rfl rfl) ?_
              refine sv rfl (opv_pick_t rfl rfl) ?_
              refine sv rfl (opv_as rfl) ?_
              refine snil ?_
              refine cret ?_
              refine then_ret ?_
              obtain rfl := Option.some.inj h
              refine ⟨Or.inr rfl, _, _, _, (resVs_cons (ResV.tmp _ _ rfl) resVs_nil), (pubA_id rfl), ?_⟩
              rfl
            · replace h := ite_f hc h
              clear hc
              refine soff rfl rfl rfl rfl ?_
              refine soff rfl rfl rfl rfl ?_
              refine soff rfl rfl rfl rfl ?_
              refine soff rfl rfl rfl rfl ?_
              refine soff rfl rfl rfl rfl ?_
              refine soff rfl rfl rfl rfl ?_
              refine sv rfl (opv_pick_f rfl rfl) ?_
              refine sv rfl (opv_as rfl) ?_
              refine snil ?_
              refine cret ?_
              refine then_ret ?_
              obtain rfl := Option.some.inj h
              refine ⟨Or.inr rfl, _, _, _, (resVs_cons (ResV.tmp _ _ rfl) resVs_nil), (pubA_id rfl), ?_⟩
              rfl
          · replace h := ite_f hc h
            clear hc
            refine son rfl rfl rfl ?_
            refine sv rfl (opv_mv rfl) ?_
            refine son rfl rfl rfl ?_
            refine sv rfl (opv_len_ls si64 rfl rfl (flat_len (f := (eL eU8)) (fun _ => rfl) _).symm) ?_
            refine son rfl rfl rfl ?_
            refine sv rfl (opv_ieql rfl rfl) ?_
            refine sv rfl (opv_pick_f rfl rfl) ?_
            refine snil ?_
            refine ccond rfl (fun hc => ?_) (fun hc => ?_)
            · replace h := ite_t hc h
              clear hc
              refine cseq ?_
              refine cregion ?_
              refine sv rfl (opv_mv rfl) ?_
              refine sv rfl (opv_mv rfl) ?_
              refine ssplit 121 rfl (fun hc => ?_) (fun hc => ?_)
              · replace h := ite_t hc h
                clear hc
                refine son rfl rfl rfl ?_
                refine sv rfl (opv_fieldAddr_lp fi32_1 rfl) ?_
                refine son rfl rfl rfl ?_
                refine sv rfl (opv_load1 ti30 rfl (.lp _ _ _ rfl) rfl) ?_
                refine son rfl rfl rfl ?_
                refine sv rfl (opv_len_sl si30 rfl) ?_
                refine son rfl rfl rfl ?_
                refine sv rfl (opv_mv rfl) ?_
                refine son rfl rfl rfl ?_
                refine sv rfl (opv_len_ls si64 rfl rfl (flat_len (f := (eL eU8)) (fun _ => rfl) _).symm) ?_
                refine son rfl rfl rfl ?_
                refine sv rfl (opv_ieql rfl rfl) ?_
                refine sv rfl (opv_pick_t rfl rfl) ?_
                refine sv rfl (opv_as rfl) ?_
                refine snil ?_
                refine cret ?_
                refine then_ret ?_
                obtain rfl := Option.some.inj h
                refine ⟨Or.inr rfl, _, _, _, (resVs_cons (ResV.tmp _ _ rfl) resVs_nil), (pubA_id rfl), ?_⟩
                rfl
              · replace h := ite_f hc h
                clear hc
                refine soff rfl rfl rfl rfl ?_
                refine soff rfl rfl rfl rfl ?_
                refine soff rfl rfl rfl rfl ?_
                refine soff rfl rfl rfl rfl ?_
                refine soff rfl rfl rfl rfl ?_
                refine soff rfl rfl rfl rfl ?_
                refine sv rfl (opv_pick_f rfl rfl) ?_
                refine sv rfl (opv_as rfl) ?_
                refine snil ?_
                refine cret ?_
                refine then_ret ?_
                obtain rfl := Option.some.inj h
                refine ⟨Or.inr rfl, _, _, _, (resVs_cons (ResV.tmp _ _ rfl) resVs_nil), (pubA_id rfl), ?_⟩
                rfl
            · replace h := ite_f hc h
              clear hc
              refine cskip ?_
              refine then_normal ?_
              exact ⟨(), _, h, ⟨rfl, rfl, rfl, rfl, rfl, trivial⟩, rfl⟩
      · skip
        refine cblock ?_
        obtain ⟨x20, hx20, ho20⟩ := bind_eq h
        refine awc_loop (G := Nat × (Int × (List GNetLink) × (List GNetPacket) × Int × (List (List UInt8)))) (fun g => [(0, .s (.one (.sl a0.length (a0.flatMap (eL eU8))))), (1, .s (.one (.i .i64 a1))), (5, .s (.one (.b v1))), (6, .s (.one (.lp 0 0))), (7, .s (.one (.i .i64 v2.2.1))), (9, .s (.one (.ls 1 g.2.2.2.2.2.length))), (10, .s (.one (.i .i64 g.2.1)))]) (fun g => [.box [.sl g.2.2.1.length (g.2.2.1.flatMap eGNetLink), .sl g.2.2.2.1.length (g.2.2.2.1.flatMap eGNetPacket), .i .i64 g.2.2.2.2.1], .arr 26 1 0 (g.2.2.2.2.2.flatMap (eL eU8))]) (fun g => iter (m5_l22_NetTakes_s20 a0 v2) g.1 g.2 = some x20) (fun g => g.1) (fuel, (0, v2.1.Links, v2.1.Packets, v2.1.Next, ([] : List (List UInt8)))) hx20 ⟨rfl, rfl, rfl, rfl, rfl, rfl, rfl, trivial⟩ [] rfl (fun _ _ => inbL_of rfl) (fun _ _ => blkinb_of rfl) (fun _ _ => Nat.le_of_ble_eq_true rfl) ?_
        clear hx20 h
        rintro ⟨n20, s20⟩ h
        obtain ⟨n20, y20, rfl, h, hk20⟩ := iter_eq h
        unfold m5_l22_NetTakes_s20 at h
        refine cseq ?_
        refine cseq ?_
        refine cregion ?_
        refine sv rfl (opv_mv rfl) ?_
        refine sv rfl (opv_mv rfl) ?_
        refine sv rfl (opv_len_sl si64 rfl) ?_
        refine sv rfl (opv_lss rfl rfl) ?_
        refine snil ?_
        refine ccond rfl (fun hc => ?_) (fun hc => ?_)
        · replace h := ite_t hc h
          clear hc
          refine cskip ?_
          refine then_normal ?_
          refine cseq ?_
          refine cblock ?_
          refine cseq ?_
          refine chole ?_
          obtain ⟨u21, hu21, h⟩ := bind_eq h
          obtain ⟨v22, hv22, h⟩ := bind_eq h
          refine cdraw_e [13, 14] [0, 0, 0, 4, 12, 0, 0, 96, 224, 511, 1023, 2047, 2047, 0, 12287, 32767] [[.box [.sl s20.2.1.length (s20.2.1.flatMap eGNetLink), .sl s20.2.2.1.length (s20.2.2.1.flatMap eGNetPacket), .i .i64 s20.2.2.2.1], .arr 26 1 0 (s20.2.2.2.2.flatMap (eL eU8)), .hole], [.box [.sl s20.2.1.length (s20.2.1.flatMap eGNetLink), .sl s20.2.2.1.length (s20.2.2.1.flatMap eGNetPacket), .i .i64 s20.2.2.2.1], .arr 26 1 0 (s20.2.2.2.2.flatMap (eL eU8)), .box [.raw (.slice none 0 0), .raw (.slice none 0 0), .i .i64 0]], [.box [.sl s20.2.1.length (s20.2.1.flatMap eGNetLink), .sl s20.2.2.1.length (s20.2.2.1.flatMap eGNetPacket), .i .i64 s20.2.2.2.1], .arr 26 1 0 (s20.2.2.2.2.flatMap (eL eU8)), .box v22.1]] (by kernel_rfl) mixed (by kernel_rfl) (by decide) rfl rfl rfl rfl ?_
          refine ev (sees_all (md := [.box [.sl s20.2.1.length (s20.2.1.flatMap eGNetLink), .sl s20.2.2.1.length (s20.2.2.1.flatMap eGNetPacket), .i .i64 s20.2.2.2.1], .arr 26 1 0 (s20.2.2.2.2.flatMap (eL eU8)), .dead]) ⟨⟨rfl, ⟨rfl, ⟨trivial, trivial⟩⟩⟩, ⟨⟨rfl, ⟨rfl, ⟨trivial, trivial⟩⟩⟩, ⟨⟨rfl, ⟨rfl, ⟨trivial, trivial⟩⟩⟩, trivial⟩⟩⟩) rfl rfl (opv_loadN ti32 rfl (.lp _ _ _ rfl) (Nat.le_of_ble_eq_true rfl)) ?_
          refine emv rfl rfl (fun _ => opv_mv rfl) ?_
          refine emv rfl rfl (fun _ => opv_mv rfl) ?_
          refine ev (sees_all (md := [.box [.sl s20.2.1.length (s20.2.1.flatMap eGNetLink), .sl s20.2.2.1.length (s20.2.2.1.flatMap eGNetPacket), .i .i64 s20.2.2.2.1], .arr 26 1 0 (s20.2.2.2.2.flatMap (eL eU8)), .dead]) ⟨⟨rfl, ⟨rfl, ⟨trivial, trivial⟩⟩⟩, ⟨⟨rfl, ⟨rfl, ⟨trivial, trivial⟩⟩⟩, ⟨⟨rfl, ⟨rfl, ⟨trivial, trivial⟩⟩⟩, trivial⟩⟩⟩) rfl rfl (opv_and rfl rfl) ?_
          refine ev (sees_all (md := [.box [.sl s20.2.1.length (s20.2.1.flatMap eGNetLink), .sl s20.2.2.1.length (s20.2.2.1.flatMap eGNetPacket), .i .i64 s20.2.2.2.1], .arr 26 1 0 (s20.2.2.2.2.flatMap (eL eU8)), .dead]) ⟨⟨rfl, ⟨rfl, ⟨trivial, trivial⟩⟩⟩, ⟨⟨rfl, ⟨rfl, ⟨trivial, trivial⟩⟩⟩, ⟨⟨rfl, ⟨rfl, ⟨trivial, trivial⟩⟩⟩, trivial⟩⟩⟩) rfl rfl (opv_ieql rfl rfl) ?_
          refine emv rfl rfl (fun _ => opv_mv rfl) ?_
          refine emv rfl rfl (fun _ => opv_mv rfl) ?_
          refine ev (sees_all (md := [.box [.sl s20.2.1.length (s20.2.1.flatMap eGNetLink), .sl s20.2.2.1.length (s20.2.2.1.flatMap eGNetPacket), .i .i64 s20.2.2.2.1], .arr 26 1 0 (s20.2.2.2.2.flatMap (eL eU8)), .dead]) ⟨⟨rfl, ⟨rfl, ⟨trivial, trivial⟩⟩⟩, ⟨⟨rfl, ⟨rfl, ⟨trivial, trivial⟩⟩⟩, ⟨⟨rfl, ⟨rfl, ⟨trivial, trivial⟩⟩⟩, trivial⟩⟩⟩) rfl rfl (opv_ix (f := (eL eU8)) si64 (fun _ => rfl) rfl rfl rfl rfl hu21) ?_
          refine ev (sees_all (md := [.box [.sl s20.2.1.length (s20.2.1.flatMap eGNetLink), .sl s20.2.2.1.length (s20.2.2.1.flatMap eGNetPacket), .i .i64 s20.2.2.2.1], .arr 26 1 0 (s20.2.2.2.2.flatMap (eL eU8)), .dead]) ⟨⟨rfl, ⟨rfl, ⟨trivial, trivial⟩⟩⟩, ⟨⟨rfl, ⟨rfl, ⟨trivial, trivial⟩⟩⟩, ⟨⟨rfl, ⟨rfl, ⟨trivial, trivial⟩⟩⟩, trivial⟩⟩⟩) rfl rfl (opv_load1 ti26 rfl (.cp _) rfl) ?_
          refine ed (sees_all (md := [.box [.sl s20.2.1.length (s20.2.1.flatMap eGNetLink), .sl s20.2.2.1.length (s20.2.2.1.flatMap eGNetPacket), .i .i64 s20.2.2.2.1], .arr 26 1 0 (s20.2.2.2.2.flatMap (eL eU8)), .dead]) ⟨⟨rfl, ⟨rfl, ⟨trivial, trivial⟩⟩⟩, ⟨⟨rfl, ⟨rfl, ⟨trivial, trivial⟩⟩⟩, ⟨⟨rfl, ⟨rfl, ⟨trivial, trivial⟩⟩⟩, trivial⟩⟩⟩) rfl rfl (opD_call fn13 (opnds_cons rfl (opnds_cons rfl (opnds_cons rfl (opnds_cons rfl opnds_nil)))) rfl (m13_net_Send_c hv22)) ?_
          refine emv rfl rfl (fun _ => opv_mvt rfl) ?_
          refine ev (sees_all (md := [.box [.sl s20.2.1.length (s20.2.1.flatMap eGNetLink), .sl s20.2.2.1.length (s20.2.2.1.flatMap eGNetPacket), .i .i64 s20.2.2.2.1], .arr 26 1 0 (s20.2.2.2.2.flatMap (eL eU8)), .dead]) ⟨⟨rfl, ⟨rfl, ⟨trivial, trivial⟩⟩⟩, ⟨⟨rfl, ⟨rfl, ⟨trivial, trivial⟩⟩⟩, ⟨⟨rfl, ⟨rfl, ⟨trivial, trivial⟩⟩⟩, trivial⟩⟩⟩) rfl rfl (opv_extract rfl rfl) ?_
          refine ev (sees_all (md := [.box [.sl s20.2.1.length (s20.2.1.flatMap eGNetLink), .sl s20.2.2.1.length (s20.2.2.1.flatMap eGNetPacket), .i .i64 s20.2.2.2.1], .arr 26 1 0 (s20.2.2.2.2.flatMap (eL eU8)), .dead]) ⟨⟨rfl, ⟨rfl, ⟨trivial, trivial⟩⟩⟩, ⟨⟨rfl, ⟨rfl, ⟨trivial, trivial⟩⟩⟩, ⟨⟨rfl, ⟨rfl, ⟨trivial, trivial⟩⟩⟩, trivial⟩⟩⟩) rfl rfl (opv_extract rfl rfl) ?_
          refine ee (x := .s (.one (.lp 2 0))) 0 rfl rfl rfl rfl rfl (fun ζ => ?_) ?_
          · refine salloc_at 2 rfl zi32 rfl ?_
            exact eend
          refine ee0 1 rfl rfl rfl rfl (fun ζ => ?_) ?_
          · refine sstore sz32 rfl rfl rfl rfl (Nat.le_of_ble_eq_true rfl) ?_
            refine smem [.box [.sl s20.2.1.length (s20.2.1.flatMap eGNetLink), .sl s20.2.2.1.length (s20.2.2.1.flatMap eGNetPacket), .i .i64 s20.2.2.2.1], .arr 26 1 0 (s20.2.2.2.2.flatMap (eL eU8)), .box v22.1] rfl ?_
            exact eend
          refine ev (sees_at 2 rfl rfl) rfl rfl (opv_as rfl) ?_
          refine enil ?_
          refine then_normal ?_
          refine cseq ?_
          refine cregion ?_
          refine sv rfl (opv_mv rfl) ?_
          refine sv rfl (opv_len_ls si64 rfl rfl (flat_len (f := (eL eU8)) (fun _ => rfl) _).symm) ?_
          refine sv rfl (opv_geq rfl rfl) ?_
          refine sv rfl (opv_as rfl) ?_
          refine snil ?_
          refine cseq ?_
          refine cjoin (Bool) (fun b23 => [(0, .s (.one (.sl a0.length (a0.flatMap (eL eU8))))), (1, .s (.one (.i .i64 a1))), (5, .s (.one (.b v1))), (6, .s (.one (.lp 0 0))), (7, .s (.one (.i .i64 v2.2.1))), (9, .s (.one (.ls 1 s20.2.2.2.2.length))), (10, .s (.one (.i .i64 s20.1))), (11, .s (.one (.lp 2 0))), (12, .s (.one (.i .i64 v22.2))), (13, .s (.one (.b (decide (64 ≤ (s20.2.2.2.2.length : Int)))))), (14, .s (.one (.b b23)))]) (fun b23 => [.box [.sl s20.2.1.length (s20.2.1.flatMap eGNetLink), .sl s20.2.2.1.length (s20.2.2.1.flatMap eGNetPacket), .i .i64 s20.2.2.2.1], .arr 26 1 0 (s20.2.2.2.2.flatMap (eL eU8)), .box v22.1]) (fun b23 => m5_l22_NetTakes_k23 a0 s20 v22 b23 = some y20) (fun _ _ => inbL_of rfl) (fun _ _ => blkinb_of rfl) (fun _ _ => Nat.le_of_ble_eq_true rfl) (fun b23 h => ?_) ?_
          · unfold m5_l22_NetTakes_k23 at h
            refine cseq ?_
            refine cseq ?_
            refine cjoin3 (Unit) (fun b24 => [(0, .s (.one (.sl a0.length (a0.flatMap (eL eU8))))), (1, .s (.one (.i .i64 a1))), (5, .s (.one (.b v1))), (6, .s (.one (.lp 0 0))), (7, .s (.one (.i .i64 v2.2.1))), (9, .s (.one (.ls 1 s20.2.2.2.2.length))), (10, .s (.one (.i .i64 s20.1))), (11, .s (.one (.lp 2 0))), (12, .s (.one (.i .i64 v22.2)))]) (fun b24 => [.box [.sl s20.2.1.length (s20.2.1.flatMap eGNetLink), .sl s20.2.2.1.length (s20.2.2.1.flatMap eGNetPacket), .i .i64 s20.2.2.2.1], .arr 26 1 0 (s20.2.2.2.2.flatMap (eL eU8)), .box v22.1]) (fun b24 => m5_l22_NetTakes_k24 a0 s20 v22 b24 = some y20) (fun _ _ => inbL_of rfl) (fun _ _ => blkinb_of rfl) (fun _ _ => Nat.le_of_ble_eq_true rfl) (fun b24 h => ?_) ?_
            · unfold m5_l22_NetTakes_k24 at h
              refine cseq ?_
              refine cregion ?_
              refine sv rfl (opv_mv rfl) ?_
              refine sv rfl (opv_ieql rfl rfl) ?_
              refine snil ?_
              refine ccond rfl (fun hc => ?_) (fun hc => ?_)
              · replace h := ite_t hc h
                clear hc
                refine cseq ?_
                refine cregion ?_
                refine sv rfl (opv_loadN ti32 rfl (.lp _ _ _ rfl) (Nat.le_of_ble_eq_true rfl)) ?_
                refine sstore sz32 rfl rfl rfl rfl (Nat.le_of_ble_eq_true rfl) ?_
                refine smem [.box v22.1, .arr 26 1 0 (s20.2.2.2.2.flatMap (eL eU8)), .box v22.1] rfl ?_
                refine snil ?_
                refine cregion ?_
                refine sv rfl (opv_mv rfl) ?_
                refine sv rfl (opv_mv rfl) ?_
                refine sv rfl (opv_mv rfl) ?_
                obtain ⟨u25, hu25, h⟩ := bind_eq h
                refine sv rfl (opv_ix (f := (eL eU8)) si64 (fun _ => rfl) rfl rfl rfl rfl hu25) ?_
                refine sv rfl (opv_load1 ti26 rfl (.cp _) rfl) ?_
                refine sbuild1 rfl Try.underlying64 ei26 rfl rfl (List.all_eq_true.1 rfl) (by decide) ?_
                refine smem [.box v22.1, .arr 26 1 0 (s20.2.2.2.2.flatMap (eL eU8)), .box v22.1, .arr 26 1 0 ([u25].flatMap (eL eU8))] rfl ?_
                obtain ⟨hb26, h⟩ := chk_eq h
                refine sapp (f := (eL eU8)) (xs := s20.2.2.2.2) (us := [u25]) rfl Try.underlying64 ei26 ni64 (fun _ => rfl) rfl rfl (.one _ _ _ _ (.ls _ _ _ _ _ _ rfl (flat_len (f := (eL eU8)) (fun _ => rfl) [u25]).symm)) rfl rfl rfl (.sl _ _ _ (flat_len (f := (eL eU8)) (fun _ => rfl) _)) rfl rfl hb26 (by decide) ?_
                refine sv rfl (opv_as rfl) ?_
                refine snil0 ?_
                refine block_normal ?_
                refine then_normal ?_
                refine cregion ?_
                refine sv rfl (opv_mv rfl) ?_
                refine sv rfl (opv_add rfl rfl) ?_
                refine sv rfl (opv_as rfl) ?_
                refine snil ?_
                obtain rfl := Option.some.inj h
                exact ⟨(n20, ((wI (s20.1 + 1)), v22.1.Links, v22.1.Packets, v22.1.Next, (s20.2.2.2.2 ++ [u25]))), _, hk20, ⟨rfl, rfl, rfl, rfl, rfl, rfl, rfl, trivial⟩, rfl, Nat.lt_succ_self _⟩
              · replace h := ite_f hc h
                clear hc
                refine cskip ?_
                refine block_normal ?_
                refine then_normal ?_
                refine cregion ?_
                refine sv rfl (opv_mv rfl) ?_
                refine sv rfl (opv_add rfl rfl) ?_
                refine sv rfl (opv_as rfl) ?_
                refine snil ?_
                obtain rfl := Option.some.inj h
                exact ⟨(n20, ((wI (s20.1 + 1)), s20.2.1, s20.2.2.1, s20.2.2.2.1, s20.2.2.2.2)), _, hk20, ⟨rfl, rfl, rfl, rfl, rfl, rfl, rfl, trivial⟩, rfl, Nat.lt_succ_self _⟩
            · skip
              refine cregion ?_
              refine sv rfl (opv_mv rfl) ?_
              refine sv rfl (opv_mv rfl) ?_
              refine ssplit 72 rfl (fun hc => ?_) (fun hc => ?_)
              · replace h := ite_t hc h
                clear hc
                refine son rfl rfl rfl ?_
                refine sv rfl (opv_mv rfl) ?_
                refine son rfl rfl rfl ?_
                refine sv rfl (opv_ineq rfl rfl) ?_
                refine sv rfl (opv_pick_t rfl rfl) ?_
                refine sv rfl (opv_mv rfl) ?_
                refine ssplit 76 rfl (fun hc => ?_) (fun hc => ?_)
                · replace h := ite_t hc h
                  clear hc
                  refine soff rfl rfl rfl rfl ?_
                  refine soff rfl rfl rfl rfl ?_
                  refine soff rfl rfl rfl rfl ?_
                  refine soffu rfl rfl rfl ?_
                  refine soff rfl rfl rfl rfl ?_
                  refine soff rfl rfl rfl rfl ?_
                  refine soffu rfl rfl rfl ?_
                  refine soffu rfl rfl rfl ?_
                  refine soff rfl rfl rfl rfl ?_
                  refine sv rfl (opv_pick_t rfl rfl) ?_
                  refine sv rfl (opv_mv rfl) ?_
                  refine soff rfl rfl rfl rfl ?_
                  refine soff rfl rfl rfl rfl ?_
                  refine soff rfl rfl rfl rfl ?_
                  refine soffu rfl rfl rfl ?_
                  refine soffu rfl rfl rfl ?_
                  refine soff rfl rfl rfl rfl ?_
                  refine soff rfl rfl rfl rfl ?_
                  refine soffu rfl rfl rfl ?_
                  refine soffu rfl rfl rfl ?_
                  refine soff rfl rfl rfl rfl ?_
                  refine sv rfl (opv_pick_t rfl rfl) ?_
                  refine snil ?_
                  refine ccond rfl (fun _ => ?_) (fun hx => Bool.noConfusion hx)
                  refine cseq ?_
                  refine cregion ?_
                  refine sv rfl (opv_as rfl) ?_
                  refine snil ?_
                  refine cret ?_
                  refine then_ret ?_
                  refine block_ret ?_
                  refine then_ret ?_
                  refine then_ret ?_
                  refine block_ret ?_
                  refine then_ret ?_
                  obtain rfl := Option.some.inj h
                  obtain rfl : Sum.inl _ = x20 := hk20
                  replace ho20 : some _ = some _ := ho20
                  obtain rfl := Option.some.inj ho20
                  refine ⟨Or.inr rfl, _, _, _, (resVs_cons (ResV.tmp _ _ rfl) resVs_nil), (pubA_id rfl), ?_⟩
                  rfl
                · replace h := ite_f hc h
                  clear hc
                  refine son rfl rfl rfl ?_
                  refine sv rfl (opv_mv rfl) ?_
                  refine son rfl rfl rfl ?_
                  refine sv rfl (opv_not rfl) ?_
                  refine son rfl rfl rfl ?_
                  refine sv rfl (opv_mv rfl) ?_
                  refine ssplit 79 rfl (fun hc => ?_) (fun hc => ?_)
                  · replace h := ite_t hc h
                    clear hc
                    refine son rfl rfl rfl ?_
                    refine sv rfl (opv_mv rfl) ?_
                    refine son rfl rfl rfl ?_
                    refine sv rfl (opv_pick_t rfl rfl) ?_
                    refine son rfl rfl rfl ?_
                    refine sv rfl (opv_mv rfl) ?_
                    refine ssplit 82 rfl (fun hc => ?_) (fun hc => ?_)
                    · replace h := ite_t hc h
                      clear hc
                      refine son rfl rfl rfl ?_
                      refine sv rfl (opv_mv rfl) ?_
                      refine son rfl rfl rfl ?_
                      refine sv rfl (opv_ineq rfl rfl) ?_
                      refine son rfl rfl rfl ?_
                      refine sv rfl (opv_pick_t rfl rfl) ?_
                      refine sv rfl (opv_pick_f rfl rfl) ?_
                      refine sv rfl (opv_mv rfl) ?_
                      refine ssplit 87 rfl (fun hc => ?_) (fun hc => ?_)
                      · replace h := ite_t hc h
                        clear hc
                        refine soff rfl rfl rfl rfl ?_
                        refine soff rfl rfl rfl rfl ?_
                        refine soff rfl rfl rfl rfl ?_
                        refine soffu rfl rfl rfl ?_
                        refine soffu rfl rfl rfl ?_
                        refine soff rfl rfl rfl rfl ?_
                        refine soff rfl rfl rfl rfl ?_
                        refine soffu rfl rfl rfl ?_
                        refine soffu rfl rfl rfl ?_
                        refine soff rfl rfl rfl rfl ?_
                        refine sv rfl (opv_pick_t rfl rfl) ?_
                        refine snil ?_
                        refine ccond rfl (fun _ => ?_) (fun hx => Bool.noConfusion hx)
                        refine cseq ?_
                        refine cregion ?_
                        refine sv rfl (opv_as rfl) ?_
                        refine snil ?_
                        refine cret ?_
                        refine then_ret ?_
                        refine block_ret ?_
                        refine then_ret ?_
                        refine then_ret ?_
                        refine block_ret ?_
                        refine then_ret ?_
                        obtain rfl := Option.some.inj h
                        obtain rfl : Sum.inl _ = x20 := hk20
                        replace ho20 : some _ = some _ := ho20
                        obtain rfl := Option.some.inj ho20
                        refine ⟨Or.inr rfl, _, _, _, (resVs_cons (ResV.tmp _ _ rfl) resVs_nil), (pubA_id rfl), ?_⟩
                        rfl
                      · replace h := ite_f hc h
                        clear hc
                        refine son rfl rfl rfl ?_
                        refine sv rfl (opv_mv rfl) ?_
                        refine son rfl rfl rfl ?_
                        refine sv rfl (opv_not rfl) ?_
                        refine son rfl rfl rfl ?_
                        refine sv rfl (opv_mv rfl) ?_
                        refine ssplit 90 rfl (fun hc => ?_) (fun hc => ?_)
                        · replace h := ite_t hc h
                          clear hc
                          refine son rfl rfl rfl ?_
                          refine sv rfl (opv_mv rfl) ?_
                          refine son rfl rfl rfl ?_
                          refine sv rfl (opv_not rfl) ?_
                          refine son rfl rfl rfl ?_
                          refine sv rfl (opv_pick_t rfl rfl) ?_
                          refine son rfl rfl rfl ?_
                          refine sv rfl (opv_mv rfl) ?_
                          refine ssplit 94 rfl (fun hc => ?_) (fun hc => ?_)
                          · replace h := ite_t hc h
                            clear hc
                            refine son rfl rfl rfl ?_
                            refine sv rfl (opv_mv rfl) ?_
                            refine son rfl rfl rfl ?_
                            refine sv rfl (opv_ineq rfl rfl) ?_
                            refine son rfl rfl rfl ?_
                            refine sv rfl (opv_pick_t rfl rfl) ?_
                            refine sv rfl (opv_pick_f rfl rfl) ?_
                            refine snil ?_
                            refine ccond rfl (fun hc => ?_) (fun hc => ?_)
                            · replace h := ite_t hc h
                              clear hc
                              refine cseq ?_
                              refine cregion ?_
                              refine sv rfl (opv_as rfl) ?_
                              refine snil ?_
                              refine cret ?_
                              refine then_ret ?_
                              refine block_ret ?_
                              refine then_ret ?_
                              refine then_ret ?_
                              refine block_ret ?_
                              refine then_ret ?_
                              obtain rfl := Option.some.inj h
                              obtain rfl : Sum.inl _ = x20 := hk20
                              replace ho20 : some _ = some _ := ho20
                              obtain rfl := Option.some.inj ho20
                              refine ⟨Or.inr rfl, _, _, _, (resVs_cons (ResV.tmp _ _ rfl) resVs_nil), (pubA_id rfl), ?_⟩
                              rfl
                            · replace h := ite_f hc h
                              clear hc
                              refine cskip ?_
                              refine then_normal ?_
                              exact ⟨(), _, h, ⟨rfl, rfl, rfl, rfl, rfl, rfl, rfl, rfl, rfl, trivial⟩, rfl⟩
                          · replace h := ite_f hc h
                            clear hc
                            refine soff rfl rfl rfl rfl ?_
                            refine soff rfl rfl rfl rfl ?_
                            refine son rfl rfl rfl ?_
                            refine sv rfl (opv_pick_f rfl rfl) ?_
                            refine sv rfl (opv_pick_f rfl rfl) ?_
                            refine snil ?_
                            refine ccond rfl (fun hx => Bool.noConfusion hx) (fun _ => ?_)
                            refine cskip ?_
                            refine then_normal ?_
                            exact ⟨(), _, h, ⟨rfl, rfl, rfl, rfl, rfl, rfl, rfl, rfl, rfl, trivial⟩, rfl⟩
                        · replace h := ite_f hc h
                          clear hc
                          refine soff rfl rfl rfl rfl ?_
                          refine soff rfl rfl rfl rfl ?_
                          refine son rfl rfl rfl ?_
                          refine sv rfl (opv_pick_f rfl rfl) ?_
                          refine son rfl rfl rfl ?_
                          refine sv rfl (opv_mv rfl) ?_
                          refine soff rfl rfl rfl rfl ?_
                          refine soff rfl rfl rfl rfl ?_
                          refine son rfl rfl rfl ?_
                          refine sv rfl (opv_pick_f rfl rfl) ?_
                          refine sv rfl (opv_pick_f rfl rfl) ?_
                          refine snil ?_
                          refine ccond rfl (fun hx => Bool.noConfusion hx) (fun _ => ?_)
                          refine cskip ?_
                          refine then_normal ?_
                          exact ⟨(), _, h, ⟨rfl, rfl, rfl, rfl, rfl, rfl, rfl, rfl, rfl, trivial⟩, rfl⟩
                    · replace h := ite_f hc h
                      clear hc
                      refine soff rfl rfl rfl rfl ?_
                      refine soff rfl rfl rfl rfl ?_
                      refine son rfl rfl rfl ?_
                      refine sv rfl (opv_pick_f rfl rfl) ?_
                      refine sv rfl (opv_pick_f rfl rfl) ?_
                      refine sv rfl (opv_mv rfl) ?_
                      refine son rfl rfl rfl ?_
                      refine sv rfl (opv_mv rfl) ?_
                      refine son rfl rfl rfl ?_
                      refine sv rfl (opv_not rfl) ?_
                      refine son rfl rfl rfl ?_
                      refine sv rfl (opv_mv rfl) ?_
                      refine ssplit 90 rfl (fun hc => ?_) (fun hc => ?_)
                      · replace h := ite_t hc h
                        clear hc
                        refine son rfl rfl rfl ?_
                        refine sv rfl (opv_mv rfl) ?_
                        refine son rfl rfl rfl ?_
                        refine sv rfl (opv_not rfl) ?_
                        refine son rfl rfl rfl ?_
                        refine sv rfl (opv_pick_t rfl rfl) ?_
                        refine son rfl rfl rfl ?_
                        refine sv rfl (opv_mv rfl) ?_
                        refine ssplit 94 rfl (fun hc => ?_) (fun hc => ?_)
                        · replace h := ite_t hc h
                          clear hc
                          refine son rfl rfl rfl ?_
                          refine sv rfl (opv_mv rfl) ?_
                          refine son rfl rfl rfl ?_
                          refine sv rfl (opv_ineq rfl rfl) ?_
                          refine son rfl rfl rfl ?_
                          refine sv rfl (opv_pick_t rfl rfl) ?_
                          refine sv rfl (opv_pick_f rfl rfl) ?_
                          refine snil ?_
                          refine ccond rfl (fun hc => ?_) (fun hc => ?_)
                          · replace h := ite_t hc h
                            clear hc
                            refine cseq ?_
                            refine cregion ?_
                            refine sv rfl (opv_as rfl) ?_
                            refine snil ?_
                            refine cret ?_
                            refine then_ret ?_
                            refine block_ret ?_
                            refine then_ret ?_
                            refine then_ret ?_
                            refine block_ret ?_
                            refine then_ret ?_
                            obtain rfl := Option.some.inj h
                            obtain rfl : Sum.inl _ = x20 := hk20
                            replace ho20 : some _ = some _ := ho20
                            obtain rfl := Option.some.inj ho20
                            refine ⟨Or.inr rfl, _, _, _, (resVs_cons (ResV.tmp _ _ rfl) resVs_nil), (pubA_id rfl), ?_⟩
                            rfl
                          · replace h := ite_f hc h
                            clear hc
                            refine cskip ?_
                            refine then_normal ?_
                            exact ⟨(), _, h, ⟨rfl, rfl, rfl, rfl, rfl, rfl, rfl, rfl, rfl, trivial⟩, rfl⟩
                        · replace h := ite_f hc h
                          clear hc
                          refine soff rfl rfl rfl rfl ?_
                          refine soff rfl rfl rfl rfl ?_
                          refine son rfl rfl rfl ?_
                          refine sv rfl (opv_pick_f rfl rfl) ?_
                          refine sv rfl (opv_pick_f rfl rfl) ?_
                          refine snil ?_
                          refine ccond rfl (fun hx => Bool.noConfusion hx) (fun _ => ?_)
                          refine cskip ?_
                          refine then_normal ?_
                          exact ⟨(), _, h, ⟨rfl, rfl, rfl, rfl, rfl, rfl, rfl, rfl, rfl, trivial⟩, rfl⟩
                      · replace h := ite_f hc h
                        clear hc
                        refine soff rfl rfl rfl rfl ?_
                        refine soff rfl rfl rfl rfl ?_
                        refine son rfl rfl rfl ?_
                        refine sv rfl (opv_pick_f rfl rfl) ?_
                        refine son rfl rfl rfl ?_
                        refine sv rfl (opv_mv rfl) ?_
                        refine soff rfl rfl rfl rfl ?_
                        refine soff rfl rfl rfl rfl ?_
                        refine son rfl rfl rfl ?_
                        refine sv rfl (opv_pick_f rfl rfl) ?_
                        refine sv rfl (opv_pick_f rfl rfl) ?_
                        refine snil ?_
                        refine ccond rfl (fun hx => Bool.noConfusion hx) (fun _ => ?_)
                        refine cskip ?_
                        refine then_normal ?_
                        exact ⟨(), _, h, ⟨rfl, rfl, rfl, rfl, rfl, rfl, rfl, rfl, rfl, trivial⟩, rfl⟩
                  · replace h := ite_f hc h
                    clear hc
                    refine soff rfl rfl rfl rfl ?_
                    refine son rfl rfl rfl ?_
                    refine sv rfl (opv_pick_f rfl rfl) ?_
                    refine son rfl rfl rfl ?_
                    refine sv rfl (opv_mv rfl) ?_
                    refine soff rfl rfl rfl rfl ?_
                    refine soff rfl rfl rfl rfl ?_
                    refine son rfl rfl rfl ?_
                    refine sv rfl (opv_pick_f rfl rfl) ?_
                    refine sv rfl (opv_pick_f rfl rfl) ?_
                    refine sv rfl (opv_mv rfl) ?_
                    refine son rfl rfl rfl ?_
                    refine sv rfl (opv_mv rfl) ?_
                    refine son rfl rfl rfl ?_
                    refine sv rfl (opv_not rfl) ?_
                    refine son rfl rfl rfl ?_
                    refine sv rfl (opv_mv rfl) ?_
                    refine ssplit 90 rfl (fun hc => ?_) (fun hc => ?_)
                    · replace h := ite_t hc h
                      clear hc
                      refine son rfl rfl rfl ?_
                      refine sv rfl (opv_mv rfl) ?_
                      refine son rfl rfl rfl ?_
                      refine sv rfl (opv_not rfl) ?_
                      refine son rfl rfl rfl ?_
                      refine sv rfl (opv_pick_t rfl rfl) ?_
                      refine son rfl rfl rfl ?_
                      refine sv rfl (opv_mv rfl) ?_
                      refine ssplit 94 rfl (fun hc => ?_) (fun hc => ?_)
                      · replace h := ite_t hc h
                        clear hc
                        refine son rfl rfl rfl ?_
                        refine sv rfl (opv_mv rfl) ?_
                        refine son rfl rfl rfl ?_
                        refine sv rfl (opv_ineq rfl rfl) ?_
                        refine son rfl rfl rfl ?_
                        refine sv rfl (opv_pick_t rfl rfl) ?_
                        refine sv rfl (opv_pick_f rfl rfl) ?_
                        refine snil ?_
                        refine ccond rfl (fun hc => ?_) (fun hc => ?_)
                        · replace h := ite_t hc h
                          clear hc
                          refine cseq ?_
                          refine cregion ?_
                          refine sv rfl (opv_as rfl) ?_
                          refine snil ?_
                          refine cret ?_
                          refine then_ret ?_
                          refine block_ret ?_
                          refine then_ret ?_
                          refine then_ret ?_
                          refine block_ret ?_
                          refine then_ret ?_
                          obtain rfl := Option.some.inj h
                          obtain rfl : Sum.inl _ = x20 := hk20
                          replace ho20 : some _ = some _ := ho20
                          obtain rfl := Option.some.inj ho20
                          refine ⟨Or.inr rfl, _, _, _, (resVs_cons (ResV.tmp _ _ rfl) resVs_nil), (pubA_id rfl), ?_⟩
                          rfl
                        · replace h := ite_f hc h
                          clear hc
                          refine cskip ?_
                          refine then_normal ?_
                          exact ⟨(), _, h, ⟨rfl, rfl, rfl, rfl, rfl, rfl, rfl, rfl, rfl, trivial⟩, rfl⟩
                      · replace h := ite_f hc h
                        clear hc
                        refine soff rfl rfl rfl rfl ?_
                        refine soff rfl rfl rfl rfl ?_
                        refine son rfl rfl rfl ?_
                        refine sv rfl (opv_pick_f rfl rfl) ?_
                        refine sv rfl (opv_pick_f rfl rfl) ?_
                        refine snil ?_
                        refine ccond rfl (fun hx => Bool.noConfusion hx) (fun _ => ?_)
                        refine cskip ?_
                        refine then_normal ?_
                        exact ⟨(), _, h, ⟨rfl, rfl, rfl, rfl, rfl, rfl, rfl, rfl, rfl, trivial⟩, rfl⟩
                    · replace h := ite_f hc h
                      clear hc
                      refine soff rfl rfl rfl rfl ?_
                      refine soff rfl rfl rfl rfl ?_
                      refine son rfl rfl rfl ?_
                      refine sv rfl (opv_pick_f rfl rfl) ?_
                      refine son rfl rfl rfl ?_
                      refine sv rfl (opv_mv rfl) ?_
                      refine soff rfl rfl rfl rfl ?_
                      refine soff rfl rfl rfl rfl ?_
                      refine son rfl rfl rfl ?_
                      refine sv rfl (opv_pick_f rfl rfl) ?_
                      refine sv rfl (opv_pick_f rfl rfl) ?_
                      refine snil ?_
                      refine ccond rfl (fun hx => Bool.noConfusion hx) (fun _ => ?_)
                      refine cskip ?_
                      refine then_normal ?_
                      exact ⟨(), _, h, ⟨rfl, rfl, rfl, rfl, rfl, rfl, rfl, rfl, rfl, trivial⟩, rfl⟩
              · replace h := ite_f hc h
                clear hc
                refine soff rfl rfl rfl rfl ?_
                refine soff rfl rfl rfl rfl ?_
                refine sv rfl (opv_pick_f rfl rfl) ?_
                refine sv rfl (opv_mv rfl) ?_
                refine son rfl rfl rfl ?_
                refine sv rfl (opv_mv rfl) ?_
                refine son rfl rfl rfl ?_
                refine sv rfl (opv_not rfl) ?_
                refine son rfl rfl rfl ?_
                refine sv rfl (opv_mv rfl) ?_
                refine ssplit 79 rfl (fun hc => ?_) (fun hc => ?_)
                · replace h := ite_t hc h
                  clear hc
                  refine son rfl rfl rfl ?_
                  refine sv rfl (opv_mv rfl) ?_
                  refine son rfl rfl rfl ?_
                  refine sv rfl (opv_pick_t rfl rfl) ?_
                  refine son rfl rfl rfl ?_
                  refine sv rfl (opv_mv rfl) ?_
                  refine ssplit 82 rfl (fun hc => ?_) (fun hc => ?_)
                  · replace h := ite_t hc h
                    clear hc
                    refine son rfl rfl rfl ?_
                    refine sv rfl (opv_mv rfl) ?_
                    refine son rfl rfl rfl ?_
                    refine sv rfl (opv_ineq rfl rfl) ?_
                    refine son rfl rfl rfl ?_
                    refine sv rfl (opv_pick_t rfl rfl) ?_
                    refine sv rfl (opv_pick_f rfl rfl) ?_
                    refine sv rfl (opv_mv rfl) ?_
                    refine ssplit 87 rfl (fun hc => ?_) (fun hc => ?_)
                    · replace h := ite_t hc h
                      clear hc
                      refine soff rfl rfl rfl rfl ?_
                      refine soff rfl rfl rfl rfl ?_
                      refine soff rfl rfl rfl rfl ?_
                      refine soffu rfl rfl rfl ?_
                      refine soffu rfl rfl rfl ?_
                      refine soff rfl rfl rfl rfl ?_
                      refine soff rfl rfl rfl rfl ?_
                      refine soffu rfl rfl rfl ?_
                      refine soffu rfl rfl rfl ?_
                      refine soff rfl rfl rfl rfl ?_
                      refine sv rfl (opv_pick_t rfl rfl) ?_
                      refine snil ?_
                      refine ccond rfl (fun _ => ?_) (fun hx => Bool.noConfusion hx)
                      refine cseq ?_
                      refine cregion ?_
                      refine sv rfl (opv_as rfl) ?_
                      refine snil ?_
                      refine cret ?_
                      refine then_ret ?_
                      refine block_ret ?_
                      refine then_ret ?_
                      refine then_ret ?_
                      refine block_ret ?_
                      refine then_ret ?_
                      obtain rfl := Option.some.inj h
                      obtain rfl : Sum.inl _ = x20 := hk20
                      replace ho20 : some _ = some _ := ho20
                      obtain rfl := Option.some.inj ho20
                      refine ⟨Or.inr rfl, _, _, _, (resVs_cons (ResV.tmp _ _ rfl) resVs_nil), (pubA_id rfl), ?_⟩
                      rfl
                    · replace h := ite_f hc h
                      clear hc
                      refine son rfl rfl rfl ?_
                      refine sv rfl (opv_mv rfl) ?_
                      refine son rfl rfl rfl ?_
                      refine sv rfl (opv_not rfl) ?_
                      refine son rfl rfl rfl ?_
                      refine sv rfl (opv_mv rfl) ?_
                      refine ssplit 90 rfl (fun hc => ?_) (fun hc => ?_)
                      · replace h := ite_t hc h
                        clear hc
                        refine son rfl rfl rfl ?_
                        refine sv rfl (opv_mv rfl) ?_
                        refine son rfl rfl rfl ?_
                        refine sv rfl (opv_not rfl) ?_
                        refine son rfl rfl rfl ?_
                        refine sv rfl (opv_pick_t rfl rfl) ?_
                        refine son rfl rfl rfl ?_
                        refine sv rfl (opv_mv rfl) ?_
                        refine ssplit 94 rfl (fun hc => ?_) (fun hc => ?_)
                        · replace h := ite_t hc h
                          clear hc
                          refine son rfl rfl rfl ?_
                          refine sv rfl (opv_mv rfl) ?_
                          refine son rfl rfl rfl ?_
                          refine sv rfl (opv_ineq rfl rfl) ?_
                          refine son rfl rfl rfl ?_
                          refine sv rfl (opv_pick_t rfl rfl) ?_
                          refine sv rfl (opv_pick_f rfl rfl) ?_
                          refine snil ?_
                          refine ccond rfl (fun hc => ?_) (fun hc => ?_)
                          · replace h := ite_t hc h
                            clear hc
                            refine cseq ?_
                            refine cregion ?_
                            refine sv rfl (opv_as rfl) ?_
                            refine snil ?_
                            refine cret ?_
                            refine then_ret ?_
                            refine block_ret ?_
                            refine then_ret ?_
                            refine then_ret ?_
                            refine block_ret ?_
                            refine then_ret ?_
                            obtain rfl := Option.some.inj h
                            obtain rfl : Sum.inl _ = x20 := hk20
                            replace ho20 : some _ = some _ := ho20
                            obtain rfl := Option.some.inj ho20
                            refine ⟨Or.inr rfl, _, _, _, (resVs_cons (ResV.tmp _ _ rfl) resVs_nil), (pubA_id rfl), ?_⟩
                            rfl
                          · replace h := ite_f hc h
                            clear hc
                            refine cskip ?_
                            refine then_normal ?_
                            exact ⟨(), _, h, ⟨rfl, rfl, rfl, rfl, rfl, rfl, rfl, rfl, rfl, trivial⟩, rfl⟩
                        · replace h := ite_f hc h
                          clear hc
                          refine soff rfl rfl rfl rfl ?_
                          refine soff rfl rfl rfl rfl ?_
                          refine son rfl rfl rfl ?_
                          refine sv rfl (opv_pick_f rfl rfl) ?_
                          refine sv rfl (opv_pick_f rfl rfl) ?_
                          refine snil ?_
                          refine ccond rfl (fun hx => Bool.noConfusion hx) (fun _ => ?_)
                          refine cskip ?_
                          refine then_normal ?_
                          exact ⟨(), _, h, ⟨rfl, rfl, rfl, rfl, rfl, rfl, rfl, rfl, rfl, trivial⟩, rfl⟩
                      · replace h := ite_f hc h
                        clear hc
                        refine soff rfl rfl rfl rfl ?_
                        refine soff rfl rfl rfl rfl ?_
                        refine son rfl rfl rfl ?_
                        refine sv rfl (opv_pick_f rfl rfl) ?_
                        refine son rfl rfl rfl ?_
                        refine sv rfl (opv_mv rfl) ?_
                        refine soff rfl rfl rfl rfl ?_
                        refine soff rfl rfl rfl rfl ?_
                        refine son rfl rfl rfl ?_
                        refine sv rfl (opv_pick_f rfl rfl) ?_
                        refine sv rfl (opv_pick_f rfl rfl) ?_
                        refine snil ?_
                        refine ccond rfl (fun hx => Bool.noConfusion hx) (fun _ => ?_)
                        refine cskip ?_
                        refine then_normal ?_
                        exact ⟨(), _, h, ⟨rfl, rfl, rfl, rfl, rfl, rfl, rfl, rfl, rfl, trivial⟩, rfl⟩
                  · replace h := ite_f hc h
                    clear hc
                    refine soff rfl rfl rfl rfl ?_
                    refine soff rfl rfl rfl rfl ?_
                    refine son rfl rfl rfl ?_
                    refine sv rfl (opv_pick_f rfl rfl) ?_
                    refine sv rfl (opv_pick_f rfl rfl) ?_
                    refine sv rfl (opv_mv rfl) ?_
                    refine son rfl rfl rfl ?_
                    refine sv rfl (opv_mv rfl) ?_
                    refine son rfl rfl rfl ?_
                    refine sv rfl (opv_not rfl) ?_
                    refine son rfl rfl rfl ?_
                    refine sv rfl (opv_mv rfl) ?_
                    refine ssplit 90 rfl (fun hc => ?_) (fun hc => ?_)
                    · replace h := ite_t hc h
                      clear hc
                      refine son rfl rfl rfl ?_
                      refine sv rfl (opv_mv rfl) ?_
                      refine son rfl rfl rfl ?_
                      refine sv rfl (opv_not rfl) ?_
                      refine son rfl rfl rfl ?_
                      refine sv rfl (opv_pick_t rfl rfl) ?_
                      refine son rfl rfl rfl ?_
                      refine sv rfl (opv_mv rfl) ?_
                      refine ssplit 94 rfl (fun hc => ?_) (fun hc => ?_)
                      · replace h := ite_t hc h
                        clear hc
                        refine son rfl rfl rfl ?_
                        refine sv rfl (opv_mv rfl) ?_
                        refine son rfl rfl rfl ?_
                        refine sv rfl (opv_ineq rfl rfl) ?_
                        refine son rfl rfl rfl ?_
                        refine sv rfl (opv_pick_t rfl rfl) ?_
                        refine sv rfl (opv_pick_f rfl rfl) ?_
                        refine snil ?_
                        refine ccond rfl (fun hc => ?_) (fun hc => ?_)
                        · replace h := ite_t hc h
                          clear hc
                          refine cseq ?_
                          refine cregion ?_
                          refine sv rfl (opv_as rfl) ?_
                          refine snil ?_
                          refine cret ?_
                          refine then_ret ?_
                          refine block_ret ?_
                          refine then_ret ?_
                          refine then_ret ?_
                          refine block_ret ?_
                          refine then_ret ?_
                          obtain rfl := Option.some.inj h
                          obtain rfl : Sum.inl _ = x20 := hk20
                          replace ho20 : some _ = some _ := ho20
                          obtain rfl := Option.some.inj ho20
                          refine ⟨Or.inr rfl, _, _, _, (resVs_cons (ResV.tmp _ _ rfl) resVs_nil), (pubA_id rfl), ?_⟩
                          rfl
                        · replace h := ite_f hc h
                          clear hc
                          refine cskip ?_
                          refine then_normal ?_
                          exact ⟨(), _, h, ⟨rfl, rfl, rfl, rfl, rfl, rfl, rfl, rfl, rfl, trivial⟩, rfl⟩
                      · replace h := ite_f hc h
                        clear hc
                        refine soff rfl rfl rfl rfl ?_
                        refine soff rfl rfl rfl rfl ?_
                        refine son rfl rfl rfl ?_
                        refine sv rfl (opv_pick_f rfl rfl) ?_
                        refine sv rfl (opv_pick_f rfl rfl) ?_
                        refine snil ?_
                        refine ccond rfl (fun hx => Bool.noConfusion hx) (fun _ => ?_)
                        refine cskip ?_
                        refine then_normal ?_
                        exact ⟨(), _, h, ⟨rfl, rfl, rfl, rfl, rfl, rfl, rfl, rfl, rfl, trivial⟩, rfl⟩
                    · replace h := ite_f hc h
                      clear hc
                      refine soff rfl rfl rfl rfl ?_
                      refine soff rfl rfl rfl rfl ?_
                      refine son rfl rfl rfl ?_
                      refine sv rfl (opv_pick_f rfl rfl) ?_
                      refine son rfl rfl rfl ?_
                      refine sv rfl (opv_mv rfl) ?_
                      refine soff rfl rfl rfl rfl ?_
                      refine soff rfl rfl rfl rfl ?_
                      refine son rfl rfl rfl ?_
                      refine sv rfl (opv_pick_f rfl rfl) ?_
                      refine sv rfl (opv_pick_f rfl rfl) ?_
                      refine snil ?_
                      refine ccond rfl (fun hx => Bool.noConfusion hx) (fun _ => ?_)
                      refine cskip ?_
                      refine then_normal ?_
                      exact ⟨(), _, h, ⟨rfl, rfl, rfl, rfl, rfl, rfl, rfl, rfl, rfl, trivial⟩, rfl⟩
                · replace h := ite_f hc h
                  clear hc
                  refine soff rfl rfl rfl rfl ?_
                  refine son rfl rfl rfl ?_
                  refine sv rfl (opv_pick_f rfl rfl) ?_
                  refine son rfl rfl rfl ?_
                  refine sv rfl (opv_mv rfl) ?_
                  refine soff rfl rfl rfl rfl ?_
                  refine soff rfl rfl rfl rfl ?_
                  refine son rfl rfl rfl ?_
                  refine sv rfl (opv_pick_f rfl rfl) ?_
                  refine sv rfl (opv_pick_f rfl rfl) ?_
                  refine sv rfl (opv_mv rfl) ?_
                  refine son rfl rfl rfl ?_
                  refine sv rfl (opv_mv rfl) ?_
                  refine son rfl rfl rfl ?_
                  refine sv rfl (opv_not rfl) ?_
                  refine son rfl rfl rfl ?_
                  refine sv rfl (opv_mv rfl) ?_
                  refine ssplit 90 rfl (fun hc => ?_) (fun hc => ?_)
                  · replace h := ite_t hc h
                    clear hc
                    refine son rfl rfl rfl ?_
                    refine sv rfl (opv_mv rfl) ?_
                    refine son rfl rfl rfl ?_
                    refine sv rfl (opv_not rfl) ?_
                    refine son rfl rfl rfl ?_
                    refine sv rfl (opv_pick_t rfl rfl) ?_
                    refine son rfl rfl rfl ?_
                    refine sv rfl (opv_mv rfl) ?_
                    refine ssplit 94 rfl (fun hc => ?_) (fun hc => ?_)
                    · replace h := ite_t hc h
                      clear hc
                      refine son rfl rfl rfl ?_
                      refine sv rfl (opv_mv rfl) ?_
                      refine son rfl rfl rfl ?_
                      refine sv rfl (opv_ineq rfl rfl) ?_
                      refine son rfl rfl rfl ?_
                      refine sv rfl (opv_pick_t rfl rfl) ?_
                      refine sv rfl (opv_pick_f rfl rfl) ?_
                      refine snil ?_
                      refine ccond rfl (fun hc => ?_) (fun hc => ?_)
                      · replace h := ite_t hc h
                        clear hc
                        refine cseq ?_
                        refine cregion ?_
                        refine sv rfl (opv_as rfl) ?_
                        refine snil ?_
                        refine cret ?_
                        refine then_ret ?_
                        refine block_ret ?_
                        refine then_ret ?_
                        refine then_ret ?_
                        refine block_ret ?_
                        refine then_ret ?_
                        obtain rfl := Option.some.inj h
                        obtain rfl : Sum.inl _ = x20 := hk20
                        replace ho20 : some _ = some _ := ho20
                        obtain rfl := Option.some.inj ho20
                        refine ⟨Or.inr rfl, _, _, _, (resVs_cons (ResV.tmp _ _ rfl) resVs_nil), (pubA_id rfl), ?_⟩
                        rfl
                      · replace h := ite_f hc h
                        clear hc
                        refine cskip ?_
                        refine then_normal ?_
                        exact ⟨(), _, h, ⟨rfl, rfl, rfl, rfl, rfl, rfl, rfl, rfl, rfl, trivial⟩, rfl⟩
                    · replace h := ite_f hc h
                      clear hc
                      refine soff rfl rfl rfl rfl ?_
                      refine soff rfl rfl rfl rfl ?_
                      refine son rfl rfl rfl ?_
                      refine sv rfl (opv_pick_f rfl rfl) ?_
                      refine sv rfl (opv_pick_f rfl rfl) ?_
                      refine snil ?_
                      refine ccond rfl (fun hx => Bool.noConfusion hx) (fun _ => ?_)
                      refine cskip ?_
                      refine then_normal ?_
                      exact ⟨(), _, h, ⟨rfl, rfl, rfl, rfl, rfl, rfl, rfl, rfl, rfl, trivial⟩, rfl⟩
                  · replace h := ite_f hc h
                    clear hc
                    refine soff rfl rfl rfl rfl ?_
                    refine soff rfl rfl rfl rfl ?_
                    refine son rfl rfl rfl ?_
                    refine sv rfl (opv_pick_f rfl rfl) ?_
                    refine son rfl rfl rfl ?_
                    refine sv rfl (opv_mv rfl) ?_
                    refine soff rfl rfl rfl rfl ?_
                    refine soff rfl rfl rfl rfl ?_
                    refine son rfl rfl rfl ?_
                    refine sv rfl (opv_pick_f rfl rfl) ?_
                    refine sv rfl (opv_pick_f rfl rfl) ?_
                    refine snil ?_
                    refine ccond rfl (fun hx => Bool.noConfusion hx) (fun _ => ?_)
                    refine cskip ?_
                    refine then_normal ?_
                    exact ⟨(), _, h, ⟨rfl, rfl, rfl, rfl, rfl, rfl, rfl, rfl, rfl, trivial⟩, rfl⟩
          · skip
            refine cregion ?_
            refine sv rfl (opv_mv rfl) ?_
            refine sv rfl (opv_mv rfl) ?_
            obtain ⟨u27, hu27, h⟩ := bind_eq h
            refine sv rfl (opv_ix (f := (eL eU8)) si64 (fun _ => rfl) rfl rfl rfl rfl hu27) ?_
            refine sv rfl (opv_load1 ti26 rfl (.cp _) rfl) ?_
            refine sv rfl (opv_len_sl si26 rfl) ?_
            refine sv rfl (opv_lss rfl rfl) ?_
            refine sv rfl (opv_mv rfl) ?_
            refine ssplit 63 rfl (fun hc => ?_) (fun hc => ?_)
            · replace h := ite_t hc h
              clear hc
              refine soff rfl rfl rfl rfl ?_
              refine soff rfl rfl rfl rfl ?_
              refine soff rfl rfl rfl rfl ?_
              refine soff rfl rfl rfl rfl ?_
              refine soff rfl rfl rfl rfl ?_
              refine soff rfl rfl rfl rfl ?_
              refine sv rfl (opv_pick_t rfl rfl) ?_
              refine sv rfl (opv_as rfl) ?_
              refine snil ?_
              exact ⟨true, _, h, ⟨rfl, rfl, rfl, rfl, rfl, rfl, rfl, rfl, rfl, rfl, rfl, trivial⟩, rfl⟩
            · replace h := ite_f hc h
              clear hc
              refine son rfl rfl rfl ?_
              refine sv rfl (opv_mv rfl) ?_
              refine son rfl rfl rfl ?_
              refine sv rfl (opv_mv rfl) ?_
              refine son rfl rfl rfl ?_
              obtain ⟨u28, hu28, h⟩ := bind_eq h
              refine sv rfl (opv_ix (f := (eL eU8)) si64 (fun _ => rfl) rfl rfl rfl rfl hu28) ?_
              refine son rfl rfl rfl ?_
              refine sv rfl (opv_load1 ti26 rfl (.cp _) rfl) ?_
              refine son rfl rfl rfl ?_
              refine sv rfl (opv_len_sl si26 rfl) ?_
              refine son rfl rfl rfl ?_
              refine sv rfl (opv_gtr rfl rfl) ?_
              refine sv rfl (opv_pick_f rfl rfl) ?_
              refine sv rfl (opv_as rfl) ?_
              refine snil ?_
              exact ⟨(decide (2048 < (u28.length : Int))), _, h, ⟨rfl, rfl, rfl, rfl, rfl, rfl, rfl, rfl, rfl, rfl, rfl, trivial⟩, rfl⟩
        · replace h := ite_f hc h
          clear hc
          refine cexit ?_
          refine then_exit ?_
          refine then_exit ?_
          refine block_hit ?_
          refine then_normal ?_
          obtain rfl := Option.some.inj h
          obtain rfl : _ = x20 := hk20
          exact ⟨(s20.2.1, s20.2.2.1, s20.2.2.2.1, s20.2.2.2.2), _, ho20, ⟨rfl, rfl, rfl, rfl, rfl, trivial⟩, rfl⟩

def m6_l22_NetLinks_k3 (v1 : Bool) (b3 : (List GNetLink) × (List GNetPacket) × Int) : Option Bool :=
  if v1 then ((m30_net_Sane (GNetNet.mk b3.1 b3.2.1 b3.2.2)).bind fun v4 => if v4 then (some (decide ((b3.1.length : Int) ≤ 4))) else (some false)) else (some false)

def m6_l22_NetLinks_k16 (s5 : Int × Int × (List GNetLink) × (List GNetPacket) × Int) (b13 : Int × (List GNetLink) × (List GNetPacket) × Int) (v15 : GNetNet) (b16 : Unit) : Option (LR (Int × Int × (List GNetLink) × (List GNetPacket) × Int) ((List GNetLink) × (List GNetPacket) × Int) (Bool)) :=
  some (.cont (b13.1, (wI (s5.2.1 + 1)), v15.Links, v15.Packets, v15.Next))

def m6_l22_NetLinks_s17 (a1 : List Int) (s5 : Int × Int × (List GNetLink) × (List GNetPacket) × Int) (v15 : GNetNet) (s17 : Int) : Option (LR (Int) (Unit) (Bool)) :=
  if (decide (s17 < (v15.Links.length : Int))) then ((idx v15.Links s17).bind fun u18 => (idx a1 s5.2.1).bind fun u19 => if (decide (u18.ID = u19)) then (some (.ret false)) else (some (.cont (wI (s17 + 1))))) else (some (.brk ()))

def m6_l22_NetLinks_k13 (a1 : List Int) (s5 : Int × Int × (List GNetLink) × (List GNetPacket) × Int) (b13 : Int × (List GNetLink) × (List GNetPacket) × Int) : Option (LR (Int × Int × (List GNetLink) × (List GNetPacket) × Int) ((List GNetLink) × (List GNetPacket) × Int) (Bool)) :=
  if (decide (s5.2.1 < (a1.length : Int))) then ((idx a1 s5.2.1).bind fun u14 => (m26_net_Cut (GNetNet.mk b13.2.1 b13.2.2.1 b13.2.2.2) u14).bind fun v15 => (iter (m6_l22_NetLinks_s17 a1 s5 v15) fuel 0).bind fun x => match x with | .inl r => some (.ret r) | .inr e20 => m6_l22_NetLinks_k16 s5 b13 v15 e20) else (some (.cont (b13.1, (wI (s5.2.1 + 1)), b13.2.1, b13.2.2.1, b13.2.2.2)))

def m6_l22_NetLinks_k25 (a1 : List Int) (s5 : Int × Int × (List GNetLink) × (List GNetPacket) × Int) (v12 : GNetNet × Int × Int) (b25 : Unit) : Option (LR (Int × Int × (List GNetLink) × (List GNetPacket) × Int) ((List GNetLink) × (List GNetPacket) × Int) (Bool)) :=
  m6_l22_NetLinks_k13 a1 s5 (v12.2.1, v12.1.Links, v12.1.Packets, v12.1.Next)

def m6_l22_NetLinks_s5 (a0 : List GAnon72) (a1 : List Int) (s5 : Int × Int × (List GNetLink) × (List GNetPacket) × Int) : Option (LR (Int × Int × (List GNetLink) × (List GNetPacket) × Int) ((List GNetLink) × (List GNetPacket) × Int) (Bool)) :=
  if (decide (s5.2.1 < (a0.length : Int))) then ((idx a0 s5.2.1).bind fun u6 => (m32_net_Of (GNetNet.mk s5.2.2.1 s5.2.2.2.1 s5.2.2.2.2) u6.R0).bind fun v7 => (idx a0 s5.2.1).bind fun u8 => (m33_net_At (GNetNet.mk s5.2.2.1 s5.2.2.2.1 s5.2.2.2.2) u8.R1).bind fun v9 => (idx a0 s5.2.1).bind fun u10 => (idx a0 s5.2.1).bind fun u11 => (m11_net_Open (GNetNet.mk s5.2.2.1 s5.2.2.2.1 s5.2.2.2.2) u10.R0 u11.R1).bind fun v12 => if (decide (v12.2.2 = 0)) then ((idx a0 s5.2.1).bind fun u21 => (m32_net_Of v12.1 u21.R0).bind fun v22 => (idx a0 s5.2.1).bind fun u23 => (m33_net_At v12.1 u23.R1).bind fun v24 => if v7.2 then (some (.ret false)) else (if v9.2 then (some (.ret false)) else (if (!v22.2) then (some (.ret false)) else (if (!v24.2) then (some (.ret false)) else (if (!((decide (v22.1.ID = v24.1.ID)) && ((decide (v22.1.Client = v24.1.Client)) && ((decide (v22.1.Conn = v24.1.Conn)) && true)))) then (some (.ret false)) else (if (!decide (v22.1.ID = v12.2.1)) then (some (.ret false)) else (if (decide (v12.2.1 ≤ s5.1)) then (some (.ret false)) else (m6_l22_NetLinks_k25 a1 s5 v12 ())))))))) else (if (!v7.2) then (if (!v9.2) then (if (decide (v12.2.2 = 7)) then (some (.ret false)) else (m6_l22_NetLinks_k13 a1 s5 (s5.1, s5.2.2.1, s5.2.2.2.1, s5.2.2.2.2))) else (m6_l22_NetLinks_k13 a1 s5 (s5.1, s5.2.2.1, s5.2.2.2.1, s5.2.2.2.2))) else (m6_l22_NetLinks_k13 a1 s5 (s5.1, s5.2.2.1, s5.2.2.2.1, s5.2.2.2.2)))) else (some (.brk (s5.2.2.1, s5.2.2.2.1, s5.2.2.2.2)))

def m6_l22_NetLinks_k2 (a0 : List GAnon72) (a1 : List Int) (v1 : Bool) (b2 : Unit) : Option Bool :=
  (iter (m6_l22_NetLinks_s5 a0 a1) fuel ((-1), 0, ([] : List GNetLink), ([] : List GNetPacket), 0)).bind fun x => match x with | .inl r => some r | .inr e26 => m6_l22_NetLinks_k3 v1 e26
def m6_l22_NetLinks (a0 : List GAnon72) (a1 : List Int) : Option Bool :=
  (m8_l22_awake).bind fun v1 => if (decide (60 < (a0.length : Int))) then (some v1) else (if (decide (60 < (a1.length : Int))) then (some v1) else (m6_l22_NetLinks_k2 a0 a1 v1 ()))

set_option maxRecDepth 100000 in
theorem m6_l22_NetLinks_c {a0 : List GAnon72} {a1 : List Int} {r : Bool} (h : m6_l22_NetLinks a0 a1 = some r) : CallsA Try.prog 6 [.one (.sl a0.length (a0.flatMap eGAnon72)), .one (.sl a1.length (a1.flatMap eI))] (· = .s (.one (.b r))) := by
  unfold m6_l22_NetLinks at h
  refine callsA_of Try.func6 rfl (nt := 175) rfl (Nat.le_of_ble_eq_true rfl) ?_
  intro w0 S0
  refine cseq ?_
  refine cregion ?_
  refine sv rfl (opv_as rfl) ?_
  refine snil ?_
  refine cseq ?_
  refine cregion ?_
  obtain ⟨v1, hv1, h⟩ := bind_eq h
  refine scall1 rfl fn8 opnds_nil (pubA_id rfl) (m8_l22_awake_c hv1) ?_
  refine sv rfl (opv_as rfl) ?_
  refine snil ?_
  refine cseq ?_
  refine cseq ?_
  refine cjoin3 (Unit) (fun b2 => [(0, .s (.one (.sl a0.length (a0.flatMap eGAnon72)))), (1, .s (.one (.sl a1.length (a1.flatMap eI)))), (5, .s (.one (.b v1)))]) (fun b2 => []) (fun b2 => m6_l22_NetLinks_k2 a0 a1 v1 b2 = some r) (fun _ _ => inbL_of rfl) (fun _ _ => blkinb_of rfl) (fun _ _ => Nat.le_of_ble_eq_true rfl) (fun b2 h => ?_) ?_
  · unfold m6_l22_NetLinks_k2 at h
    refine cseq ?_
    refine cregion ?_
    refine sv rfl (opv_build zi32 pi32 parts_nil (.nil _)) ?_
    refine salloc rfl zi32 ?_
    refine sstore sz32 rfl rfl rfl rfl (Nat.le_of_ble_eq_true rfl) ?_
    refine smem [.box [.raw (.slice none 0 0), .raw (.slice none 0 0), .i .i64 0]] rfl ?_
    refine snil ?_
    refine cseq ?_
    refine cregion ?_
    refine sv rfl (opv_as rfl) ?_
    refine snil ?_
    refine cseq ?_
    refine cseq ?_
    refine cregion ?_
    refine sv rfl (opv_as rfl) ?_
    refine snil ?_
    refine cjoin ((List GNetLink) × (List GNetPacket) × Int) (fun b3 => [(5, .s (.one (.b v1))), (6, .s (.one (.lp 0 0)))]) (fun b3 => [.box [.sl b3.1.length (b3.1.flatMap eGNetLink), .sl b3.2.1.length (b3.2.1.flatMap eGNetPacket), .i .i64 b3.2.2]]) (fun b3 => m6_l22_NetLinks_k3 v1 b3 = some r) (fun _ _ => inbL_of rfl) (fun _ _ => blkinb_of rfl) (fun _ _ => Nat.le_of_ble_eq_true rfl) (fun b3 h => ?_) ?_
    · unfold m6_l22_NetLinks_k3 at h
      refine cseq ?_
      refine cregion ?_
      refine sv rfl (opv_mv rfl) ?_
      refine sv rfl (opv_mv rfl) ?_
      refine ssplit 165 rfl (fun hc => ?_) (fun hc => ?_)
      · replace h := ite_t hc h
        clear hc
        refine son rfl rfl rfl ?_
        refine sv rfl (opv_loadN ti32 rfl (.lp _ _ _ rfl) (Nat.le_of_ble_eq_true rfl)) ?_
        refine son rfl rfl rfl ?_
        obtain ⟨v4, hv4, h⟩ := bind_eq h
        refine scall1 rfl fn30 (opnds_cons rfl opnds_nil) (pubA_id rfl) (m30_net_Sane_c hv4) ?_
        refine sv rfl (opv_pick_t rfl rfl) ?_
        refine sv rfl (opv_mv rfl) ?_
        refine ssplit 169 rfl (fun hc => ?_) (fun hc => ?_)
        · replace h := ite_t hc h
          clear hc
          refine son rfl rfl rfl ?_
          refine sv rfl (opv_fieldAddr_lp fi32_0 rfl) ?_
          refine son rfl rfl rfl ?_
          refine sv rfl (opv_load1 ti29 rfl (.lp _ _ _ rfl) rfl) ?_
          refine son rfl rfl rfl ?_
          refine sv rfl (opv_len_sl si29 rfl) ?_
          refine son rfl rfl rfl ?_
          refine sv rfl (opv_leq rfl rfl) ?_
          refine sv rfl (opv_pick_t rfl rfl) ?_
          refine sv rfl (opv_as rfl) ?_
          refine snil ?_
          refine cret ?_
          obtain rfl := Option.some.inj h
          refine ⟨Or.inr rfl, _, _, _, (resVs_cons (ResV.tmp _ _ rfl) resVs_nil), (pubA_id rfl), ?_⟩
          rfl
        · replace h := ite_f hc h
          clear hc
          refine soff rfl rfl rfl rfl ?_
          refine soff rfl rfl rfl rfl ?_
          refine soff rfl rfl rfl rfl ?_
          refine soff rfl rfl rfl rfl ?_
          refine sv rfl (opv_pick_f rfl rfl) ?_
          refine sv rfl (opv_as rfl) ?_
          refine snil ?_
          refine cret ?_
          obtain rfl := Option.some.inj h
          refine ⟨Or.inr rfl, _, _, _, (resVs_cons (ResV.tmp _ _ rfl) resVs_nil), (pubA_id rfl), ?_⟩
          rfl
      · replace h := ite_f hc h
        clear hc
        refine soff rfl rfl rfl rfl ?_
        refine soff rfl rfl rfl rfl ?_
        refine sv rfl (opv_pick_f rfl rfl) ?_
        refine sv rfl (opv_mv rfl) ?_
        refine soff rfl rfl rfl rfl ?_
        refine soff rfl rfl rfl rfl ?_
        refine soff rfl rfl rfl rfl ?_
        refine soff rfl rfl rfl rfl ?_
        refine sv rfl (opv_pick_f rfl rfl) ?_
        refine sv rfl (opv_as rfl) ?_
        refine snil ?_
        refine cret ?_
        obtain rfl := Option.some.inj h
        refine ⟨Or.inr rfl, _, _, _, (resVs_cons (ResV.tmp _ _ rfl) resVs_nil), (pubA_id rfl), ?_⟩
        rfl
    · skip
      refine cblock ?_
      refine cpubbox 0 0 rfl rfl PubL.nil rfl ?_
      refine cpubbox 0 1 rfl rfl PubL.nil rfl ?_
      obtain ⟨x5, hx5, ho5⟩ := bind_eq h
      refine awc_loop (G := Nat × (Int × Int × (List GNetLink) × (List GNetPacket) × Int)) (fun g => [(0, .s (.one (.sl a0.length (a0.flatMap eGAnon72)))), (1, .s (.one (.sl a1.length (a1.flatMap eI)))), (5, .s (.one (.b v1))), (6, .s (.one (.lp 0 0))), (7, .s (.one (.i .i64 g.2.1))), (8, .s (.one (.i .i64 g.2.2.1)))]) (fun g => [.box [.sl g.2.2.2.1.length (g.2.2.2.1.flatMap eGNetLink), .sl g.2.2.2.2.1.length (g.2.2.2.2.1.flatMap eGNetPacket), .i .i64 g.2.2.2.2.2]]) (fun g => iter (m6_l22_NetLinks_s5 a0 a1) g.1 g.2 = some x5) (fun g => g.1) (fuel, ((-1), 0, ([] : List GNetLink), ([] : List GNetPacket), 0)) hx5 ⟨rfl, rfl, rfl, rfl, rfl, rfl, trivial⟩ [] rfl (fun _ _ => inbL_of rfl) (fun _ _ => blkinb_of rfl) (fun _ _ => Nat.le_of_ble_eq_true rfl) ?_
      clear hx5 h
      rintro ⟨n5, s5⟩ h
      obtain ⟨n5, y5, rfl, h, hk5⟩ := iter_eq h
      unfold m6_l22_NetLinks_s5 at h
      refine cseq ?_
      refine cseq ?_
      refine cregion ?_
      refine sv rfl (opv_mv rfl) ?_
      refine sv rfl (opv_mv rfl) ?_
      refine sv rfl (opv_len_sl si66 rfl) ?_
      refine sv rfl (opv_lss rfl rfl) ?_
      refine snil ?_
      refine ccond rfl (fun hc => ?_) (fun hc => ?_)
      · replace h := ite_t hc h
        clear hc
        refine cskip ?_
        refine then_normal ?_
        refine cseq ?_
        refine cblock ?_
        refine cseq ?_
        refine chole ?_
        obtain ⟨u6, hu6, h⟩ := bind_eq h
        obtain ⟨v7, hv7, h⟩ := bind_eq h
        refine cdraw_e [10, 11] [0, 0, 0, 6, 14, 30, 63, 127, 255, 255, 0, 1535, 4095] [[.box [.sl s5.2.2.1.length (s5.2.2.1.flatMap eGNetLink), .sl s5.2.2.2.1.length (s5.2.2.2.1.flatMap eGNetPacket), .i .i64 s5.2.2.2.2], .hole], [.box [.sl s5.2.2.1.length (s5.2.2.1.flatMap eGNetLink), .sl s5.2.2.2.1.length (s5.2.2.2.1.flatMap eGNetPacket), .i .i64 s5.2.2.2.2], .box [.i .i64 0, .i .i64 0, .i .i64 0]], [.box [.sl s5.2.2.1.length (s5.2.2.1.flatMap eGNetLink), .sl s5.2.2.2.1.length (s5.2.2.2.1.flatMap eGNetPacket), .i .i64 s5.2.2.2.2], .box v7.1]] (by kernel_rfl) mixed (by kernel_rfl) (by decide) rfl rfl rfl rfl ?_
        refine ev (sees_all (md := [.box [.sl s5.2.2.1.length (s5.2.2.1.flatMap eGNetLink), .sl s5.2.2.2.1.length (s5.2.2.2.1.flatMap eGNetPacket), .i .i64 s5.2.2.2.2], .dead]) ⟨⟨rfl, ⟨trivial, trivial⟩⟩, ⟨⟨rfl, ⟨trivial, trivial⟩⟩, ⟨⟨rfl, ⟨trivial, trivial⟩⟩, trivial⟩⟩⟩) rfl rfl (opv_loadN ti32 rfl (.lp _ _ _ rfl) (Nat.le_of_ble_eq_true rfl)) ?_
        refine emv rfl rfl (fun _ => opv_mv rfl) ?_
        refine emv rfl rfl (fun _ => opv_mv rfl) ?_
        refine ev (sees_all (md := [.box [.sl s5.2.2.1.length (s5.2.2.1.flatMap eGNetLink), .sl s5.2.2.2.1.length (s5.2.2.2.1.flatMap eGNetPacket), .i .i64 s5.2.2.2.2], .dead]) ⟨⟨rfl, ⟨trivial, trivial⟩⟩, ⟨⟨rfl, ⟨trivial, trivial⟩⟩, ⟨⟨rfl, ⟨trivial, trivial⟩⟩, trivial⟩⟩⟩) rfl rfl (opv_ix (f := eGAnon72) si66 (fun _ => rfl) rfl rfl rfl rfl hu6) ?_
        refine ev (sees_all (md := [.box [.sl s5.2.2.1.length (s5.2.2.1.flatMap eGNetLink), .sl s5.2.2.2.1.length (s5.2.2.2.1.flatMap eGNetPacket), .i .i64 s5.2.2.2.2], .dead]) ⟨⟨rfl, ⟨trivial, trivial⟩⟩, ⟨⟨rfl, ⟨trivial, trivial⟩⟩, ⟨⟨rfl, ⟨trivial, trivial⟩⟩, trivial⟩⟩⟩) rfl rfl (opv_ixcp (o := 0) ai72 rfl rfl (by decide)) ?_
        refine ev (sees_all (md := [.box [.sl s5.2.2.1.length (s5.2.2.1.flatMap eGNetLink), .sl s5.2.2.2.1.length (s5.2.2.2.1.flatMap eGNetPacket), .i .i64 s5.2.2.2.2], .dead]) ⟨⟨rfl, ⟨trivial, trivial⟩⟩, ⟨⟨rfl, ⟨trivial, trivial⟩⟩, ⟨⟨rfl, ⟨trivial, trivial⟩⟩, trivial⟩⟩⟩) rfl rfl (opv_load1 ti3 rfl (.cp _) rfl) ?_
        refine ed (sees_all (md := [.box [.sl s5.2.2.1.length (s5.2.2.1.flatMap eGNetLink), .sl s5.2.2.2.1.length (s5.2.2.2.1.flatMap eGNetPacket), .i .i64 s5.2.2.2.2], .dead]) ⟨⟨rfl, ⟨trivial, trivial⟩⟩, ⟨⟨rfl, ⟨trivial, trivial⟩⟩, ⟨⟨rfl, ⟨trivial, trivial⟩⟩, trivial⟩⟩⟩) rfl rfl (opD_call fn32 (opnds_cons rfl (opnds_cons rfl opnds_nil)) rfl (m32_net_Of_c hv7)) ?_
        refine emv rfl rfl (fun _ => opv_mvt rfl) ?_
        refine ev (sees_all (md := [.box [.sl s5.2.2.1.length (s5.2.2.1.flatMap eGNetLink), .sl s5.2.2.2.1.length (s5.2.2.2.1.flatMap eGNetPacket), .i .i64 s5.2.2.2.2], .dead]) ⟨⟨rfl, ⟨trivial, trivial⟩⟩, ⟨⟨rfl, ⟨trivial, trivial⟩⟩, ⟨⟨rfl, ⟨trivial, trivial⟩⟩, trivial⟩⟩⟩) rfl rfl (opv_extract rfl rfl) ?_
        refine ev (sees_all (md := [.box [.sl s5.2.2.1.length (s5.2.2.1.flatMap eGNetLink), .sl s5.2.2.2.1.length (s5.2.2.2.1.flatMap eGNetPacket), .i .i64 s5.2.2.2.2], .dead]) ⟨⟨rfl, ⟨trivial, trivial⟩⟩, ⟨⟨rfl, ⟨trivial, trivial⟩⟩, ⟨⟨rfl, ⟨trivial, trivial⟩⟩, trivial⟩⟩⟩) rfl rfl (opv_extract rfl rfl) ?_
        refine ee (x := .s (.one (.lp 1 0))) 0 rfl rfl rfl rfl rfl (fun ζ => ?_) ?_
        · refine salloc_at 1 rfl zi69 rfl ?_
          exact eend
        refine ee0 1 rfl rfl rfl rfl (fun ζ => ?_) ?_
        · refine sstore sz69 rfl rfl rfl rfl (Nat.le_of_ble_eq_true rfl) ?_
          refine smem [.box [.sl s5.2.2.1.length (s5.2.2.1.flatMap eGNetLink), .sl s5.2.2.2.1.length (s5.2.2.2.1.flatMap eGNetPacket), .i .i64 s5.2.2.2.2], .box v7.1] rfl ?_
          exact eend
        refine ev (sees_at 2 rfl rfl) rfl rfl (opv_as rfl) ?_
        refine enil ?_
        refine then_normal ?_
        refine cseq ?_
        refine chole ?_
        obtain ⟨u8, hu8, h⟩ := bind_eq h
        obtain ⟨v9, hv9, h⟩ := bind_eq h
        refine cdraw_e [10, 11] [0, 0, 0, 6, 14, 30, 63, 127, 255, 255, 0, 1535, 4095] [[.box [.sl s5.2.2.1.length (s5.2.2.1.flatMap eGNetLink), .sl s5.2.2.2.1.length (s5.2.2.2.1.flatMap eGNetPacket), .i .i64 s5.2.2.2.2], .box v7.1, .hole], [.box [.sl s5.2.2.1.length (s5.2.2.1.flatMap eGNetLink), .sl s5.2.2.2.1.length (s5.2.2.2.1.flatMap eGNetPacket), .i .i64 s5.2.2.2.2], .box v7.1, .box [.i .i64 0, .i .i64 0, .i .i64 0]], [.box [.sl s5.2.2.1.length (s5.2.2.1.flatMap eGNetLink), .sl s5.2.2.2.1.length (s5.2.2.2.1.flatMap eGNetPacket), .i .i64 s5.2.2.2.2], .box v7.1, .box v9.1]] (by kernel_rfl) mixed (by kernel_rfl) (by decide) rfl rfl rfl rfl ?_
        refine ev (sees_all (md := [.box [.sl s5.2.2.1.length (s5.2.2.1.flatMap eGNetLink), .sl s5.2.2.2.1.length (s5.2.2.2.1.flatMap eGNetPacket), .i .i64 s5.2.2.2.2], .box v7.1, .dead]) ⟨⟨rfl, ⟨rfl, ⟨trivial, trivial⟩⟩⟩, ⟨⟨rfl, ⟨rfl, ⟨trivial, trivial⟩⟩⟩, ⟨⟨rfl, ⟨rfl, ⟨trivial, trivial⟩⟩⟩, trivial⟩⟩⟩) rfl rfl (opv_loadN ti32 rfl (.lp _ _ _ rfl) (Nat.le_of_ble_eq_true rfl)) ?_
        refine emv rfl rfl (fun _ => opv_mv rfl) ?_
        refine emv rfl rfl (fun _ => opv_mv rfl) ?_
        refine ev (sees_all (md := [.box [.sl s5.2.2.1.length (s5.2.2.1.flatMap eGNetLink), .sl s5.2.2.2.1.length (s5.2.2.2.1.flatMap eGNetPacket), .i .i64 s5.2.2.2.2], .box v7.1, .dead]) ⟨⟨rfl, ⟨rfl, ⟨trivial, trivial⟩⟩⟩, ⟨⟨rfl, ⟨rfl, ⟨trivial, trivial⟩⟩⟩, ⟨⟨rfl, ⟨rfl, ⟨trivial, trivial⟩⟩⟩, trivial⟩⟩⟩) rfl rfl (opv_ix (f := eGAnon72) si66 (fun _ => rfl) rfl rfl rfl rfl hu8) ?_
        refine ev (sees_all (md := [.box [.sl s5.2.2.1.length (s5.2.2.1.flatMap eGNetLink), .sl s5.2.2.2.1.length (s5.2.2.2.1.flatMap eGNetPacket), .i .i64 s5.2.2.2.2], .box v7.1, .dead]) ⟨⟨rfl, ⟨rfl, ⟨trivial, trivial⟩⟩⟩, ⟨⟨rfl, ⟨rfl, ⟨trivial, trivial⟩⟩⟩, ⟨⟨rfl, ⟨rfl, ⟨trivial, trivial⟩⟩⟩, trivial⟩⟩⟩) rfl rfl (opv_ixcp (o := 1) ai72 rfl rfl (by decide)) ?_
        refine ev (sees_all (md := [.box [.sl s5.2.2.1.length (s5.2.2.1.flatMap eGNetLink), .sl s5.2.2.2.1.length (s5.2.2.2.1.flatMap eGNetPacket), .i .i64 s5.2.2.2.2], .box v7.1, .dead]) ⟨⟨rfl, ⟨rfl, ⟨trivial, trivial⟩⟩⟩, ⟨⟨rfl, ⟨rfl, ⟨trivial, trivial⟩⟩⟩, ⟨⟨rfl, ⟨rfl, ⟨trivial, trivial⟩⟩⟩, trivial⟩⟩⟩) rfl rfl (opv_load1 ti3 rfl (.cp _) rfl) ?_
        refine ed (sees_all (md := [.box [.sl s5.2.2.1.length (s5.2.2.1.flatMap eGNetLink), .sl s5.2.2.2.1.length (s5.2.2.2.1.flatMap eGNetPacket), .i .i64 s5.2.2.2.2], .box v7.1, .dead]) ⟨⟨rfl, ⟨rfl, ⟨trivial, trivial⟩⟩⟩, ⟨⟨rfl, ⟨rfl, ⟨trivial, trivial⟩⟩⟩, ⟨⟨rfl, ⟨rfl, ⟨trivial, trivial⟩⟩⟩, trivial⟩⟩⟩) rfl rfl (opD_call fn33 (opnds_cons rfl (opnds_cons rfl opnds_nil)) rfl (m33_net_At_c hv9)) ?_
        refine emv rfl rfl (fun _ => opv_mvt rfl) ?_
        refine ev (sees_all (md := [.box [.sl s5.2.2.1.length (s5.2.2.1.flatMap eGNetLink), .sl s5.2.2.2.1.length (s5.2.2.2.1.flatMap eGNetPacket), .i .i64 s5.2.2.2.2], .box v7.1, .dead]) ⟨⟨rfl, ⟨rfl, ⟨trivial, trivial⟩⟩⟩, ⟨⟨rfl, ⟨rfl, ⟨trivial, trivial⟩⟩⟩, ⟨⟨rfl, ⟨rfl, ⟨trivial, trivial⟩⟩⟩, trivial⟩⟩⟩) rfl rfl (opv_extract rfl rfl) ?_
        refine ev (sees_all (md := [.box [.sl s5.2.2.1.length (s5.2.2.1.flatMap eGNetLink), .sl s5.2.2.2.1.length (s5.2.2.2.1.flatMap eGNetPacket), .i .i64 s5.2.2.2.2], .box v7.1, .dead]) ⟨⟨rfl, ⟨rfl, ⟨trivial, trivial⟩⟩⟩, ⟨⟨rfl, ⟨rfl, ⟨trivial, trivial⟩⟩⟩, ⟨⟨rfl, ⟨rfl, ⟨trivial, trivial⟩⟩⟩, trivial⟩⟩⟩) rfl rfl (opv_extract rfl rfl) ?_
        refine ee (x := .s (.one (.lp 2 0))) 0 rfl rfl rfl rfl rfl (fun ζ => ?_) ?_
        · refine salloc_at 2 rfl zi69 rfl ?_
          exact eend
        refine ee0 1 rfl rfl rfl rfl (fun ζ => ?_) ?_
        · refine sstore sz69 rfl rfl rfl rfl (Nat.le_of_ble_eq_true rfl) ?_
          refine smem [.box [.sl s5.2.2.1.length (s5.2.2.1.flatMap eGNetLink), .sl s5.2.2.2.1.length (s5.2.2.2.1.flatMap eGNetPacket), .i .i64 s5.2.2.2.2], .box v7.1, .box v9.1] rfl ?_
          exact eend
        refine ev (sees_at 2 rfl rfl) rfl rfl (opv_as rfl) ?_
        refine enil ?_
        refine then_normal ?_
        refine cseq ?_
        refine chole ?_
        obtain ⟨u10, hu10, h⟩ := bind_eq h
        obtain ⟨u11, hu11, h⟩ := bind_eq h
        obtain ⟨v12, hv12, h⟩ := bind_eq h
        refine cdraw_e [16, 17] [0, 0, 0, 6, 14, 30, 0, 0, 192, 448, 960, 2047, 4095, 8191, 8191, 8191, 0, 81919, 229375, 524287] [[.box [.sl s5.2.2.1.length (s5.2.2.1.flatMap eGNetLink), .sl s5.2.2.2.1.length (s5.2.2.2.1.flatMap eGNetPacket), .i .i64 s5.2.2.2.2], .box v7.1, .box v9.1, .hole], [.box [.sl s5.2.2.1.length (s5.2.2.1.flatMap eGNetLink), .sl s5.2.2.2.1.length (s5.2.2.2.1.flatMap eGNetPacket), .i .i64 s5.2.2.2.2], .box v7.1, .box v9.1, .box [.raw (.slice none 0 0), .raw (.slice none 0 0), .i .i64 0]], [.box [.sl s5.2.2.1.length (s5.2.2.1.flatMap eGNetLink), .sl s5.2.2.2.1.length (s5.2.2.2.1.flatMap eGNetPacket), .i .i64 s5.2.2.2.2], .box v7.1, .box v9.1, .box v12.1]] (by kernel_rfl) mixed (by kernel_rfl) (by decide) rfl rfl rfl rfl ?_
        refine ev (sees_all (md := [.box [.sl s5.2.2.1.length (s5.2.2.1.flatMap eGNetLink), .sl s5.2.2.2.1.length (s5.2.2.2.1.flatMap eGNetPacket), .i .i64 s5.2.2.2.2], .box v7.1, .box v9.1, .dead]) ⟨⟨rfl, ⟨rfl, ⟨rfl, ⟨trivial, trivial⟩⟩⟩⟩, ⟨⟨rfl, ⟨rfl, ⟨rfl, ⟨trivial, trivial⟩⟩⟩⟩, ⟨⟨rfl, ⟨rfl, ⟨rfl, ⟨trivial, trivial⟩⟩⟩⟩, trivial⟩⟩⟩) rfl rfl (opv_loadN ti32 rfl (.lp _ _ _ rfl) (Nat.le_of_ble_eq_true rfl)) ?_
        refine emv rfl rfl (fun _ => opv_mv rfl) ?_
        refine emv rfl rfl (fun _ => opv_mv rfl) ?_
        refine ev (sees_all (md := [.box [.sl s5.2.2.1.length (s5.2.2.1.flatMap eGNetLink), .sl s5.2.2.2.1.length (s5.2.2.2.1.flatMap eGNetPacket), .i .i64 s5.2.2.2.2], .box v7.1, .box v9.1, .dead]) ⟨⟨rfl, ⟨rfl, ⟨rfl, ⟨trivial, trivial⟩⟩⟩⟩, ⟨⟨rfl, ⟨rfl, ⟨rfl, ⟨trivial, trivial⟩⟩⟩⟩, ⟨⟨rfl, ⟨rfl, ⟨rfl, ⟨trivial, trivial⟩⟩⟩⟩, trivial⟩⟩⟩) rfl rfl (opv_ix (f := eGAnon72) si66 (fun _ => rfl) rfl rfl rfl rfl hu10) ?_
        refine ev (sees_all (md := [.box [.sl s5.2.2.1.length (s5.2.2.1.flatMap eGNetLink), .sl s5.2.2.2.1.length (s5.2.2.2.1.flatMap eGNetPacket), .i .i64 s5.2.2.2.2], .box v7.1, .box v9.1, .dead]) ⟨⟨rfl, ⟨rfl, ⟨rfl, ⟨trivial, trivial⟩⟩⟩⟩, ⟨⟨rfl, ⟨rfl, ⟨rfl, ⟨trivial, trivial⟩⟩⟩⟩, ⟨⟨rfl, ⟨rfl, ⟨rfl, ⟨trivial, trivial⟩⟩⟩⟩, trivial⟩⟩⟩) rfl rfl (opv_ixcp (o := 0) ai72 rfl rfl (by decide)) ?_
        refine ev (sees_all (md := [.box [.sl s5.2.2.1.length (s5.2.2.1.flatMap eGNetLink), .sl s5.2.2.2.1.length (s5.2.2.2.1.flatMap eGNetPacket), .i .i64 s5.2.2.2.2], .box v7.1, .box v9.1, .dead]) ⟨⟨rfl, ⟨rfl, ⟨rfl, ⟨trivial, trivial⟩⟩⟩⟩, ⟨⟨rfl, ⟨rfl, ⟨rfl, ⟨trivial, trivial⟩⟩⟩⟩, ⟨⟨rfl, ⟨rfl, ⟨rfl, ⟨trivial, trivial⟩⟩⟩⟩, trivial⟩⟩⟩) rfl rfl (opv_load1 ti3 rfl (.cp _) rfl) ?_
        refine emv rfl rfl (fun _ => opv_mv rfl) ?_
        refine emv rfl rfl (fun _ => opv_mv rfl) ?_
        refine ev (sees_all (md := [.box [.sl s5.2.2.1.length (s5.2.2.1.flatMap eGNetLink), .sl s5.2.2.2.1.length (s5.2.2.2.1.flatMap eGNetPacket), .i .i64 s5.2.2.2.2], .box v7.1, .box v9.1, .dead]) ⟨⟨rfl, ⟨rfl, ⟨rfl, ⟨trivial, trivial⟩⟩⟩⟩, ⟨⟨rfl, ⟨rfl, ⟨rfl, ⟨trivial, trivial⟩⟩⟩⟩, ⟨⟨rfl, ⟨rfl, ⟨rfl, ⟨trivial, trivial⟩⟩⟩⟩, trivial⟩⟩⟩) rfl rfl (opv_ix (f := eGAnon72) si66 (fun _ => rfl) rfl rfl rfl rfl hu11) ?_
        refine ev (sees_all (md := [.box [.sl s5.2.2.1.length (s5.2.2.1.flatMap eGNetLink), .sl s5.2.2.2.1.length (s5.2.2.2.1.flatMap eGNetPacket), .i .i64 s5.2.2.2.2], .box v7.1, .box v9.1, .dead]) ⟨⟨rfl, ⟨rfl, ⟨rfl, ⟨trivial, trivial⟩⟩⟩⟩, ⟨⟨rfl, ⟨rfl, ⟨rfl, ⟨trivial, trivial⟩⟩⟩⟩, ⟨⟨rfl, ⟨rfl, ⟨rfl, ⟨trivial, trivial⟩⟩⟩⟩, trivial⟩⟩⟩) rfl rfl (opv_ixcp (o := 1) ai72 rfl rfl (by decide)) ?_
        refine ev (sees_all (md := [.box [.sl s5.2.2.1.length (s5.2.2.1.flatMap eGNetLink), .sl s5.2.2.2.1.length (s5.2.2.2.1.flatMap eGNetPacket), .i .i64 s5.2.2.2.2], .box v7.1, .box v9.1, .dead]) ⟨⟨rfl, ⟨rfl, ⟨rfl, ⟨trivial, trivial⟩⟩⟩⟩, ⟨⟨rfl, ⟨rfl, ⟨rfl, ⟨trivial, trivial⟩⟩⟩⟩, ⟨⟨rfl, ⟨rfl, ⟨rfl, ⟨trivial, trivial⟩⟩⟩⟩, trivial⟩⟩⟩) rfl rfl (opv_load1 ti3 rfl (.cp _) rfl) ?_
        refine ed (sees_all (md := [.box [.sl s5.2.2.1.length (s5.2.2.1.flatMap eGNetLink), .sl s5.2.2.2.1.length (s5.2.2.2.1.flatMap eGNetPacket), .i .i64 s5.2.2.2.2], .box v7.1, .box v9.1, .dead]) ⟨⟨rfl, ⟨rfl, ⟨rfl, ⟨trivial, trivial⟩⟩⟩⟩, ⟨⟨rfl, ⟨rfl, ⟨rfl, ⟨trivial, trivial⟩⟩⟩⟩, ⟨⟨rfl, ⟨rfl, ⟨rfl, ⟨trivial, trivial⟩⟩⟩⟩, trivial⟩⟩⟩) rfl rfl (opD_call fn11 (opnds_cons rfl (opnds_cons rfl (opnds_cons rfl opnds_nil))) rfl (m11_net_Open_c hv12)) ?_
        refine emv rfl rfl (fun _ => opv_mvt rfl) ?_
        refine ev (sees_all (md := [.box [.sl s5.2.2.1.length (s5.2.2.1.flatMap eGNetLink), .sl s5.2.2.2.1.length (s5.2.2.2.1.flatMap eGNetPacket), .i .i64 s5.2.2.2.2], .box v7.1, .box v9.1, .dead]) ⟨⟨rfl, ⟨rfl, ⟨rfl, ⟨trivial, trivial⟩⟩⟩⟩, ⟨⟨rfl, ⟨rfl, ⟨rfl, ⟨trivial, trivial⟩⟩⟩⟩, ⟨⟨rfl, ⟨rfl, ⟨rfl, ⟨trivial, trivial⟩⟩⟩⟩, trivial⟩⟩⟩) rfl rfl (opv_extract rfl rfl) ?_
        refine ev (sees_all (md := [.box [.sl s5.2.2.1.length (s5.2.2.1.flatMap eGNetLink), .sl s5.2.2.2.1.length (s5.2.2.2.1.flatMap eGNetPacket), .i .i64 s5.2.2.2.2], .box v7.1, .box v9.1, .dead]) ⟨⟨rfl, ⟨rfl, ⟨rfl, ⟨trivial, trivial⟩⟩⟩⟩, ⟨⟨rfl, ⟨rfl, ⟨rfl, ⟨trivial, trivial⟩⟩⟩⟩, ⟨⟨rfl, ⟨rfl, ⟨rfl, ⟨trivial, trivial⟩⟩⟩⟩, trivial⟩⟩⟩) rfl rfl (opv_extract rfl rfl) ?_
        refine ev (sees_all (md := [.box [.sl s5.2.2.1.length (s5.2.2.1.flatMap eGNetLink), .sl s5.2.2.2.1.length (s5.2.2.2.1.flatMap eGNetPacket), .i .i64 s5.2.2.2.2], .box v7.1, .box v9.1, .dead]) ⟨⟨rfl, ⟨rfl, ⟨rfl, ⟨trivial, trivial⟩⟩⟩⟩, ⟨⟨rfl, ⟨rfl, ⟨rfl, ⟨trivial, trivial⟩⟩⟩⟩, ⟨⟨rfl, ⟨rfl, ⟨rfl, ⟨trivial, trivial⟩⟩⟩⟩, trivial⟩⟩⟩) rfl rfl (opv_extract rfl rfl) ?_
        refine ee (x := .s (.one (.lp 3 0))) 0 rfl rfl rfl rfl rfl (fun ζ => ?_) ?_
        · refine salloc_at 3 rfl zi32 rfl ?_
          exact eend
        refine ee0 1 rfl rfl rfl rfl (fun ζ => ?_) ?_
        · refine sstore sz32 rfl rfl rfl rfl (Nat.le_of_ble_eq_true rfl) ?_
          refine smem [.box [.sl s5.2.2.1.length (s5.2.2.1.flatMap eGNetLink), .sl s5.2.2.2.1.length (s5.2.2.2.1.flatMap eGNetPacket), .i .i64 s5.2.2.2.2], .box v7.1, .box v9.1, .box v12.1] rfl ?_
          exact eend
        refine ev (sees_at 2 rfl rfl) rfl rfl (opv_as rfl) ?_
        refine ev (sees_at 2 rfl rfl) rfl rfl (opv_as rfl) ?_
        refine enil ?_
        refine then_normal ?_
        refine cseq ?_
        refine cseq ?_
        refine cregion ?_
        refine sv rfl (opv_mv rfl) ?_
        refine sv rfl (opv_ieql rfl rfl) ?_
        refine snil ?_
        refine cjoin (Int × (List GNetLink) × (List GNetPacket) × Int) (fun b13 => [(0, .s (.one (.sl a0.length (a0.flatMap eGAnon72)))), (1, .s (.one (.sl a1.length (a1.flatMap eI)))), (5, .s (.one (.b v1))), (6, .s (.one (.lp 0 0))), (7, .s (.one (.i .i64 b13.1))), (8, .s (.one (.i .i64 s5.2.1)))]) (fun b13 => [.box [.sl b13.2.1.length (b13.2.1.flatMap eGNetLink), .sl b13.2.2.1.length (b13.2.2.1.flatMap eGNetPacket), .i .i64 b13.2.2.2], .box v7.1, .box v9.1, .box v12.1]) (fun b13 => m6_l22_NetLinks_k13 a1 s5 b13 = some y5) (fun _ _ => inbL_of rfl) (fun _ _ => blkinb_of rfl) (fun _ _ => Nat.le_of_ble_eq_true rfl) (fun b13 h => ?_) ?_
        · unfold m6_l22_NetLinks_k13 at h
          refine cseq ?_
          refine cregion ?_
          refine sv rfl (opv_mv rfl) ?_
          refine sv rfl (opv_mv rfl) ?_
          refine sv rfl (opv_len_sl si67 rfl) ?_
          refine sv rfl (opv_lss rfl rfl) ?_
          refine snil ?_
          refine ccond rfl (fun hc => ?_) (fun hc => ?_)
          · replace h := ite_t hc h
            clear hc
            refine cseq ?_
            obtain ⟨u14, hu14, h⟩ := bind_eq h
            obtain ⟨v15, hv15, h⟩ := bind_eq h
            refine cdraw_e [6] [0, 0, 0, 6, 14, 31, 63] [[.box [.sl b13.2.1.length (b13.2.1.flatMap eGNetLink), .sl b13.2.2.1.length (b13.2.2.1.flatMap eGNetPacket), .i .i64 b13.2.2.2], .box v7.1, .box v9.1, .box v12.1], [.box v15, .box v7.1, .box v9.1, .box v12.1]] (by kernel_rfl) mixed (by kernel_rfl) (by decide) rfl rfl rfl rfl ?_
            refine ev (sees_at 0 rfl rfl) rfl rfl (opv_loadN ti32 rfl (.lp _ _ _ rfl) (Nat.le_of_ble_eq_true rfl)) ?_
            refine ev (sees_at 0 rfl rfl) rfl rfl (opv_mv rfl) ?_
            refine ev (sees_at 0 rfl rfl) rfl rfl (opv_mv rfl) ?_
            refine ev (sees_at 0 rfl rfl) rfl rfl (opv_ix (f := eI) si67 (fun _ => rfl) rfl rfl rfl rfl hu14) ?_
            refine ev (sees_at 0 rfl rfl) rfl rfl (opv_load1 ti3 rfl (.cp _) rfl) ?_
            refine ed (sees_at 0 rfl rfl) rfl rfl (opD_call fn26 (opnds_cons rfl (opnds_cons rfl opnds_nil)) rfl (m26_net_Cut_c hv15)) ?_
            refine ee0 0 rfl rfl rfl rfl (fun ζ => ?_) ?_
            · refine sstore sz32 rfl rfl rfl rfl (Nat.le_of_ble_eq_true rfl) ?_
              refine smem [.box v15, .box v7.1, .box v9.1, .box v12.1] rfl ?_
              exact eend
            refine enil ?_
            refine then_normal ?_
            refine cseq ?_
            refine cregion ?_
            refine sv rfl (opv_as rfl) ?_
            refine snil ?_
            refine cjoinb (Unit) (fun b16 => [(0, .s (.one (.sl a0.length (a0.flatMap eGAnon72)))), (1, .s (.one (.sl a1.length (a1.flatMap eI)))), (5, .s (.one (.b v1))), (6, .s (.one (.lp 0 0))), (7, .s (.one (.i .i64 b13.1))), (8, .s (.one (.i .i64 s5.2.1)))]) (fun b16 => [.box v15, .box v7.1, .box v9.1, .box v12.1]) (fun b16 => m6_l22_NetLinks_k16 s5 b13 v15 b16 = some y5) (fun _ _ => inbL_of rfl) (fun _ _ => blkinb_of rfl) (fun _ _ => Nat.le_of_ble_eq_true rfl) (fun b16 h => ?_) ?_
            · unfold m6_l22_NetLinks_k16 at h
              refine cregion ?_
              refine sv rfl (opv_mv rfl) ?_
              refine sv rfl (opv_add rfl rfl) ?_
              refine sv rfl (opv_as rfl) ?_
              refine snil ?_
              obtain rfl := Option.some.inj h
              exact ⟨(n5, (b13.1, (wI (s5.2.1 + 1)), v15.Links, v15.Packets, v15.Next)), _, hk5, ⟨rfl, rfl, rfl, rfl, rfl, rfl, trivial⟩, rfl, Nat.lt_succ_self _⟩
            · skip
              refine cblock ?_
              obtain ⟨x17, hx17, ho17⟩ := bind_eq h
              refine awc_loop (G := Nat × (Int)) (fun g => [(0, .s (.one (.sl a0.length (a0.flatMap eGAnon72)))), (1, .s (.one (.sl a1.length (a1.flatMap eI)))), (5, .s (.one (.b v1))), (6, .s (.one (.lp 0 0))), (7, .s (.one (.i .i64 b13.1))), (8, .s (.one (.i .i64 s5.2.1))), (20, .s (.one (.i .i64 g.2)))]) (fun g => [.box v15, .box v7.1, .box v9.1, .box v12.1]) (fun g => iter (m6_l22_NetLinks_s17 a1 s5 v15) g.1 g.2 = some x17) (fun g => g.1) (fuel, 0) hx17 ⟨rfl, rfl, rfl, rfl, rfl, rfl, rfl, trivial⟩ [] rfl (fun _ _ => inbL_of rfl) (fun _ _ => blkinb_of rfl) (fun _ _ => Nat.le_of_ble_eq_true rfl) ?_
              clear hx17 h
              rintro ⟨n17, s17⟩ h
              obtain ⟨n17, y17, rfl, h, hk17⟩ := iter_eq h
              unfold m6_l22_NetLinks_s17 at h
              refine cseq ?_
              refine cseq ?_
              refine cregion ?_
              refine sv rfl (opv_mv rfl) ?_
              refine sv rfl (opv_fieldAddr_lp fi32_0 rfl) ?_
              refine sv rfl (opv_load1 ti29 rfl (.lp _ _ _ rfl) rfl) ?_
              refine sv rfl (opv_len_sl si29 rfl) ?_
              refine sv rfl (opv_lss rfl rfl) ?_
              refine snil ?_
              refine ccond rfl (fun hc => ?_) (fun hc => ?_)
              · replace h := ite_t hc h
                clear hc
                refine cskip ?_
                refine then_normal ?_
                refine cseq ?_
                refine cblock ?_
                refine cseq ?_
                refine cdraw mixed (by kernel_rfl) ?_
                refine dv rfl (opv_fieldAddr_lp fi32_0 rfl) ?_
                refine dv rfl (opv_load1 ti29 rfl (.lp _ _ _ rfl) rfl) ?_
                refine dv rfl (opv_mv rfl) ?_
                obtain ⟨u18, hu18, h⟩ := bind_eq h
                refine dv rfl (opv_ix (f := eGNetLink) si29 (fun _ => rfl) rfl rfl rfl rfl hu18) ?_
                refine dv rfl (opv_fieldAddr_cp fi69_0 rfl) ?_
                refine dv rfl (opv_load1 ti3 rfl (.cp _) rfl) ?_
                refine dv rfl (opv_mv rfl) ?_
                refine dv rfl (opv_mv rfl) ?_
                obtain ⟨u19, hu19, h⟩ := bind_eq h
                refine dv rfl (opv_ix (f := eI) si67 (fun _ => rfl) rfl rfl rfl rfl hu19) ?_
                refine dv rfl (opv_load1 ti3 rfl (.cp _) rfl) ?_
                refine dv rfl (opv_ieql rfl rfl) ?_
                refine dnil ?_
                refine then_normal ?_
                refine ccond rfl (fun hc => ?_) (fun hc => ?_)
                · replace h := ite_t hc h
                  clear hc
                  refine cseq ?_
                  refine cregion ?_
                  refine sv rfl (opv_as rfl) ?_
                  refine snil ?_
                  refine cret ?_
                  refine block_ret ?_
                  refine then_ret ?_
                  refine then_ret ?_
                  refine block_ret ?_
                  refine block_ret ?_
                  refine then_ret ?_
                  refine then_ret ?_
                  refine block_ret ?_
                  refine then_ret ?_
                  obtain rfl := Option.some.inj h
                  obtain rfl : Sum.inl _ = x17 := hk17
                  replace ho17 : some _ = some _ := ho17
                  obtain rfl := Option.some.inj ho17
                  obtain rfl : Sum.inl _ = x5 := hk5
                  replace ho5 : some _ = some _ := ho5
                  obtain rfl := Option.some.inj ho5
                  refine ⟨Or.inr rfl, _, _, _, (resVs_cons (ResV.tmp _ _ rfl) resVs_nil), (pubA_id rfl), ?_⟩
                  rfl
                · replace h := ite_f hc h
                  clear hc
                  refine cskip ?_
                  refine block_normal ?_
                  refine then_normal ?_
                  refine cregion ?_
                  refine sv rfl (opv_mv rfl) ?_
                  refine sv rfl (opv_add rfl rfl) ?_
                  refine sv rfl (opv_as rfl) ?_
                  refine snil ?_
                  obtain rfl := Option.some.inj h
                  exact ⟨(n17, (wI (s17 + 1))), _, hk17, ⟨rfl, rfl, rfl, rfl, rfl, rfl, rfl, trivial⟩, rfl, Nat.lt_succ_self _⟩
              · replace h := ite_f hc h
                clear hc
                refine cexit ?_
                refine then_exit ?_
                refine then_exit ?_
                refine block_hit ?_
                refine block_normal ?_
                refine then_normal ?_
                obtain rfl := Option.some.inj h
                obtain rfl : _ = x17 := hk17
                exact ⟨(), _, ho17, ⟨rfl, rfl, rfl, rfl, rfl, rfl, trivial⟩, rfl⟩
          · replace h := ite_f hc h
            clear hc
            refine cskip ?_
            refine block_normal ?_
            refine then_normal ?_
            refine cregion ?_
            refine sv rfl (opv_mv rfl) ?_
            refine sv rfl (opv_add rfl rfl) ?_
            refine sv rfl (opv_as rfl) ?_
            refine snil ?_
            obtain rfl := Option.some.inj h
            exact ⟨(n5, (b13.1, (wI (s5.2.1 + 1)), b13.2.1, b13.2.2.1, b13.2.2.2)), _, hk5, ⟨rfl, rfl, rfl, rfl, rfl, rfl, trivial⟩, rfl, Nat.lt_succ_self _⟩
        · skip
          refine ccond rfl (fun hc => ?_) (fun hc => ?_)
          · replace h := ite_t hc h
            clear hc
            refine cseq ?_
            refine chole ?_
            obtain ⟨u21, hu21, h⟩ := bind_eq h
            obtain ⟨v22, hv22, h⟩ := bind_eq h
            refine cdraw_e [10, 11] [0, 0, 0, 6, 14, 30, 63, 127, 255, 255, 0, 1535, 4095] [[.box [.sl s5.2.2.1.length (s5.2.2.1.flatMap eGNetLink), .sl s5.2.2.2.1.length (s5.2.2.2.1.flatMap eGNetPacket), .i .i64 s5.2.2.2.2], .box v7.1, .box v9.1, .box v12.1, .hole], [.box [.sl s5.2.2.1.length (s5.2.2.1.flatMap eGNetLink), .sl s5.2.2.2.1.length (s5.2.2.2.1.flatMap eGNetPacket), .i .i64 s5.2.2.2.2], .box v7.1, .box v9.1, .box v12.1, .box [.i .i64 0, .i .i64 0, .i .i64 0]], [.box [.sl s5.2.2.1.length (s5.2.2.1.flatMap eGNetLink), .sl s5.2.2.2.1.length (s5.2.2.2.1.flatMap eGNetPacket), .i .i64 s5.2.2.2.2], .box v7.1, .box v9.1, .box v12.1, .box v22.1]] (by kernel_rfl) mixed (by kernel_rfl) (by decide) rfl rfl rfl rfl ?_
            refine ev (sees_all (md := [.box [.sl s5.2.2.1.length (s5.2.2.1.flatMap eGNetLink), .sl s5.2.2.2.1.length (s5.2.2.2.1.flatMap eGNetPacket), .i .i64 s5.2.2.2.2], .box v7.1, .box v9.1, .box v12.1, .dead]) ⟨⟨rfl, ⟨rfl, ⟨rfl, ⟨rfl, ⟨trivial, trivial⟩⟩⟩⟩⟩, ⟨⟨rfl, ⟨rfl, ⟨rfl, ⟨rfl, ⟨trivial, trivial⟩⟩⟩⟩⟩, ⟨⟨rfl, ⟨rfl, ⟨rfl, ⟨rfl, ⟨trivial, trivial⟩⟩⟩⟩⟩, trivial⟩⟩⟩) rfl rfl (opv_loadN ti32 rfl (.lp _ _ _ rfl) (Nat.le_of_ble_eq_true rfl)) ?_
            refine emv rfl rfl (fun _ => opv_mv rfl) ?_
            refine emv rfl rfl (fun _ => opv_mv rfl) ?_
            refine ev (sees_all (md := [.box [.sl s5.2.2.1.length (s5.2.2.1.flatMap eGNetLink), .sl s5.2.2.2.1.length (s5.2.2.2.1.flatMap eGNetPacket), .i .i64 s5.2.2.2.2], .box v7.1, .box v9.1, .box v12.1, .dead]) ⟨⟨rfl, ⟨rfl, ⟨rfl, ⟨rfl, ⟨trivial, trivial⟩⟩⟩⟩⟩, ⟨⟨rfl, ⟨rfl, ⟨rfl, ⟨rfl, ⟨trivial, trivial⟩⟩⟩⟩⟩, ⟨⟨rfl, ⟨rfl, ⟨rfl, ⟨rfl, ⟨trivial, trivial⟩⟩⟩⟩⟩, trivial⟩⟩⟩) rfl rfl (opv_ix (f := eGAnon72) si66 (fun _ => rfl) rfl rfl rfl rfl hu21) ?_
            refine ev (sees_all (md := [.box [.sl s5.2.2.1.length (s5.2.2.1.flatMap eGNetLink), .sl s5.2.2.2.1.length (s5.2.2.2.1.flatMap eGNetPacket), .i .i64 s5.2.2.2.2], .box v7.1, .box v9.1, .box v12.1, .dead]) ⟨⟨rfl, ⟨rfl, ⟨rfl, ⟨rfl, ⟨trivial, trivial⟩⟩⟩⟩⟩, ⟨⟨rfl, ⟨rfl, ⟨rfl, ⟨rfl, ⟨trivial, trivial⟩⟩⟩⟩⟩, ⟨⟨rfl, ⟨rfl, ⟨rfl, ⟨rfl, ⟨trivial, trivial⟩⟩⟩⟩⟩, trivial⟩⟩⟩) rfl rfl (opv_ixcp (o := 0) ai72 rfl rfl (by decide)) ?_
            refine ev (sees_all (md := [.box [.sl s5.2.2.1.length (s5.2.2.1.flatMap eGNetLink), .sl s5.2.2.2.1.length (s5.2.2.2.1.flatMap eGNetPacket), .i .i64 s5.2.2.2.2], .box v7.1, .box v9.1, .box v12.1, .dead]) ⟨⟨rfl, ⟨rfl, ⟨rfl, ⟨rfl, ⟨trivial, trivial⟩⟩⟩⟩⟩, ⟨⟨rfl, ⟨rfl, ⟨rfl, ⟨rfl, ⟨trivial, trivial⟩⟩⟩⟩⟩, ⟨⟨rfl, ⟨rfl, ⟨rfl, ⟨rfl, ⟨trivial, trivial⟩⟩⟩⟩⟩, trivial⟩⟩⟩) rfl rfl (opv_load1 ti3 rfl (.cp _) rfl) ?_
            refine ed (sees_all (md := [.box [.sl s5.2.2.1.length (s5.2.2.1.flatMap eGNetLink), .sl s5.2.2.2.1.length (s5.2.2.2.1.flatMap eGNetPacket), .i .i64 s5.2.2.2.2], .box v7.1, .box v9.1, .box v12.1, .dead]) ⟨⟨rfl, ⟨rfl, ⟨rfl, ⟨rfl, ⟨trivial, trivial⟩⟩⟩⟩⟩, ⟨⟨rfl, ⟨rfl, ⟨rfl, ⟨rfl, ⟨trivial, trivial⟩⟩⟩⟩⟩, ⟨⟨rfl, ⟨rfl, ⟨rfl, ⟨rfl, ⟨trivial, trivial⟩⟩⟩⟩⟩, trivial⟩⟩⟩) rfl rfl (opD_call fn32 (opnds_cons rfl (opnds_cons rfl opnds_nil)) rfl (m32_net_Of_c hv22)) ?_
            refine emv rfl rfl (fun _ => opv_mvt rfl) ?_
            refine ev (sees_all (md := [.box [.sl s5.2.2.1.length (s5.2.2.1.flatMap eGNetLink), .sl s5.2.2.2.1.length (s5.2.2.2.1.flatMap eGNetPacket), .i .i64 s5.2.2.2.2], .box v7.1, .box v9.1, .box v12.1, .dead]) ⟨⟨rfl, ⟨rfl, ⟨rfl, ⟨rfl, ⟨trivial, trivial⟩⟩⟩⟩⟩, ⟨⟨rfl, ⟨rfl, ⟨rfl, ⟨rfl, ⟨trivial, trivial⟩⟩⟩⟩⟩, ⟨⟨rfl, ⟨rfl, ⟨rfl, ⟨rfl, ⟨trivial, trivial⟩⟩⟩⟩⟩, trivial⟩⟩⟩) rfl rfl (opv_extract rfl rfl) ?_
            refine ev (sees_all (md := [.box [.sl s5.2.2.1.length (s5.2.2.1.flatMap eGNetLink), .sl s5.2.2.2.1.length (s5.2.2.2.1.flatMap eGNetPacket), .i .i64 s5.2.2.2.2], .box v7.1, .box v9.1, .box v12.1, .dead]) ⟨⟨rfl, ⟨rfl, ⟨rfl, ⟨rfl, ⟨trivial, trivial⟩⟩⟩⟩⟩, ⟨⟨rfl, ⟨rfl, ⟨rfl, ⟨rfl, ⟨trivial, trivial⟩⟩⟩⟩⟩, ⟨⟨rfl, ⟨rfl, ⟨rfl, ⟨rfl, ⟨trivial, trivial⟩⟩⟩⟩⟩, trivial⟩⟩⟩) rfl rfl (opv_extract rfl rfl) ?_
            refine ee (x := .s (.one (.lp 4 0))) 0 rfl rfl rfl rfl rfl (fun ζ => ?_) ?_
            · refine salloc_at 4 rfl zi69 rfl ?_
              exact eend
            refine ee0 1 rfl rfl rfl rfl (fun ζ => ?_) ?_
            · refine sstore sz69 rfl rfl rfl rfl (Nat.le_of_ble_eq_true rfl) ?_
              refine smem [.box [.sl s5.2.2.1.length (s5.2.2.1.flatMap eGNetLink), .sl s5.2.2.2.1.length (s5.2.2.2.1.flatMap eGNetPacket), .i .i64 s5.2.2.2.2], .box v7.1, .box v9.1, .box v12.1, .box v22.1] rfl ?_
              exact eend
            refine ev (sees_at 2 rfl rfl) rfl rfl (opv_as rfl) ?_
            refine enil ?_
            refine then_normal ?_
            refine cseq ?_
            refine chole ?_
            obtain ⟨u23, hu23, h⟩ := bind_eq h
            obtain ⟨v24, hv24, h⟩ := bind_eq h
            refine cdraw_e [10, 11] [0, 0, 0, 6, 14, 30, 63, 127, 255, 255, 0, 1535, 4095] [[.box [.sl s5.2.2.1.length (s5.2.2.1.flatMap eGNetLink), .sl s5.2.2.2.1.length (s5.2.2.2.1.flatMap eGNetPacket), .i .i64 s5.2.2.2.2], .box v7.1, .box v9.1, .box v12.1, .box v22.1, .hole], [.box [.sl s5.2.2.1.length (s5.2.2.1.flatMap eGNetLink), .sl s5.2.2.2.1.length (s5.2.2.2.1.flatMap eGNetPacket), .i .i64 s5.2.2.2.2], .box v7.1, .box v9.1, .box v12.1, .box v22.1, .box [.i .i64 0, .i .i64 0, .i .i64 0]], [.box [.sl s5.2.2.1.length (s5.2.2.1.flatMap eGNetLink), .sl s5.2.2.2.1.length (s5.2.2.2.1.flatMap eGNetPacket), .i .i64 s5.2.2.2.2], .box v7.1, .box v9.1, .box v12.1, .box v22.1, .box v24.1]] (by kernel_rfl) mixed (by kernel_rfl) (by decide) rfl rfl rfl rfl ?_
            refine ev (sees_all (md := [.box [.sl s5.2.2.1.length (s5.2.2.1.flatMap eGNetLink), .sl s5.2.2.2.1.length (s5.2.2.2.1.flatMap eGNetPacket), .i .i64 s5.2.2.2.2], .box v7.1, .box v9.1, .box v12.1, .box v22.1, .dead]) ⟨⟨rfl, ⟨rfl, ⟨rfl, ⟨rfl, ⟨rfl, ⟨trivial, trivial⟩⟩⟩⟩⟩⟩, ⟨⟨rfl, ⟨rfl, ⟨rfl, ⟨rfl, ⟨rfl, ⟨trivial, trivial⟩⟩⟩⟩⟩⟩, ⟨⟨rfl, ⟨rfl, ⟨rfl, ⟨rfl, ⟨rfl, ⟨trivial, trivial⟩⟩⟩⟩⟩⟩, trivial⟩⟩⟩) rfl rfl (opv_loadN ti32 rfl (.lp _ _ _ rfl) (Nat.le_of_ble_eq_true rfl)) ?_
            refine emv rfl rfl (fun _ => opv_mv rfl) ?_
            refine emv rfl rfl (fun _ => opv_mv rfl) ?_
            refine ev (sees_all (md := [.box [.sl s5.2.2.1.length (s5.2.2.1.flatMap eGNetLink), .sl s5.2.2.2.1.length (s5.2.2.2.1.flatMap eGNetPacket), .i .i64 s5.2.2.2.2], .box v7.1, .box v9.1, .box v12.1, .box v22.1, .dead]) ⟨⟨rfl, ⟨rfl, ⟨rfl, ⟨rfl, ⟨rfl, ⟨trivial, trivial⟩⟩⟩⟩⟩⟩, ⟨⟨rfl, ⟨rfl, ⟨rfl, ⟨rfl, ⟨rfl, ⟨trivial, trivial⟩⟩⟩⟩⟩⟩, ⟨⟨rfl, ⟨rfl, ⟨rfl, ⟨rfl, ⟨rfl, ⟨trivial, trivial⟩⟩⟩⟩⟩⟩, trivial⟩⟩⟩) rfl rfl (opv_ix (f := eGAnon72) si66 (fun _ => rfl) rfl rfl rfl rfl hu23) ?_
            refine ev (sees_all (md := [.box [.sl s5.2.2.1.length (s5.2.2.1.flatMap eGNetLink), .sl s5.2.2.2.1.length (s5.2.2.2.1.flatMap eGNetPacket), .i .i64 s5.2.2.2.2], .box v7.1, .box v9.1, .box v12.1, .box v22.1, .dead]) ⟨⟨rfl, ⟨rfl, ⟨rfl, ⟨rfl, ⟨rfl, ⟨trivial, trivial⟩⟩⟩⟩⟩⟩, ⟨⟨rfl, ⟨rfl, ⟨rfl, ⟨rfl, ⟨rfl, ⟨trivial, trivial⟩⟩⟩⟩⟩⟩, ⟨⟨rfl, ⟨rfl, ⟨rfl, ⟨rfl, ⟨rfl, ⟨trivial, trivial⟩⟩⟩⟩⟩⟩, trivial⟩⟩⟩) rfl rfl (opv_ixcp (o := 1) ai72 rfl rfl (by decide)) ?_
            refine ev (sees_all (md := [.box [.sl s5.2.2.1.length (s5.2.2.1.flatMap eGNetLink), .sl s5.2.2.2.1.length (s5.2.2.2.1.flatMap eGNetPacket), .i .i64 s5.2.2.2.2], .box v7.1, .box v9.1, .box v12.1, .box v22.1, .dead]) ⟨⟨rfl, ⟨rfl, ⟨rfl, ⟨rfl, ⟨rfl, ⟨trivial, trivial⟩⟩⟩⟩⟩⟩, ⟨⟨rfl, ⟨rfl, ⟨rfl, ⟨rfl, ⟨rfl, ⟨trivial, trivial⟩⟩⟩⟩⟩⟩, ⟨⟨rfl, ⟨rfl, ⟨rfl, ⟨rfl, ⟨rfl, ⟨trivial, trivial⟩⟩⟩⟩⟩⟩, trivial⟩⟩⟩) rfl rfl (opv_load1 ti3 rfl (.cp _) rfl) ?_
            refine ed (sees_all (md := [.box [.sl s5.2.2.1.length (s5.2.2.1.flatMap eGNetLink), .sl s5.2.2.2.1.length (s5.2.2.2.1.flatMap eGNetPacket), .i .i64 s5.2.2.2.2], .box v7.1, .box v9.1, .box v12.1, .box v22.1, .dead]) ⟨⟨rfl, ⟨rfl, ⟨rfl, ⟨rfl, ⟨rfl, ⟨trivial, trivial⟩⟩⟩⟩⟩⟩, ⟨⟨rfl, ⟨rfl, ⟨rfl, ⟨rfl, ⟨rfl, ⟨trivial, trivial⟩⟩⟩⟩⟩⟩, ⟨⟨rfl, ⟨rfl, ⟨rfl, ⟨rfl, ⟨rfl, ⟨trivial, trivial⟩⟩⟩⟩⟩⟩, trivial⟩⟩⟩) rfl rfl (opD_call fn33 (opnds_cons rfl (opnds_cons rfl opnds_nil)) rfl (m33_net_At_c hv24)) ?_
            refine emv rfl rfl (fun _ => opv_mvt rfl) ?_
            refine ev (sees_all (md := [.box [.sl s5.2.2.1.length (s5.2.2.1.flatMap eGNetLink), .sl s5.2.2.2.1.length (s5.2.2.2.1.flatMap eGNetPacket), .i .i64 s5.2.2.2.2], .box v7.1, .box v9.1, .box v12.1, .box v22.1, .dead]) ⟨⟨rfl, ⟨rfl, ⟨rfl, ⟨rfl, ⟨rfl, ⟨trivial, trivial⟩⟩⟩⟩⟩⟩, ⟨⟨rfl, ⟨rfl, ⟨rfl, ⟨rfl, ⟨rfl, ⟨trivial, trivial⟩⟩⟩⟩⟩⟩, ⟨⟨rfl, ⟨rfl, ⟨rfl, ⟨rfl, ⟨rfl, ⟨trivial, trivial⟩⟩⟩⟩⟩⟩, trivial⟩⟩⟩) rfl rfl (opv_extract rfl rfl) ?_
            refine ev (sees_all (md := [.box [.sl s5.2.2.1.length (s5.2.2.1.flatMap eGNetLink), .sl s5.2.2.2.1.length (s5.2.2.2.1.flatMap eGNetPacket), .i .i64 s5.2.2.2.2], .box v7.1, .box v9.1, .box v12.1, .box v22.1, .dead]) ⟨⟨rfl, ⟨rfl, ⟨rfl, ⟨rfl, ⟨rfl, ⟨trivial, trivial⟩⟩⟩⟩⟩⟩, ⟨⟨rfl, ⟨rfl, ⟨rfl, ⟨rfl, ⟨rfl, ⟨trivial, trivial⟩⟩⟩⟩⟩⟩, ⟨⟨rfl, ⟨rfl, ⟨rfl, ⟨rfl, ⟨rfl, ⟨trivial, trivial⟩⟩⟩⟩⟩⟩, trivial⟩⟩⟩) rfl rfl (opv_extract rfl rfl) ?_
            refine ee (x := .s (.one (.lp 5 0))) 0 rfl rfl rfl rfl rfl (fun ζ => ?_) ?_
            · refine salloc_at 5 rfl zi69 rfl ?_
              exact eend
            refine ee0 1 rfl rfl rfl rfl (fun ζ => ?_) ?_
            · refine sstore sz69 rfl rfl rfl rfl (Nat.le_of_ble_eq_true rfl) ?_
              refine smem [.box [.sl s5.2.2.1.length (s5.2.2.1.flatMap eGNetLink), .sl s5.2.2.2.1.length (s5.2.2.2.1.flatMap eGNetPacket), .i .i64 s5.2.2.2.2], .box v7.1, .box v9.1, .box v12.1, .box v22.1, .box v24.1] rfl ?_
              exact eend
            refine ev (sees_at 2 rfl rfl) rfl rfl (opv_as rfl) ?_
            refine enil ?_
            refine then_normal ?_
            refine cseq ?_
            refine cseq ?_
            refine cjoin3 (Unit) (fun b25 => [(0, .s (.one (.sl a0.length (a0.flatMap eGAnon72)))), (1, .s (.one (.sl a1.length (a1.flatMap eI)))), (5, .s (.one (.b v1))), (6, .s (.one (.lp 0 0))), (8, .s (.one (.i .i64 s5.2.1))), (13, .s (.one (.lp 3 0))), (14, .s (.one (.i .i64 v12.2.1)))]) (fun b25 => [.box [.sl s5.2.2.1.length (s5.2.2.1.flatMap eGNetLink), .sl s5.2.2.2.1.length (s5.2.2.2.1.flatMap eGNetPacket), .i .i64 s5.2.2.2.2], .box v7.1, .box v9.1, .box v12.1, .box v22.1, .box v24.1]) (fun b25 => m6_l22_NetLinks_k25 a1 s5 v12 b25 = some y5) (fun _ _ => inbL_of rfl) (fun _ _ => blkinb_of rfl) (fun _ _ => Nat.le_of_ble_eq_true rfl) (fun b25 h => ?_) ?_
            · unfold m6_l22_NetLinks_k25 at h
              refine cseq ?_
              refine cregion ?_
              refine sv rfl (opv_loadN ti32 rfl (.lp _ _ _ rfl) (Nat.le_of_ble_eq_true rfl)) ?_
              refine sstore sz32 rfl rfl rfl rfl (Nat.le_of_ble_eq_true rfl) ?_
              refine smem [.box v12.1, .box v7.1, .box v9.1, .box v12.1, .box v22.1, .box v24.1] rfl ?_
              refine snil ?_
              refine cregion ?_
              refine sv rfl (opv_mv rfl) ?_
              refine sv rfl (opv_as rfl) ?_
              refine snil ?_
              exact ⟨(v12.2.1, v12.1.Links, v12.1.Packets, v12.1.Next), _, h, ⟨rfl, rfl, rfl, rfl, rfl, rfl, trivial⟩, rfl⟩
            · skip
              refine cregion ?_
              refine sv rfl (opv_mv rfl) ?_
              refine sv rfl (opv_mv rfl) ?_
              refine ssplit 97 rfl (fun hc => ?_) (fun hc => ?_)
              · replace h := ite_t hc h
                clear hc
                refine soff rfl rfl rfl rfl ?_
                refine sv rfl (opv_pick_t rfl rfl) ?_
                refine sv rfl (opv_mv rfl) ?_
                refine soff rfl rfl rfl rfl ?_
                refine soff rfl rfl rfl rfl ?_
                refine sv rfl (opv_pick_t rfl rfl) ?_
                refine sv rfl (opv_mv rfl) ?_
                refine soff rfl rfl rfl rfl ?_
                refine soff rfl rfl rfl rfl ?_
                refine sv rfl (opv_pick_t rfl rfl) ?_
                refine sv rfl (opv_mv rfl) ?_
                refine soff rfl rfl rfl rfl ?_
                refine soff rfl rfl rfl rfl ?_
                refine soff rfl rfl rfl rfl ?_
                refine sv rfl (opv_pick_t rfl rfl) ?_
                refine sv rfl (opv_mv rfl) ?_
                refine soff rfl rfl rfl rfl ?_
                refine soff rfl rfl rfl rfl ?_
                refine soff rfl rfl rfl rfl ?_
                refine soff rfl rfl rfl rfl ?_
                refine sv rfl (opv_pick_t rfl rfl) ?_
                refine sv rfl (opv_mv rfl) ?_
                refine soff rfl rfl rfl rfl ?_
                refine soff rfl rfl rfl rfl ?_
                refine soff rfl rfl rfl rfl ?_
                refine sv rfl (opv_pick_t rfl rfl) ?_
                refine snil ?_
                refine ccond rfl (fun _ => ?_) (fun hx => Bool.noConfusion hx)
                refine cseq ?_
                refine cregion ?_
                refine sv rfl (opv_as rfl) ?_
                refine snil ?_
                refine cret ?_
                refine then_ret ?_
                refine then_ret ?_
                refine block_ret ?_
                refine then_ret ?_
                refine then_ret ?_
                refine block_ret ?_
                refine then_ret ?_
                obtain rfl := Option.some.inj h
                obtain rfl : Sum.inl _ = x5 := hk5
                replace ho5 : some _ = some _ := ho5
                obtain rfl := Option.some.inj ho5
                refine ⟨Or.inr rfl, _, _, _, (resVs_cons (ResV.tmp _ _ rfl) resVs_nil), (pubA_id rfl), ?_⟩
                rfl
              · replace h := ite_f hc h
                clear hc
                refine son rfl rfl rfl ?_
                refine sv rfl (opv_mv rfl) ?_
                refine sv rfl (opv_pick_f rfl rfl) ?_
                refine sv rfl (opv_mv rfl) ?_
                refine ssplit 100 rfl (fun hc => ?_) (fun hc => ?_)
                · replace h := ite_t hc h
                  clear hc
                  refine soff rfl rfl rfl rfl ?_
                  refine soff rfl rfl rfl rfl ?_
                  refine sv rfl (opv_pick_t rfl rfl) ?_
                  refine sv rfl (opv_mv rfl) ?_
                  refine soff rfl rfl rfl rfl ?_
                  refine soff rfl rfl rfl rfl ?_
                  refine sv rfl (opv_pick_t rfl rfl) ?_
                  refine sv rfl (opv_mv rfl) ?_
                  refine soff rfl rfl rfl rfl ?_
                  refine soff rfl rfl rfl rfl ?_
                  refine soff rfl rfl rfl rfl ?_
                  refine sv rfl (opv_pick_t rfl rfl) ?_
                  refine sv rfl (opv_mv rfl) ?_
                  refine soff rfl rfl rfl rfl ?_
                  refine soff rfl rfl rfl rfl ?_
                  refine soff rfl rfl rfl rfl ?_
                  refine soff rfl rfl rfl rfl ?_
                  refine sv rfl (opv_pick_t rfl rfl) ?_
                  refine sv rfl (opv_mv rfl) ?_
                  refine soff rfl rfl rfl rfl ?_
                  refine soff rfl rfl rfl rfl ?_
                  refine soff rfl rfl rfl rfl ?_
                  refine sv rfl (opv_pick_t rfl rfl) ?_
                  refine snil ?_
                  refine ccond rfl (fun _ => ?_) (fun hx => Bool.noConfusion hx)
                  refine cseq ?_
                  refine cregion ?_
                  refine sv rfl (opv_as rfl) ?_
                  refine snil ?_
                  refine cret ?_
                  refine then_ret ?_
                  refine then_ret ?_
                  refine block_ret ?_
                  refine then_ret ?_
                  refine then_ret ?_
                  refine block_ret ?_
                  refine then_ret ?_
                  obtain rfl := Option.some.inj h
                  obtain rfl : Sum.inl _ = x5 := hk5
                  replace ho5 : some _ = some _ := ho5
                  obtain rfl := Option.some.inj ho5
                  refine ⟨Or.inr rfl, _, _, _, (resVs_cons (ResV.tmp _ _ rfl) resVs_nil), (pubA_id rfl), ?_⟩
                  rfl
                · replace h := ite_f hc h
                  clear hc
                  refine son rfl rfl rfl ?_
                  refine sv rfl (opv_mv rfl) ?_
                  refine son rfl rfl rfl ?_
                  refine sv rfl (opv_not rfl) ?_
                  refine sv rfl (opv_pick_f rfl rfl) ?_
                  refine sv rfl (opv_mv rfl) ?_
                  refine ssplit 104 rfl (fun hc => ?_) (fun hc => ?_)
                  · replace h := ite_t hc h
                    clear hc
                    refine soff rfl rfl rfl rfl ?_
                    refine soff rfl rfl rfl rfl ?_
                    refine sv rfl (opv_pick_t rfl rfl) ?_
                    refine sv rfl (opv_mv rfl) ?_
                    refine soff rfl rfl rfl rfl ?_
                    refine soff rfl rfl rfl rfl ?_
                    refine soff rfl rfl rfl rfl ?_
                    refine sv rfl (opv_pick_t rfl rfl) ?_
                    refine sv rfl (opv_mv rfl) ?_
                    refine soff rfl rfl rfl rfl ?_
                    refine soff rfl rfl rfl rfl ?_
                    refine soff rfl rfl rfl rfl ?_
                    refine soff rfl rfl rfl rfl ?_
                    refine sv rfl (opv_pick_t rfl rfl) ?_
                    refine sv rfl (opv_mv rfl) ?_
                    refine soff rfl rfl rfl rfl ?_
                    refine soff rfl rfl rfl rfl ?_
                    refine soff rfl rfl rfl rfl ?_
                    refine sv rfl (opv_pick_t rfl rfl) ?_
                    refine snil ?_
                    refine ccond rfl (fun _ => ?_) (fun hx => Bool.noConfusion hx)
                    refine cseq ?_
                    refine cregion ?_
                    refine sv rfl (opv_as rfl) ?_
                    refine snil ?_
                    refine cret ?_
                    refine then_ret ?_
                    refine then_ret ?_
                    refine block_ret ?_
                    refine then_ret ?_
                    refine then_ret ?_
                    refine block_ret ?_
                    refine then_ret ?_
                    obtain rfl := Option.some.inj h
                    obtain rfl : Sum.inl _ = x5 := hk5
                    replace ho5 : some _ = some _ := ho5
                    obtain rfl := Option.some.inj ho5
                    refine ⟨Or.inr rfl, _, _, _, (resVs_cons (ResV.tmp _ _ rfl) resVs_nil), (pubA_id rfl), ?_⟩
                    rfl
                  · replace h := ite_f hc h
                    clear hc
                    refine son rfl rfl rfl ?_
                    refine sv rfl (opv_mv rfl) ?_
                    refine son rfl rfl rfl ?_
                    refine sv rfl (opv_not rfl) ?_
                    refine sv rfl (opv_pick_f rfl rfl) ?_
                    refine sv rfl (opv_mv rfl) ?_
                    refine ssplit 108 rfl (fun hc => ?_) (fun hc => ?_)
                    · replace h := ite_t hc h
                      clear hc
                      refine soff rfl rfl rfl rfl ?_
                      refine soff rfl rfl rfl rfl ?_
                      refine soff rfl rfl rfl rfl ?_
                      refine sv rfl (opv_pick_t rfl rfl) ?_
                      refine sv rfl (opv_mv rfl) ?_
                      refine soff rfl rfl rfl rfl ?_
                      refine soff rfl rfl rfl rfl ?_
                      refine soff rfl rfl rfl rfl ?_
                      refine soff rfl rfl rfl rfl ?_
                      refine sv rfl (opv_pick_t rfl rfl) ?_
                      refine sv rfl (opv_mv rfl) ?_
                      refine soff rfl rfl rfl rfl ?_
                      refine soff rfl rfl rfl rfl ?_
                      refine soff rfl rfl rfl rfl ?_
                      refine sv rfl (opv_pick_t rfl rfl) ?_
                      refine snil ?_
                      refine ccond rfl (fun _ => ?_) (fun hx => Bool.noConfusion hx)
                      refine cseq ?_
                      refine cregion ?_
                      refine sv rfl (opv_as rfl) ?_
                      refine snil ?_
                      refine cret ?_
                      refine then_ret ?_
                      refine then_ret ?_
                      refine block_ret ?_
                      refine then_ret ?_
                      refine then_ret ?_
                      refine block_ret ?_
                      refine then_ret ?_
                      obtain rfl := Option.some.inj h
                      obtain rfl : Sum.inl _ = x5 := hk5
                      replace ho5 : some _ = some _ := ho5
                      obtain rfl := Option.some.inj ho5
                      refine ⟨Or.inr rfl, _, _, _, (resVs_cons (ResV.tmp _ _ rfl) resVs_nil), (pubA_id rfl), ?_⟩
                      rfl
                    · replace h := ite_f hc h
                      clear hc
                      refine son rfl rfl rfl ?_
                      refine sv rfl (opv_loadN ti69 rfl (.lp _ _ _ rfl) (Nat.le_of_ble_eq_true rfl)) ?_
                      refine son rfl rfl rfl ?_
                      refine sv rfl (opv_loadN ti69 rfl (.lp _ _ _ rfl) (Nat.le_of_ble_eq_true rfl)) ?_
                      refine son rfl rfl rfl ?_
                      refine sv rfl (opv_stneq et69 rfl rfl rfl rfl rfl) ?_
                      refine sv rfl (opv_pick_f rfl rfl) ?_
                      refine sv rfl (opv_mv rfl) ?_
                      refine ssplit 113 rfl (fun hc => ?_) (fun hc => ?_)
                      · replace h := ite_t hc h
                        clear hc
                        refine soff rfl rfl rfl rfl ?_
                        refine soff rfl rfl rfl rfl ?_
                        refine soff rfl rfl rfl rfl ?_
                        refine soff rfl rfl rfl rfl ?_
                        refine sv rfl (opv_pick_t rfl rfl) ?_
                        refine sv rfl (opv_mv rfl) ?_
                        refine soff rfl rfl rfl rfl ?_
                        refine soff rfl rfl rfl rfl ?_
                        refine soff rfl rfl rfl rfl ?_
                        refine sv rfl (opv_pick_t rfl rfl) ?_
                        refine snil ?_
                        refine ccond rfl (fun _ => ?_) (fun hx => Bool.noConfusion hx)
                        refine cseq ?_
                        refine cregion ?_
                        refine sv rfl (opv_as rfl) ?_
                        refine snil ?_
                        refine cret ?_
                        refine then_ret ?_
                        refine then_ret ?_
                        refine block_ret ?_
                        refine then_ret ?_
                        refine then_ret ?_
                        refine block_ret ?_
                        refine then_ret ?_
                        obtain rfl := Option.some.inj h
                        obtain rfl : Sum.inl _ = x5 := hk5
                        replace ho5 : some _ = some _ := ho5
                        obtain rfl := Option.some.inj ho5
                        refine ⟨Or.inr rfl, _, _, _, (resVs_cons (ResV.tmp _ _ rfl) resVs_nil), (pubA_id rfl), ?_⟩
                        rfl
                      · replace h := ite_f hc h
                        clear hc
                        refine son rfl rfl rfl ?_
                        refine sv rfl (opv_fieldAddr_lp fi69_0 rfl) ?_
                        refine son rfl rfl rfl ?_
                        refine sv rfl (opv_load1 ti3 rfl (.lp _ _ _ rfl) rfl) ?_
                        refine son rfl rfl rfl ?_
                        refine sv rfl (opv_mv rfl) ?_
                        refine son rfl rfl rfl ?_
                        refine sv rfl (opv_ineq rfl rfl) ?_
                        refine sv rfl (opv_pick_f rfl rfl) ?_
                        refine sv rfl (opv_mv rfl) ?_
                        refine ssplit 119 rfl (fun hc => ?_) (fun hc => ?_)
                        · replace h := ite_t hc h
                          clear hc
                          refine soff rfl rfl rfl rfl ?_
                          refine soff rfl rfl rfl rfl ?_
                          refine soff rfl rfl rfl rfl ?_
                          refine sv rfl (opv_pick_t rfl rfl) ?_
                          refine snil ?_
                          refine ccond rfl (fun _ => ?_) (fun hx => Bool.noConfusion hx)
                          refine cseq ?_
                          refine cregion ?_
                          refine sv rfl (opv_as rfl) ?_
                          refine snil ?_
                          refine cret ?_
                          refine then_ret ?_
                          refine then_ret ?_
                          refine block_ret ?_
                          refine then_ret ?_
                          refine then_ret ?_
                          refine block_ret ?_
                          refine then_ret ?_
                          obtain rfl := Option.some.inj h
                          obtain rfl : Sum.inl _ = x5 := hk5
                          replace ho5 : some _ = some _ := ho5
                          obtain rfl := Option.some.inj ho5
                          refine ⟨Or.inr rfl, _, _, _, (resVs_cons (ResV.tmp _ _ rfl) resVs_nil), (pubA_id rfl), ?_⟩
                          rfl
                        · replace h := ite_f hc h
                          clear hc
                          refine son rfl rfl rfl ?_
                          refine sv rfl (opv_mv rfl) ?_
                          refine son rfl rfl rfl ?_
                          refine sv rfl (opv_mv rfl) ?_
                          refine son rfl rfl rfl ?_
                          refine sv rfl (opv_leq rfl rfl) ?_
                          refine sv rfl (opv_pick_f rfl rfl) ?_
                          refine snil ?_
                          refine ccond rfl (fun hc => ?_) (fun hc => ?_)
                          · replace h := ite_t hc h
                            clear hc
                            refine cseq ?_
                            refine cregion ?_
                            refine sv rfl (opv_as rfl) ?_
                            refine snil ?_
                            refine cret ?_
                            refine then_ret ?_
                            refine then_ret ?_
                            refine block_ret ?_
                            refine then_ret ?_
                            refine then_ret ?_
                            refine block_ret ?_
                            refine then_ret ?_
                            obtain rfl := Option.some.inj h
                            obtain rfl : Sum.inl _ = x5 := hk5
                            replace ho5 : some _ = some _ := ho5
                            obtain rfl := Option.some.inj ho5
                            refine ⟨Or.inr rfl, _, _, _, (resVs_cons (ResV.tmp _ _ rfl) resVs_nil), (pubA_id rfl), ?_⟩
                            rfl
                          · replace h := ite_f hc h
                            clear hc
                            refine cskip ?_
                            refine then_normal ?_
                            exact ⟨(), _, h, ⟨rfl, rfl, rfl, rfl, rfl, rfl, rfl, trivial⟩, rfl⟩
          · replace h := ite_f hc h
            clear hc
            refine cseq ?_
            refine cregion ?_
            refine sv rfl (opv_mv rfl) ?_
            refine sv rfl (opv_not rfl) ?_
            refine sv rfl (opv_mv rfl) ?_
            refine ssplit 128 rfl (fun hc => ?_) (fun hc => ?_)
            · replace h := ite_t hc h
              clear hc
              refine son rfl rfl rfl ?_
              refine sv rfl (opv_mv rfl) ?_
              refine son rfl rfl rfl ?_
              refine sv rfl (opv_not rfl) ?_
              refine sv rfl (opv_pick_t rfl rfl) ?_
              refine sv rfl (opv_mv rfl) ?_
              refine ssplit 132 rfl (fun hc => ?_) (fun hc => ?_)
              · replace h := ite_t hc h
                clear hc
                refine son rfl rfl rfl ?_
                refine sv rfl (opv_mv rfl) ?_
                refine son rfl rfl rfl ?_
                refine sv rfl (opv_ieql rfl rfl) ?_
                refine sv rfl (opv_pick_t rfl rfl) ?_
                refine snil ?_
                refine ccond rfl (fun hc => ?_) (fun hc => ?_)
                · replace h := ite_t hc h
                  clear hc
                  refine cseq ?_
                  refine cregion ?_
                  refine sv rfl (opv_as rfl) ?_
                  refine snil ?_
                  refine cret ?_
                  refine then_ret ?_
                  refine block_ret ?_
                  refine then_ret ?_
                  refine then_ret ?_
                  refine block_ret ?_
                  refine then_ret ?_
                  obtain rfl := Option.some.inj h
                  obtain rfl : Sum.inl _ = x5 := hk5
                  replace ho5 : some _ = some _ := ho5
                  obtain rfl := Option.some.inj ho5
                  refine ⟨Or.inr rfl, _, _, _, (resVs_cons (ResV.tmp _ _ rfl) resVs_nil), (pubA_id rfl), ?_⟩
                  rfl
                · replace h := ite_f hc h
                  clear hc
                  refine cskip ?_
                  refine then_normal ?_
                  exact ⟨(s5.1, s5.2.2.1, s5.2.2.2.1, s5.2.2.2.2), _, h, ⟨rfl, rfl, rfl, rfl, rfl, rfl, trivial⟩, rfl⟩
              · replace h := ite_f hc h
                clear hc
                refine soff rfl rfl rfl rfl ?_
                refine soff rfl rfl rfl rfl ?_
                refine sv rfl (opv_pick_f rfl rfl) ?_
                refine snil ?_
                refine ccond rfl (fun hx => Bool.noConfusion hx) (fun _ => ?_)
                refine cskip ?_
                refine then_normal ?_
                exact ⟨(s5.1, s5.2.2.1, s5.2.2.2.1, s5.2.2.2.2), _, h, ⟨rfl, rfl, rfl, rfl, rfl, rfl, trivial⟩, rfl⟩
            · replace h := ite_f hc h
              clear hc
              refine soff rfl rfl rfl rfl ?_
              refine soff rfl rfl rfl rfl ?_
              refine sv rfl (opv_pick_f rfl rfl) ?_
              refine sv rfl (opv_mv rfl) ?_
              refine soff rfl rfl rfl rfl ?_
              refine soff rfl rfl rfl rfl ?_
              refine sv rfl (opv_pick_f rfl rfl) ?_
              refine snil ?_
              refine ccond rfl (fun hx => Bool.noConfusion hx) (fun _ => ?_)
              refine cskip ?_
              refine then_normal ?_
              exact ⟨(s5.1, s5.2.2.1, s5.2.2.2.1, s5.2.2.2.2), _, h, ⟨rfl, rfl, rfl, rfl, rfl, rfl, trivial⟩, rfl⟩
      · replace h := ite_f hc h
        clear hc
        refine cexit ?_
        refine then_exit ?_
        refine then_exit ?_
        refine block_hit ?_
        refine then_normal ?_
        obtain rfl := Option.some.inj h
        obtain rfl : _ = x5 := hk5
        exact ⟨(s5.2.2.1, s5.2.2.2.1, s5.2.2.2.2), _, ho5, ⟨rfl, rfl, trivial⟩, rfl⟩
  · skip
    refine cregion ?_
    refine sv rfl (opv_mv rfl) ?_
    refine sv rfl (opv_len_sl si66 rfl) ?_
    refine sv rfl (opv_gtr rfl rfl) ?_
    refine sv rfl (opv_mv rfl) ?_
    refine ssplit 25 rfl (fun hc => ?_) (fun hc => ?_)
    · replace h := ite_t hc h
      clear hc
      refine soff rfl rfl rfl rfl ?_
      refine soff rfl rfl rfl rfl ?_
      refine soff rfl rfl rfl rfl ?_
      refine sv rfl (opv_pick_t rfl rfl) ?_
      refine snil ?_
      refine ccond rfl (fun _ => ?_) (fun hx => Bool.noConfusion hx)
      refine cseq ?_
      refine cregion ?_
      refine sv rfl (opv_mv rfl) ?_
      refine sv rfl (opv_as rfl) ?_
      refine snil ?_
      refine cret ?_
      refine then_ret ?_
      obtain rfl := Option.some.inj h
      refine ⟨Or.inr rfl, _, _, _, (resVs_cons (ResV.tmp _ _ rfl) resVs_nil), (pubA_id rfl), ?_⟩
      rfl
    · replace h := ite_f hc h
      clear hc
      refine son rfl rfl rfl ?_
      refine sv rfl (opv_mv rfl) ?_
      refine son rfl rfl rfl ?_
      refine sv rfl (opv_len_sl si67 rfl) ?_
      refine son rfl rfl rfl ?_
      refine sv rfl (opv_gtr rfl rfl) ?_
      refine sv rfl (opv_pick_f rfl rfl) ?_
      refine snil ?_
      refine ccond rfl (fun hc => ?_) (fun hc => ?_)
      · replace h := ite_t hc h
        clear hc
        refine cseq ?_
        refine cregion ?_
        refine sv rfl (opv_mv rfl) ?_
        refine sv rfl (opv_as rfl) ?_
        refine snil ?_
        refine cret ?_
        refine then_ret ?_
        obtain rfl := Option.some.inj h
        refine ⟨Or.inr rfl, _, _, _, (resVs_cons (ResV.tmp _ _ rfl) resVs_nil), (pubA_id rfl), ?_⟩
        rfl
      · replace h := ite_f hc h
        clear hc
        refine cskip ?_
        refine then_normal ?_
        exact ⟨(), _, h, ⟨rfl, rfl, rfl, trivial⟩, rfl⟩

def m7_l22_NetDups_k3 (a0 : GR22Net) (a1 : Int) (v1 : Bool) (v2 : GNetNet) (b3 : Unit) : Option Bool :=
  (m19_net_Dup v2 a1).bind fun v4 => if (!decide (v4.2 = 0)) then (if v1 then (if (decide (a1 < 0)) then (some ((decide (v4.2 = 6)) == true)) else (some ((decide (v4.2 = 6)) == (decide ((a0.Packets.length : Int) ≤ a1))))) else (some false)) else ((m17_net_Take v4.1 a1).bind fun v5 => (m17_net_Take v4.1 (a0.Packets.length : Int)).bind fun v6 => if v1 then (if v5.2.2 then (if v6.2.2 then ((m22_l22_packet v5.2.1).bind fun v7 => (m22_l22_packet v6.2.1).bind fun v8 => (m21_r22_SamePacket v7 v8).bind fun v9 => if v9 then ((m16_l22_theirs v6.1).bind fun v10 => (m15_r22_Same v10 a0).bind fun v11 => if v11 then ((m22_l22_packet v5.2.1).bind fun v12 => (idx a0.Packets a1).bind fun u13 => (m21_r22_SamePacket v12 u13).bind fun v14 => some v14) else (some false)) else (some false)) else (some false)) else (some false)) else (some false))
def m7_l22_NetDups (a0 : GR22Net) (a1 : Int) : Option Bool :=
  (m8_l22_awake).bind fun v1 => (m10_l22_ours a0).bind fun v2 => (m9_r22_Few a0).bind fun v15 => if (!v15) then (some v1) else ((m30_net_Sane v2).bind fun v16 => if (!v16) then (some v1) else (m7_l22_NetDups_k3 a0 a1 v1 v2 ()))

set_option maxRecDepth 100000 in
theorem m7_l22_NetDups_c {a0 : GR22Net} {a1 : Int} {r : Bool} (h : m7_l22_NetDups a0 a1 = some r) : CallsA Try.prog 7 [.agg a0, .one (.i .i64 a1)] (· = .s (.one (.b r))) := by
  unfold m7_l22_NetDups at h
  refine callsA_of Try.func7 rfl (nt := 96) rfl (Nat.le_of_ble_eq_true rfl) ?_
  intro w0 S0
  refine cseq ?_
  refine cregion ?_
  refine sbox rfl rfl ?_
  refine sv rfl (opv_as rfl) ?_
  refine snil ?_
  refine cseq ?_
  refine cregion ?_
  obtain ⟨v1, hv1, h⟩ := bind_eq h
  refine scall1 rfl fn8 opnds_nil (pubA_id rfl) (m8_l22_awake_c hv1) ?_
  refine sv rfl (opv_as rfl) ?_
  refine snil ?_
  refine cseq ?_
  refine cregion ?_
  refine sv rfl (opv_loadN ti25 rfl (.lp _ _ _ rfl) (Nat.le_of_ble_eq_true rfl)) ?_
  obtain ⟨v2, hv2, h⟩ := bind_eq h
  refine scall1 rfl fn10 (opnds_cons rfl opnds_nil) (pubA_id rfl) (m10_l22_ours_c hv2) ?_
  refine salloc rfl zi32 ?_
  refine sstore sz32 rfl rfl rfl rfl (Nat.le_of_ble_eq_true rfl) ?_
  refine smem [.box a0, .box v2] rfl ?_
  refine snil ?_
  refine cseq ?_
  refine cseq ?_
  refine cjoin3 (Unit) (fun b3 => [(1, .s (.one (.i .i64 a1))), (2, .s (.one (.lp 0 0))), (5, .s (.one (.b v1))), (6, .s (.one (.lp 1 0)))]) (fun b3 => [.box a0, .box v2]) (fun b3 => m7_l22_NetDups_k3 a0 a1 v1 v2 b3 = some r) (fun _ _ => inbL_of rfl) (fun _ _ => blkinb_of rfl) (fun _ _ => Nat.le_of_ble_eq_true rfl) (fun b3 h => ?_) ?_
  · unfold m7_l22_NetDups_k3 at h
    refine cseq ?_
    refine cregion ?_
    refine sv rfl (opv_loadN ti32 rfl (.lp _ _ _ rfl) (Nat.le_of_ble_eq_true rfl)) ?_
    refine sv rfl (opv_mv rfl) ?_
    obtain ⟨v4, hv4, h⟩ := bind_eq h
    refine scall1 rfl fn19 (opnds_cons rfl (opnds_cons rfl opnds_nil)) (pubA_id rfl) (m19_net_Dup_c hv4) ?_
    refine sv rfl (opv_mvt rfl) ?_
    refine sv rfl (opv_extract rfl rfl) ?_
    refine sv rfl (opv_extract rfl rfl) ?_
    refine salloc rfl zi32 ?_
    refine sstore sz32 rfl rfl rfl rfl (Nat.le_of_ble_eq_true rfl) ?_
    refine smem [.box a0, .box v2, .box v4.1] rfl ?_
    refine sv rfl (opv_as rfl) ?_
    refine snil ?_
    refine cseq ?_
    refine cseq ?_
    refine cregion ?_
    refine sv rfl (opv_mv rfl) ?_
    refine sv rfl (opv_ineq rfl rfl) ?_
    refine snil ?_
    refine ccond rfl (fun hc => ?_) (fun hc => ?_)
    · replace h := ite_t hc h
      clear hc
      refine cseq ?_
      refine cregion ?_
      refine sv rfl (opv_mv rfl) ?_
      refine sv rfl (opv_mv rfl) ?_
      refine ssplit 36 rfl (fun hc => ?_) (fun hc => ?_)
      · replace h := ite_t hc h
        clear hc
        refine son rfl rfl rfl ?_
        refine sv rfl (opv_mv rfl) ?_
        refine son rfl rfl rfl ?_
        refine sv rfl (opv_ieql rfl rfl) ?_
        refine son rfl rfl rfl ?_
        refine sv rfl (opv_mv rfl) ?_
        refine son rfl rfl rfl ?_
        refine sv rfl (opv_lss rfl rfl) ?_
        refine son rfl rfl rfl ?_
        refine sv rfl (opv_mv rfl) ?_
        refine ssplit 41 rfl (fun hc => ?_) (fun hc => ?_)
        · replace h := ite_t hc h
          clear hc
          refine soff rfl rfl rfl rfl ?_
          refine soff rfl rfl rfl rfl ?_
          refine soff rfl rfl rfl rfl ?_
          refine soff rfl rfl rfl rfl ?_
          refine soff rfl rfl rfl rfl ?_
          refine son rfl rfl rfl ?_
          refine sv rfl (opv_pick_t rfl rfl) ?_
          refine son rfl rfl rfl ?_
          refine sv rfl (opv_beql Try.underlying4 rfl rfl) ?_
          refine sv rfl (opv_pick_t rfl rfl) ?_
          refine sv rfl (opv_as rfl) ?_
          refine snil ?_
          refine cret ?_
          refine then_ret ?_
          obtain rfl := Option.some.inj h
          refine ⟨Or.inr rfl, _, _, _, (resVs_cons (ResV.tmp _ _ rfl) resVs_nil), (pubA_id rfl), ?_⟩
          rfl
        · replace h := ite_f hc h
          clear hc
          refine son rfl rfl rfl ?_
          refine sv rfl (opv_mv rfl) ?_
          refine son rfl rfl rfl ?_
          refine sv rfl (opv_fieldAddr_lp fi25_1 rfl) ?_
          refine son rfl rfl rfl ?_
          refine sv rfl (opv_load1 ti23 rfl (.lp _ _ _ rfl) rfl) ?_
          refine son rfl rfl rfl ?_
          refine sv rfl (opv_len_sl si23 rfl) ?_
          refine son rfl rfl rfl ?_
          refine sv rfl (opv_geq rfl rfl) ?_
          refine son rfl rfl rfl ?_
          refine sv rfl (opv_pick_f rfl rfl) ?_
          refine son rfl rfl rfl ?_
          refine sv rfl (opv_beql Try.underlying4 rfl rfl) ?_
          refine sv rfl (opv_pick_t rfl rfl) ?_
          refine sv rfl (opv_as rfl) ?_
          refine snil ?_
          refine cret ?_
          refine then_ret ?_
          obtain rfl := Option.some.inj h
          refine ⟨Or.inr rfl, _, _, _, (resVs_cons (ResV.tmp _ _ rfl) resVs_nil), (pubA_id rfl), ?_⟩
          rfl
      · replace h := ite_f hc h
        clear hc
        refine soff rfl rfl rfl rfl ?_
        refine soff rfl rfl rfl rfl ?_
        refine soff rfl rfl rfl rfl ?_
        refine soff rfl rfl rfl rfl ?_
        refine soff rfl rfl rfl rfl ?_
        refine soffu rfl rfl rfl ?_
        refine soffu rfl rfl rfl ?_
        refine soffu rfl rfl rfl ?_
        refine soffu rfl rfl rfl ?_
        refine soffu rfl rfl rfl ?_
        refine soff rfl rfl rfl rfl ?_
        refine soff rfl rfl rfl rfl ?_
        refine sv rfl (opv_pick_f rfl rfl) ?_
        refine sv rfl (opv_as rfl) ?_
        refine snil ?_
        refine cret ?_
        refine then_ret ?_
        obtain rfl := Option.some.inj h
        refine ⟨Or.inr rfl, _, _, _, (resVs_cons (ResV.tmp _ _ rfl) resVs_nil), (pubA_id rfl), ?_⟩
        rfl
    · replace h := ite_f hc h
      clear hc
      refine cskip ?_
      refine then_normal ?_
      refine cseq ?_
      refine cregion ?_
      refine sv rfl (opv_loadN ti32 rfl (.lp _ _ _ rfl) (Nat.le_of_ble_eq_true rfl)) ?_
      refine sv rfl (opv_mv rfl) ?_
      obtain ⟨v5, hv5, h⟩ := bind_eq h
      refine scall1 rfl fn17 (opnds_cons rfl (opnds_cons rfl opnds_nil)) (pubA_id rfl) (m17_net_Take_c hv5) ?_
      refine sv rfl (opv_mvt rfl) ?_
      refine sv rfl (opv_extract rfl rfl) ?_
      refine sv rfl (opv_extract rfl rfl) ?_
      refine sv rfl (opv_extract rfl rfl) ?_
      refine salloc rfl zi32 ?_
      refine salloc rfl zi46 ?_
      refine sstore sz32 rfl rfl rfl rfl (Nat.le_of_ble_eq_true rfl) ?_
      refine smem [.box a0, .box v2, .box v4.1, .box v5.1, .box [.i .i64 0, .b false, .raw (.slice none 0 0)]] rfl ?_
      refine sstore sz46 rfl rfl rfl rfl (Nat.le_of_ble_eq_true rfl) ?_
      refine smem [.box a0, .box v2, .box v4.1, .box v5.1, .box v5.2.1] rfl ?_
      refine sv rfl (opv_as rfl) ?_
      refine snil ?_
      refine cseq ?_
      refine cregion ?_
      refine sv rfl (opv_loadN ti32 rfl (.lp _ _ _ rfl) (Nat.le_of_ble_eq_true rfl)) ?_
      refine sv rfl (opv_fieldAddr_lp fi25_1 rfl) ?_
      refine sv rfl (opv_load1 ti23 rfl (.lp _ _ _ rfl) rfl) ?_
      refine sv rfl (opv_len_sl si23 rfl) ?_
      obtain ⟨v6, hv6, h⟩ := bind_eq h
      refine scall1 rfl fn17 (opnds_cons rfl (opnds_cons rfl opnds_nil)) (pubA_id rfl) (m17_net_Take_c hv6) ?_
      refine sv rfl (opv_mvt rfl) ?_
      refine sv rfl (opv_extract rfl rfl) ?_
      refine sv rfl (opv_extract rfl rfl) ?_
      refine sv rfl (opv_extract rfl rfl) ?_
      refine salloc rfl zi32 ?_
      refine salloc rfl zi46 ?_
      refine sstore sz32 rfl rfl rfl rfl (Nat.le_of_ble_eq_true rfl) ?_
      refine smem [.box a0, .box v2, .box v4.1, .box v5.1, .box v5.2.1, .box v6.1, .box [.i .i64 0, .b false, .raw (.slice none 0 0)]] rfl ?_
      refine sstore sz46 rfl rfl rfl rfl (Nat.le_of_ble_eq_true rfl) ?_
      refine smem [.box a0, .box v2, .box v4.1, .box v5.1, .box v5.2.1, .box v6.1, .box v6.2.1] rfl ?_
      refine sv rfl (opv_as rfl) ?_
      refine snil ?_
      refine cseq ?_
      refine cdraw mixed (by kernel_rfl) ?_
      refine dv rfl (opv_mv rfl) ?_
      refine dv rfl (opv_mv rfl) ?_
      refine dsplit 67 rfl (fun hc => ?_) (fun hc => ?_)
      · replace h := ite_t hc h
        clear hc
        refine dvg rfl rfl rfl (opv_mv rfl) ?_
        refine dv rfl (opv_pick_t rfl rfl) ?_
        refine dv rfl (opv_mv rfl) ?_
        refine dsplit 70 rfl (fun hc => ?_) (fun hc => ?_)
        · replace h := ite_t hc h
          clear hc
          refine dvg rfl rfl rfl (opv_mv rfl) ?_
          refine dv rfl (opv_pick_t rfl rfl) ?_
          refine dv rfl (opv_mv rfl) ?_
          refine dsplit 73 rfl (fun hc => ?_) (fun hc => ?_)
          · replace h := ite_t hc h
            clear hc
            refine dvg rfl rfl rfl (opv_loadN ti46 rfl (.lp _ _ _ rfl) (Nat.le_of_ble_eq_true rfl)) ?_
            obtain ⟨v7, hv7, h⟩ := bind_eq h
            refine ddg rfl rfl rfl (opD_call fn22 (opnds_cons rfl opnds_nil) rfl (m22_l22_packet_c hv7)) ?_
            refine dvg rfl rfl rfl (opv_loadN ti46 rfl (.lp _ _ _ rfl) (Nat.le_of_ble_eq_true rfl)) ?_
            obtain ⟨v8, hv8, h⟩ := bind_eq h
            refine ddg rfl rfl rfl (opD_call fn22 (opnds_cons rfl opnds_nil) rfl (m22_l22_packet_c hv8)) ?_
            obtain ⟨v9, hv9, h⟩ := bind_eq h
            refine ddg rfl rfl rfl (opD_call fn21 (opnds_cons rfl (opnds_cons rfl opnds_nil)) rfl (m21_r22_SamePacket_c hv9)) ?_
            refine dv rfl (opv_pick_t rfl rfl) ?_
            refine dv rfl (opv_mv rfl) ?_
            refine dsplit 80 rfl (fun hc => ?_) (fun hc => ?_)
            · replace h := ite_t hc h
              clear hc
              refine dvg rfl rfl rfl (opv_loadN ti32 rfl (.lp _ _ _ rfl) (Nat.le_of_ble_eq_true rfl)) ?_
              obtain ⟨v10, hv10, h⟩ := bind_eq h
              refine ddg rfl rfl rfl (opD_call fn16 (opnds_cons rfl opnds_nil) rfl (m16_l22_theirs_c hv10)) ?_
              refine dvg rfl rfl rfl (opv_loadN ti25 rfl (.lp _ _ _ rfl) (Nat.le_of_ble_eq_true rfl)) ?_
              obtain ⟨v11, hv11, h⟩ := bind_eq h
              refine ddg rfl rfl rfl (opD_call fn15 (opnds_cons rfl (opnds_cons rfl opnds_nil)) rfl (m15_r22_Same_c hv11)) ?_
              refine dv rfl (opv_pick_t rfl rfl) ?_
              refine dv rfl (opv_mv rfl) ?_
              refine dsplit 86 rfl (fun hc => ?_) (fun hc => ?_)
              · replace h := ite_t hc h
                clear hc
                refine dvg rfl rfl rfl (opv_loadN ti46 rfl (.lp _ _ _ rfl) (Nat.le_of_ble_eq_true rfl)) ?_
                obtain ⟨v12, hv12, h⟩ := bind_eq h
                refine ddg rfl rfl rfl (opD_call fn22 (opnds_cons rfl opnds_nil) rfl (m22_l22_packet_c hv12)) ?_
                refine dvg rfl rfl rfl (opv_fieldAddr_lp fi25_1 rfl) ?_
                refine dvg rfl rfl rfl (opv_load1 ti23 rfl (.lp _ _ _ rfl) rfl) ?_
                refine dvg rfl rfl rfl (opv_mv rfl) ?_
                obtain ⟨u13, hu13, h⟩ := bind_eq h
                refine dvg rfl rfl rfl (opv_ix (f := eGR22Packet) si23 (fun _ => rfl) rfl rfl rfl rfl hu13) ?_
                refine dvg rfl rfl rfl (opv_loadNe (ys := [.i .i64 u13.Link, .b u13.Up, .sl u13.Bytes.length (u13.Bytes.flatMap eU8)]) ti49 rfl (.cp _) rfl rfl) ?_
                obtain ⟨v14, hv14, h⟩ := bind_eq h
                refine ddg rfl rfl rfl (opD_call fn21 (opnds_cons rfl (opnds_cons rfl opnds_nil)) rfl (m21_r22_SamePacket_c hv14)) ?_
                refine dv rfl (opv_pick_t rfl rfl) ?_
                refine dv rfl (opv_as rfl) ?_
                refine dnil ?_
                refine then_normal ?_
                refine cret ?_
                obtain rfl := Option.some.inj h
                refine ⟨Or.inr rfl, _, _, _, (resVs_cons (ResV.tmp _ _ rfl) resVs_nil), (pubA_id rfl), ?_⟩
                rfl
              · replace h := ite_f hc h
                clear hc
                refine doff rfl rfl rfl rfl ?_
                refine doff rfl rfl rfl rfl ?_
                refine doff rfl rfl rfl rfl ?_
                refine doff rfl rfl rfl rfl ?_
                refine doff rfl rfl rfl rfl ?_
                refine doff rfl rfl rfl rfl ?_
                refine doff rfl rfl rfl rfl ?_
                refine doff rfl rfl rfl rfl ?_
                refine dv rfl (opv_pick_f rfl rfl) ?_
                refine dv rfl (opv_as rfl) ?_
                refine dnil ?_
                refine then_normal ?_
                refine cret ?_
                obtain rfl := Option.some.inj h
                refine ⟨Or.inr rfl, _, _, _, (resVs_cons (ResV.tmp _ _ rfl) resVs_nil), (pubA_id rfl), ?_⟩
                rfl
            · replace h := ite_f hc h
              clear hc
              refine doff rfl rfl rfl rfl ?_
              refine doff rfl rfl rfl rfl ?_
              refine doff rfl rfl rfl rfl ?_
              refine doff rfl rfl rfl rfl ?_
              refine dv rfl (opv_pick_f rfl rfl) ?_
              refine dv rfl (opv_mv rfl) ?_
              refine doff rfl rfl rfl rfl ?_
              refine doff rfl rfl rfl rfl ?_
              refine doff rfl rfl rfl rfl ?_
              refine doff rfl rfl rfl rfl ?_
              refine doff rfl rfl rfl rfl ?_
              refine doff rfl rfl rfl rfl ?_
              refine doff rfl rfl rfl rfl ?_
              refine doff rfl rfl rfl rfl ?_
              refine dv rfl (opv_pick_f rfl rfl) ?_
              refine dv rfl (opv_as rfl) ?_
              refine dnil ?_
              refine then_normal ?_
              refine cret ?_
              obtain rfl := Option.some.inj h
              refine ⟨Or.inr rfl, _, _, _, (resVs_cons (ResV.tmp _ _ rfl) resVs_nil), (pubA_id rfl), ?_⟩
              rfl
          · replace h := ite_f hc h
            clear hc
            refine doff rfl rfl rfl rfl ?_
            refine doff rfl rfl rfl rfl ?_
            refine doff rfl rfl rfl rfl ?_
            refine doff rfl rfl rfl rfl ?_
            refine doff rfl rfl rfl rfl ?_
            refine dv rfl (opv_pick_f rfl rfl) ?_
            refine dv rfl (opv_mv rfl) ?_
            refine doff rfl rfl rfl rfl ?_
            refine doff rfl rfl rfl rfl ?_
            refine doff rfl rfl rfl rfl ?_
            refine doff rfl rfl rfl rfl ?_
            refine dv rfl (opv_pick_f rfl rfl) ?_
            refine dv rfl (opv_mv rfl) ?_
            refine doff rfl rfl rfl rfl ?_
            refine doff rfl rfl rfl rfl ?_
            refine doff rfl rfl rfl rfl ?_
            refine doff rfl rfl rfl rfl ?_
            refine doff rfl rfl rfl rfl ?_
            refine doff rfl rfl rfl rfl ?_
            refine doff rfl rfl rfl rfl ?_
            refine doff rfl rfl rfl rfl ?_
            refine dv rfl (opv_pick_f rfl rfl) ?_
            refine dv rfl (opv_as rfl) ?_
            refine dnil ?_
            refine then_normal ?_
            refine cret ?_
            obtain rfl := Option.some.inj h
            refine ⟨Or.inr rfl, _, _, _, (resVs_cons (ResV.tmp _ _ rfl) resVs_nil), (pubA_id rfl), ?_⟩
            rfl
        · replace h := ite_f hc h
          clear hc
          refine doff rfl rfl rfl rfl ?_
          refine dv rfl (opv_pick_f rfl rfl) ?_
          refine dv rfl (opv_mv rfl) ?_
          refine doff rfl rfl rfl rfl ?_
          refine doff rfl rfl rfl rfl ?_
          refine doff rfl rfl rfl rfl ?_
          refine doff rfl rfl rfl rfl ?_
          refine doff rfl rfl rfl rfl ?_
          refine dv rfl (opv_pick_f rfl rfl) ?_
          refine dv rfl (opv_mv rfl) ?_
          refine doff rfl rfl rfl rfl ?_
          refine doff rfl rfl rfl rfl ?_
          refine doff rfl rfl rfl rfl ?_
          refine doff rfl rfl rfl rfl ?_
          refine dv rfl (opv_pick_f rfl rfl) ?_
          refine dv rfl (opv_mv rfl) ?_
          refine doff rfl rfl rfl rfl ?_
          refine doff rfl rfl rfl rfl ?_
          refine doff rfl rfl rfl rfl ?_
          refine doff rfl rfl rfl rfl ?_
          refine doff rfl rfl rfl rfl ?_
          refine doff rfl rfl rfl rfl ?_
          refine doff rfl rfl rfl rfl ?_
          refine doff rfl rfl rfl rfl ?_
          refine dv rfl (opv_pick_f rfl rfl) ?_
          refine dv rfl (opv_as rfl) ?_
          refine dnil ?_
          refine then_normal ?_
          refine cret ?_
          obtain rfl := Option.some.inj h
          refine ⟨Or.inr rfl, _, _, _, (resVs_cons (ResV.tmp _ _ rfl) resVs_nil), (pubA_id rfl), ?_⟩
          rfl
      · replace h := ite_f hc h
        clear hc
        refine doff rfl rfl rfl rfl ?_
        refine dv rfl (opv_pick_f rfl rfl) ?_
        refine dv rfl (opv_mv rfl) ?_
        refine doff rfl rfl rfl rfl ?_
        refine dv rfl (opv_pick_f rfl rfl) ?_
        refine dv rfl (opv_mv rfl) ?_
        refine doff rfl rfl rfl rfl ?_
        refine doff rfl rfl rfl rfl ?_
        refine doff rfl rfl rfl rfl ?_
        refine doff rfl rfl rfl rfl ?_
        refine doff rfl rfl rfl rfl ?_
        refine dv rfl (opv_pick_f rfl rfl) ?_
        refine dv rfl (opv_mv rfl) ?_
        refine doff rfl rfl rfl rfl ?_
        refine doff rfl rfl rfl rfl ?_
        refine doff rfl rfl rfl rfl ?_
        refine doff rfl rfl rfl rfl ?_
        refine dv rfl (opv_pick_f rfl rfl) ?_
        refine dv rfl (opv_mv rfl) ?_
        refine doff rfl rfl rfl rfl ?_
        refine doff rfl rfl rfl rfl ?_
        refine doff rfl rfl rfl rfl ?_
        refine doff rfl rfl rfl rfl ?_
        refine doff rfl rfl rfl rfl ?_
        refine doff rfl rfl rfl rfl ?_
        refine doff rfl rfl rfl rfl ?_
        refine doff rfl rfl rfl rfl ?_
        refine dv rfl (opv_pick_f rfl rfl) ?_
        refine dv rfl (opv_as rfl) ?_
        refine dnil ?_
        refine then_normal ?_
        refine cret ?_
        obtain rfl := Option.some.inj h
        refine ⟨Or.inr rfl, _, _, _, (resVs_cons (ResV.tmp _ _ rfl) resVs_nil), (pubA_id rfl), ?_⟩
        rfl
  · skip
    refine cregion ?_
    refine sv rfl (opv_loadN ti25 rfl (.lp _ _ _ rfl) (Nat.le_of_ble_eq_true rfl)) ?_
    obtain ⟨v15, hv15, h⟩ := bind_eq h
    refine scall1 rfl fn9 (opnds_cons rfl opnds_nil) (pubA_id rfl) (m9_r22_Few_c hv15) ?_
    refine sv rfl (opv_not rfl) ?_
    refine sv rfl (opv_mv rfl) ?_
    refine ssplit 21 rfl (fun hc => ?_) (fun hc => ?_)
    · replace h := ite_t hc h
      clear hc
      refine soff rfl rfl rfl rfl ?_
      refine soff rfl rfl rfl rfl ?_
      refine soff rfl rfl rfl rfl ?_
      refine sv rfl (opv_pick_t rfl rfl) ?_
      refine snil ?_
      refine ccond rfl (fun _ => ?_) (fun hx => Bool.noConfusion hx)
      refine cseq ?_
      refine cregion ?_
      refine sv rfl (opv_mv rfl) ?_
      refine sv rfl (opv_as rfl) ?_
      refine snil ?_
      refine cret ?_
      refine then_ret ?_
      obtain rfl := Option.some.inj h
      refine ⟨Or.inr rfl, _, _, _, (resVs_cons (ResV.tmp _ _ rfl) resVs_nil), (pubA_id rfl), ?_⟩
      rfl
    · replace h := ite_f hc h
      clear hc
      refine son rfl rfl rfl ?_
      refine sv rfl (opv_loadN ti32 rfl (.lp _ _ _ rfl) (Nat.le_of_ble_eq_true rfl)) ?_
      refine son rfl rfl rfl ?_
      obtain ⟨v16, hv16, h⟩ := bind_eq h
      refine scall1 rfl fn30 (opnds_cons rfl opnds_nil) (pubA_id rfl) (m30_net_Sane_c hv16) ?_
      refine son rfl rfl rfl ?_
      refine sv rfl (opv_not rfl) ?_
      refine sv rfl (opv_pick_f rfl rfl) ?_
      refine snil ?_
      refine ccond rfl (fun hc => ?_) (fun hc => ?_)
      · replace h := ite_t hc h
        clear hc
        refine cseq ?_
        refine cregion ?_
        refine sv rfl (opv_mv rfl) ?_
        refine sv rfl (opv_as rfl) ?_
        refine snil ?_
        refine cret ?_
        refine then_ret ?_
        obtain rfl := Option.some.inj h
        refine ⟨Or.inr rfl, _, _, _, (resVs_cons (ResV.tmp _ _ rfl) resVs_nil), (pubA_id rfl), ?_⟩
        rfl
      · replace h := ite_f hc h
        clear hc
        refine cskip ?_
        refine then_normal ?_
        exact ⟨(), _, h, ⟨rfl, rfl, rfl, rfl, trivial⟩, rfl⟩


end Go.Proofs.Ythmibhmmbajcfaa.Abs
