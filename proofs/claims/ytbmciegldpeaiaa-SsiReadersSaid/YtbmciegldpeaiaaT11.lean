/-
  t
-/
import Derived.Test.YtbmciegldpeaiaaT11b
namespace Go.Proofs.Ytbmciegldpeaiaa.Abs
open Go.RowKit Go.Proofs
def m5_l11_SsiAlone (a0 : List GL11Act) (a1 : List GApiRange) (a2 : List (List UInt8)) : Option Bool :=
  (m9_l11_awake).bind fun v1 => (m10_l11_small a0).bind fun v24 => if (!v24) then (some v1) else (if (decide (20 < (a1.length : Int))) then (some v1) else ((m10_l11_small [(GL11Act.mk 0 0 false (GApiRange.mk ([] : List UInt8) ([] : List UInt8) false) a2)]).bind fun v25 => if (!v25) then (some v1) else (if (decide (10 < (a2.length : Int))) then (some v1) else (m5_l11_SsiAlone_k2 a0 a1 a2 v1 ()))))

set_option maxRecDepth 100000 in
theorem m5_l11_SsiAlone_c {a0 : List GL11Act} {a1 : List GApiRange} {a2 : List (List UInt8)} {r : Bool} (h : m5_l11_SsiAlone a0 a1 a2 = some r) : CallsA Try.prog 5 [.one (.sl a0.length (a0.flatMap eGL11Act)), .one (.sl a1.length (a1.flatMap eGApiRange)), .one (.sl a2.length (a2.flatMap (eL eU8)))] (· = .s (.one (.b r))) := by
  unfold m5_l11_SsiAlone at h
  refine callsA_of Try.func5 rfl (nt := 164) rfl (Nat.le_of_ble_eq_true rfl) ?_
  intro w0 S0
  refine cseq ?_
  refine cregion ?_
  refine sv rfl (opv_as rfl) ?_
  refine snil ?_
  refine cseq ?_
  refine cregion ?_
  obtain ⟨v1, hv1, h⟩ := bind_eq h
  refine scall1 rfl fn9 opnds_nil (pubA_id rfl) (m9_l11_awake_c hv1) ?_
  refine sv rfl (opv_as rfl) ?_
  refine snil ?_
  refine cseq ?_
  refine cseq ?_
  refine cjoin3 (Unit) (fun b2 => [(0, .s (.one (.sl a0.length (a0.flatMap eGL11Act)))), (1, .s (.one (.sl a1.length (a1.flatMap eGApiRange)))), (2, .s (.one (.sl a2.length (a2.flatMap (eL eU8))))), (7, .s (.one (.b v1)))]) (fun b2 => []) (fun b2 => m5_l11_SsiAlone_k2 a0 a1 a2 v1 b2 = some r) (fun _ _ => inbL_of rfl) (fun _ _ => blkinb_of rfl) (fun _ _ => Nat.le_of_ble_eq_true rfl) (fun b2 h => ?_) ?_
  · unfold m5_l11_SsiAlone_k2 at h
    refine cseq ?_
    refine cregion ?_
    refine sv rfl (opv_build zi36 pi36 parts_nil (.nil _)) ?_
    refine sbox rfl rfl ?_
    refine sv rfl (opv_as rfl) ?_
    refine snil ?_
    refine cseq ?_
    refine cseq ?_
    refine cregion ?_
    refine sv rfl (opv_as rfl) ?_
    refine snil ?_
    refine sadopt_box_c 3 1 0 3 (by decide) rfl rfl ?_
    refine sadopt_box_c 46 8 0 4 (by decide) rfl rfl ?_
    refine sadopt_box_c 76 4 0 5 (by decide) rfl rfl ?_
    refine cjoin ((List GSsiTx) × (List GReadsRead) × Int × (List Int) × (List GR11Tx) × (List GR10Read)) (fun b3 => [(1, .s (.one (.sl a1.length (a1.flatMap eGApiRange)))), (2, .s (.one (.sl a2.length (a2.flatMap (eL eU8))))), (7, .s (.one (.b v1))), (8, .s (.one (.lp 0 0)))]) (fun b3 => [.box [.sl b3.1.length (b3.1.flatMap eGSsiTx), .sl b3.2.1.length (b3.2.1.flatMap eGReadsRead), .i .i64 b3.2.2.1, .ls 1 b3.2.2.2.1.length, .ls 2 b3.2.2.2.2.1.length, .ls 3 b3.2.2.2.2.2.length], .arr 3 1 0 (b3.2.2.2.1.flatMap eI), .arr 46 8 0 (b3.2.2.2.2.1.flatMap eGR11Tx), .arr 76 4 0 (b3.2.2.2.2.2.flatMap eGR10Read)]) (fun b3 => m5_l11_SsiAlone_k3 a1 a2 v1 b3 = some r) (fun _ _ => inbL_of rfl) (fun _ _ => blkinb_of rfl) (fun _ _ => Nat.le_of_ble_eq_true rfl) (fun b3 h => ?_) ?_
    · unfold m5_l11_SsiAlone_k3 at h
      refine cseq ?_
      refine cseq ?_
      refine cregion ?_
      refine sv rfl (opv_as rfl) ?_
      refine snil ?_
      refine cjoin ((List GSsiTx) × (List GReadsRead)) (fun b4 => [(1, .s (.one (.sl a1.length (a1.flatMap eGApiRange)))), (2, .s (.one (.sl a2.length (a2.flatMap (eL eU8))))), (7, .s (.one (.b v1))), (8, .s (.one (.lp 0 0)))]) (fun b4 => [.box [.sl b4.1.length (b4.1.flatMap eGSsiTx), .sl b4.2.length (b4.2.flatMap eGReadsRead), .i .i64 b3.2.2.1, .ls 1 b3.2.2.2.1.length, .ls 2 b3.2.2.2.2.1.length, .ls 3 b3.2.2.2.2.2.length], .arr 3 1 0 (b3.2.2.2.1.flatMap eI), .arr 46 8 0 (b3.2.2.2.2.1.flatMap eGR11Tx), .arr 76 4 0 (b3.2.2.2.2.2.flatMap eGR10Read)]) (fun b4 => m5_l11_SsiAlone_k4 a1 a2 v1 b3 b4 = some r) (fun _ _ => inbL_of rfl) (fun _ _ => blkinb_of rfl) (fun _ _ => Nat.le_of_ble_eq_true rfl) (fun b4 h => ?_) ?_
      · unfold m5_l11_SsiAlone_k4 at h
        refine cseq ?_
        refine cregion ?_
        refine sv rfl (opv_mv rfl) ?_
        refine sv rfl (opv_mv rfl) ?_
        refine sv rfl (opv_nilCheck rfl rfl (fun _ _ _ h => by cases h)) ?_
        refine sv rfl (opv_fieldAddr_lp fi36_0 rfl) ?_
        refine sv rfl (opv_loadN ti31 rfl (.lp _ _ _ rfl) (Nat.le_of_ble_eq_true rfl)) ?_
        obtain ⟨v5, hv5, h⟩ := bind_eq h
        refine scall1 rfl fn16 (opnds_cons rfl opnds_nil) (pubA_id rfl) (m16_ssi_Clean_c hv5) ?_
        refine sv rfl (opv_nilCheck rfl rfl (fun _ _ _ h => by cases h)) ?_
        refine sv rfl (opv_fieldAddr_lp fi36_0 rfl) ?_
        refine sstore sz31 rfl rfl rfl rfl (Nat.le_of_ble_eq_true rfl) ?_
        refine smem [.box [.sl v5.Txs.length (v5.Txs.flatMap eGSsiTx), .sl v5.Reads.L.length (v5.Reads.L.flatMap eGReadsRead), .i .i64 b3.2.2.1, .ls 1 b3.2.2.2.1.length, .ls 2 b3.2.2.2.2.1.length, .ls 3 b3.2.2.2.2.2.length], .arr 3 1 0 (b3.2.2.2.1.flatMap eI), .arr 46 8 0 (b3.2.2.2.2.1.flatMap eGR11Tx), .arr 76 4 0 (b3.2.2.2.2.2.flatMap eGR10Read)] rfl ?_
        refine snil ?_
        refine cseq ?_
        refine cseq ?_
        refine cjoin3 (Unit) (fun b6 => [(1, .s (.one (.sl a1.length (a1.flatMap eGApiRange)))), (2, .s (.one (.sl a2.length (a2.flatMap (eL eU8))))), (7, .s (.one (.b v1))), (8, .s (.one (.lp 0 0)))]) (fun b6 => [.box [.sl v5.Txs.length (v5.Txs.flatMap eGSsiTx), .sl v5.Reads.L.length (v5.Reads.L.flatMap eGReadsRead), .i .i64 b3.2.2.1, .ls 1 b3.2.2.2.1.length, .ls 2 b3.2.2.2.2.1.length, .ls 3 b3.2.2.2.2.2.length], .arr 3 1 0 (b3.2.2.2.1.flatMap eI), .arr 46 8 0 (b3.2.2.2.2.1.flatMap eGR11Tx), .arr 76 4 0 (b3.2.2.2.2.2.flatMap eGR10Read)]) (fun b6 => m5_l11_SsiAlone_k6 a1 a2 v1 b3 v5 b6 = some r) (fun _ _ => inbL_of rfl) (fun _ _ => blkinb_of rfl) (fun _ _ => Nat.le_of_ble_eq_true rfl) (fun b6 h => ?_) ?_
        · unfold m5_l11_SsiAlone_k6 at h
          refine cseq ?_
          refine chole ?_
          obtain ⟨v7, hv7, h⟩ := bind_eq h
          refine cdraw_e [12, 13] [0, 1, 3, 7, 0, 16, 48, 112, 255, 511, 1023, 1023, 0, 6143, 16383] [[.box [.sl v5.Txs.length (v5.Txs.flatMap eGSsiTx), .sl v5.Reads.L.length (v5.Reads.L.flatMap eGReadsRead), .i .i64 b3.2.2.1, .ls 1 b3.2.2.2.1.length, .ls 2 b3.2.2.2.2.1.length, .ls 3 b3.2.2.2.2.2.length], .arr 3 1 0 (b3.2.2.2.1.flatMap eI), .arr 46 8 0 (b3.2.2.2.2.1.flatMap eGR11Tx), .arr 76 4 0 (b3.2.2.2.2.2.flatMap eGR10Read), .hole], [.box [.sl v5.Txs.length (v5.Txs.flatMap eGSsiTx), .sl v5.Reads.L.length (v5.Reads.L.flatMap eGReadsRead), .i .i64 b3.2.2.1, .ls 1 b3.2.2.2.1.length, .ls 2 b3.2.2.2.2.1.length, .ls 3 b3.2.2.2.2.2.length], .arr 3 1 0 (b3.2.2.2.1.flatMap eI), .arr 46 8 0 (b3.2.2.2.2.1.flatMap eGR11Tx), .arr 76 4 0 (b3.2.2.2.2.2.flatMap eGR10Read), .box [.raw (.slice none 0 0), .raw (.slice none 0 0)]], [.box [.sl v5.Txs.length (v5.Txs.flatMap eGSsiTx), .sl v5.Reads.L.length (v5.Reads.L.flatMap eGReadsRead), .i .i64 b3.2.2.1, .ls 1 b3.2.2.2.1.length, .ls 2 b3.2.2.2.2.1.length, .ls 3 b3.2.2.2.2.2.length], .arr 3 1 0 (b3.2.2.2.1.flatMap eI), .arr 46 8 0 (b3.2.2.2.2.1.flatMap eGR11Tx), .arr 76 4 0 (b3.2.2.2.2.2.flatMap eGR10Read), .box v7.1]] (by kernel_rfl) mixed (by kernel_rfl) (by decide) rfl rfl rfl rfl ?_
          refine emv rfl rfl (fun _ => opv_mv rfl) ?_
          refine ev (sees_all (md := [.box [.sl v5.Txs.length (v5.Txs.flatMap eGSsiTx), .sl v5.Reads.L.length (v5.Reads.L.flatMap eGReadsRead), .i .i64 b3.2.2.1, .ls 1 b3.2.2.2.1.length, .ls 2 b3.2.2.2.2.1.length, .ls 3 b3.2.2.2.2.2.length], .arr 3 1 0 (b3.2.2.2.1.flatMap eI), .arr 46 8 0 (b3.2.2.2.2.1.flatMap eGR11Tx), .arr 76 4 0 (b3.2.2.2.2.2.flatMap eGR10Read), .dead]) ⟨⟨rfl, ⟨rfl, ⟨rfl, ⟨rfl, ⟨trivial, trivial⟩⟩⟩⟩⟩, ⟨⟨rfl, ⟨rfl, ⟨rfl, ⟨rfl, ⟨trivial, trivial⟩⟩⟩⟩⟩, ⟨⟨rfl, ⟨rfl, ⟨rfl, ⟨rfl, ⟨trivial, trivial⟩⟩⟩⟩⟩, trivial⟩⟩⟩) rfl rfl (opv_nilCheck rfl rfl (fun _ _ _ h => by cases h)) ?_
          refine ev (sees_all (md := [.box [.sl v5.Txs.length (v5.Txs.flatMap eGSsiTx), .sl v5.Reads.L.length (v5.Reads.L.flatMap eGReadsRead), .i .i64 b3.2.2.1, .ls 1 b3.2.2.2.1.length, .ls 2 b3.2.2.2.2.1.length, .ls 3 b3.2.2.2.2.2.length], .arr 3 1 0 (b3.2.2.2.1.flatMap eI), .arr 46 8 0 (b3.2.2.2.2.1.flatMap eGR11Tx), .arr 76 4 0 (b3.2.2.2.2.2.flatMap eGR10Read), .dead]) ⟨⟨rfl, ⟨rfl, ⟨rfl, ⟨rfl, ⟨trivial, trivial⟩⟩⟩⟩⟩, ⟨⟨rfl, ⟨rfl, ⟨rfl, ⟨rfl, ⟨trivial, trivial⟩⟩⟩⟩⟩, ⟨⟨rfl, ⟨rfl, ⟨rfl, ⟨rfl, ⟨trivial, trivial⟩⟩⟩⟩⟩, trivial⟩⟩⟩) rfl rfl (opv_fieldAddr_lp fi36_0 rfl) ?_
          refine ev (sees_all (md := [.box [.sl v5.Txs.length (v5.Txs.flatMap eGSsiTx), .sl v5.Reads.L.length (v5.Reads.L.flatMap eGReadsRead), .i .i64 b3.2.2.1, .ls 1 b3.2.2.2.1.length, .ls 2 b3.2.2.2.2.1.length, .ls 3 b3.2.2.2.2.2.length], .arr 3 1 0 (b3.2.2.2.1.flatMap eI), .arr 46 8 0 (b3.2.2.2.2.1.flatMap eGR11Tx), .arr 76 4 0 (b3.2.2.2.2.2.flatMap eGR10Read), .dead]) ⟨⟨rfl, ⟨rfl, ⟨rfl, ⟨rfl, ⟨trivial, trivial⟩⟩⟩⟩⟩, ⟨⟨rfl, ⟨rfl, ⟨rfl, ⟨rfl, ⟨trivial, trivial⟩⟩⟩⟩⟩, ⟨⟨rfl, ⟨rfl, ⟨rfl, ⟨rfl, ⟨trivial, trivial⟩⟩⟩⟩⟩, trivial⟩⟩⟩) rfl rfl (opv_loadN ti31 rfl (.lp _ _ _ rfl) (Nat.le_of_ble_eq_true rfl)) ?_
          refine emv rfl rfl (fun _ => opv_mv rfl) ?_
          refine ev (sees_all (md := [.box [.sl v5.Txs.length (v5.Txs.flatMap eGSsiTx), .sl v5.Reads.L.length (v5.Reads.L.flatMap eGReadsRead), .i .i64 b3.2.2.1, .ls 1 b3.2.2.2.1.length, .ls 2 b3.2.2.2.2.1.length, .ls 3 b3.2.2.2.2.2.length], .arr 3 1 0 (b3.2.2.2.1.flatMap eI), .arr 46 8 0 (b3.2.2.2.2.1.flatMap eGR11Tx), .arr 76 4 0 (b3.2.2.2.2.2.flatMap eGR10Read), .dead]) ⟨⟨rfl, ⟨rfl, ⟨rfl, ⟨rfl, ⟨trivial, trivial⟩⟩⟩⟩⟩, ⟨⟨rfl, ⟨rfl, ⟨rfl, ⟨rfl, ⟨trivial, trivial⟩⟩⟩⟩⟩, ⟨⟨rfl, ⟨rfl, ⟨rfl, ⟨rfl, ⟨trivial, trivial⟩⟩⟩⟩⟩, trivial⟩⟩⟩) rfl rfl (opv_nilCheck rfl rfl (fun _ _ _ h => by cases h)) ?_
          refine ev (sees_all (md := [.box [.sl v5.Txs.length (v5.Txs.flatMap eGSsiTx), .sl v5.Reads.L.length (v5.Reads.L.flatMap eGReadsRead), .i .i64 b3.2.2.1, .ls 1 b3.2.2.2.1.length, .ls 2 b3.2.2.2.2.1.length, .ls 3 b3.2.2.2.2.2.length], .arr 3 1 0 (b3.2.2.2.1.flatMap eI), .arr 46 8 0 (b3.2.2.2.2.1.flatMap eGR11Tx), .arr 76 4 0 (b3.2.2.2.2.2.flatMap eGR10Read), .dead]) ⟨⟨rfl, ⟨rfl, ⟨rfl, ⟨rfl, ⟨trivial, trivial⟩⟩⟩⟩⟩, ⟨⟨rfl, ⟨rfl, ⟨rfl, ⟨rfl, ⟨trivial, trivial⟩⟩⟩⟩⟩, ⟨⟨rfl, ⟨rfl, ⟨rfl, ⟨rfl, ⟨trivial, trivial⟩⟩⟩⟩⟩, trivial⟩⟩⟩) rfl rfl (opv_fieldAddr_lp fi36_1 rfl) ?_
          refine ev (sees_all (md := [.box [.sl v5.Txs.length (v5.Txs.flatMap eGSsiTx), .sl v5.Reads.L.length (v5.Reads.L.flatMap eGReadsRead), .i .i64 b3.2.2.1, .ls 1 b3.2.2.2.1.length, .ls 2 b3.2.2.2.2.1.length, .ls 3 b3.2.2.2.2.2.length], .arr 3 1 0 (b3.2.2.2.1.flatMap eI), .arr 46 8 0 (b3.2.2.2.2.1.flatMap eGR11Tx), .arr 76 4 0 (b3.2.2.2.2.2.flatMap eGR10Read), .dead]) ⟨⟨rfl, ⟨rfl, ⟨rfl, ⟨rfl, ⟨trivial, trivial⟩⟩⟩⟩⟩, ⟨⟨rfl, ⟨rfl, ⟨rfl, ⟨rfl, ⟨trivial, trivial⟩⟩⟩⟩⟩, ⟨⟨rfl, ⟨rfl, ⟨rfl, ⟨rfl, ⟨trivial, trivial⟩⟩⟩⟩⟩, trivial⟩⟩⟩) rfl rfl (opv_load1 ti3 rfl (.lp _ _ _ rfl) rfl) ?_
          refine ed (sees_all (md := [.box [.sl v5.Txs.length (v5.Txs.flatMap eGSsiTx), .sl v5.Reads.L.length (v5.Reads.L.flatMap eGReadsRead), .i .i64 b3.2.2.1, .ls 1 b3.2.2.2.1.length, .ls 2 b3.2.2.2.2.1.length, .ls 3 b3.2.2.2.2.2.length], .arr 3 1 0 (b3.2.2.2.1.flatMap eI), .arr 46 8 0 (b3.2.2.2.2.1.flatMap eGR11Tx), .arr 76 4 0 (b3.2.2.2.2.2.flatMap eGR10Read), .dead]) ⟨⟨rfl, ⟨rfl, ⟨rfl, ⟨rfl, ⟨trivial, trivial⟩⟩⟩⟩⟩, ⟨⟨rfl, ⟨rfl, ⟨rfl, ⟨rfl, ⟨trivial, trivial⟩⟩⟩⟩⟩, ⟨⟨rfl, ⟨rfl, ⟨rfl, ⟨rfl, ⟨trivial, trivial⟩⟩⟩⟩⟩, trivial⟩⟩⟩) rfl rfl (opD_call fn17 (opnds_cons rfl (opnds_cons rfl (opnds_cons rfl (opnds_cons rfl opnds_nil)))) rfl (m17_ssi_Begin_c hv7)) ?_
          refine emv rfl rfl (fun _ => opv_mvt rfl) ?_
          refine ev (sees_all (md := [.box [.sl v5.Txs.length (v5.Txs.flatMap eGSsiTx), .sl v5.Reads.L.length (v5.Reads.L.flatMap eGReadsRead), .i .i64 b3.2.2.1, .ls 1 b3.2.2.2.1.length, .ls 2 b3.2.2.2.2.1.length, .ls 3 b3.2.2.2.2.2.length], .arr 3 1 0 (b3.2.2.2.1.flatMap eI), .arr 46 8 0 (b3.2.2.2.2.1.flatMap eGR11Tx), .arr 76 4 0 (b3.2.2.2.2.2.flatMap eGR10Read), .dead]) ⟨⟨rfl, ⟨rfl, ⟨rfl, ⟨rfl, ⟨trivial, trivial⟩⟩⟩⟩⟩, ⟨⟨rfl, ⟨rfl, ⟨rfl, ⟨rfl, ⟨trivial, trivial⟩⟩⟩⟩⟩, ⟨⟨rfl, ⟨rfl, ⟨rfl, ⟨rfl, ⟨trivial, trivial⟩⟩⟩⟩⟩, trivial⟩⟩⟩) rfl rfl (opv_extract rfl rfl) ?_
          refine ev (sees_all (md := [.box [.sl v5.Txs.length (v5.Txs.flatMap eGSsiTx), .sl v5.Reads.L.length (v5.Reads.L.flatMap eGReadsRead), .i .i64 b3.2.2.1, .ls 1 b3.2.2.2.1.length, .ls 2 b3.2.2.2.2.1.length, .ls 3 b3.2.2.2.2.2.length], .arr 3 1 0 (b3.2.2.2.1.flatMap eI), .arr 46 8 0 (b3.2.2.2.2.1.flatMap eGR11Tx), .arr 76 4 0 (b3.2.2.2.2.2.flatMap eGR10Read), .dead]) ⟨⟨rfl, ⟨rfl, ⟨rfl, ⟨rfl, ⟨trivial, trivial⟩⟩⟩⟩⟩, ⟨⟨rfl, ⟨rfl, ⟨rfl, ⟨rfl, ⟨trivial, trivial⟩⟩⟩⟩⟩, ⟨⟨rfl, ⟨rfl, ⟨rfl, ⟨rfl, ⟨trivial, trivial⟩⟩⟩⟩⟩, trivial⟩⟩⟩) rfl rfl (opv_extract rfl rfl) ?_
          refine ee (x := .s (.one (.lp 4 0))) 0 rfl rfl rfl rfl rfl (fun ζ => ?_) ?_
          · refine salloc_at 4 rfl zi31 rfl ?_
            exact eend
          refine ee0 1 rfl rfl rfl rfl (fun ζ => ?_) ?_
          · refine sstore sz31 rfl rfl rfl rfl (Nat.le_of_ble_eq_true rfl) ?_
            refine smem [.box [.sl v5.Txs.length (v5.Txs.flatMap eGSsiTx), .sl v5.Reads.L.length (v5.Reads.L.flatMap eGReadsRead), .i .i64 b3.2.2.1, .ls 1 b3.2.2.2.1.length, .ls 2 b3.2.2.2.2.1.length, .ls 3 b3.2.2.2.2.2.length], .arr 3 1 0 (b3.2.2.2.1.flatMap eI), .arr 46 8 0 (b3.2.2.2.2.1.flatMap eGR11Tx), .arr 76 4 0 (b3.2.2.2.2.2.flatMap eGR10Read), .box v7.1] rfl ?_
            exact eend
          refine ev (sees_at 2 rfl rfl) rfl rfl (opv_as rfl) ?_
          refine enil ?_
          refine then_normal ?_
          refine cseq ?_
          refine cseq ?_
          refine cregion ?_
          refine sv rfl (opv_as rfl) ?_
          refine snil ?_
          refine cjoin ((List GSsiTx) × (List GReadsRead)) (fun b8 => [(2, .s (.one (.sl a2.length (a2.flatMap (eL eU8))))), (7, .s (.one (.b v1))), (8, .s (.one (.lp 0 0))), (11, .s (.one (.lp 4 0))), (12, .s (.one (.i .i64 v7.2)))]) (fun b8 => [.box [.sl v5.Txs.length (v5.Txs.flatMap eGSsiTx), .sl v5.Reads.L.length (v5.Reads.L.flatMap eGReadsRead), .i .i64 b3.2.2.1, .ls 1 b3.2.2.2.1.length, .ls 2 b3.2.2.2.2.1.length, .ls 3 b3.2.2.2.2.2.length], .arr 3 1 0 (b3.2.2.2.1.flatMap eI), .arr 46 8 0 (b3.2.2.2.2.1.flatMap eGR11Tx), .arr 76 4 0 (b3.2.2.2.2.2.flatMap eGR10Read), .box [.sl b8.1.length (b8.1.flatMap eGSsiTx), .sl b8.2.length (b8.2.flatMap eGReadsRead)]]) (fun b8 => m5_l11_SsiAlone_k8 a2 v1 b3 v7 b8 = some r) (fun _ _ => inbL_of rfl) (fun _ _ => blkinb_of rfl) (fun _ _ => Nat.le_of_ble_eq_true rfl) (fun b8 h => ?_) ?_
          · unfold m5_l11_SsiAlone_k8 at h
            refine cseq ?_
            refine chole ?_
            obtain ⟨v9, hv9, h⟩ := bind_eq h
            refine cdraw_e [11, 12] [0, 0, 2, 6, 14, 30, 0, 127, 255, 511, 511, 0, 3071, 8191] [[.box [.sl v5.Txs.length (v5.Txs.flatMap eGSsiTx), .sl v5.Reads.L.length (v5.Reads.L.flatMap eGReadsRead), .i .i64 b3.2.2.1, .ls 1 b3.2.2.2.1.length, .ls 2 b3.2.2.2.2.1.length, .ls 3 b3.2.2.2.2.2.length], .arr 3 1 0 (b3.2.2.2.1.flatMap eI), .arr 46 8 0 (b3.2.2.2.2.1.flatMap eGR11Tx), .arr 76 4 0 (b3.2.2.2.2.2.flatMap eGR10Read), .box [.sl b8.1.length (b8.1.flatMap eGSsiTx), .sl b8.2.length (b8.2.flatMap eGReadsRead)], .hole], [.box [.sl v5.Txs.length (v5.Txs.flatMap eGSsiTx), .sl v5.Reads.L.length (v5.Reads.L.flatMap eGReadsRead), .i .i64 b3.2.2.1, .ls 1 b3.2.2.2.1.length, .ls 2 b3.2.2.2.2.1.length, .ls 3 b3.2.2.2.2.2.length], .arr 3 1 0 (b3.2.2.2.1.flatMap eI), .arr 46 8 0 (b3.2.2.2.2.1.flatMap eGR11Tx), .arr 76 4 0 (b3.2.2.2.2.2.flatMap eGR10Read), .box [.sl b8.1.length (b8.1.flatMap eGSsiTx), .sl b8.2.length (b8.2.flatMap eGReadsRead)], .box [.raw (.slice none 0 0), .raw (.slice none 0 0)]], [.box [.sl v5.Txs.length (v5.Txs.flatMap eGSsiTx), .sl v5.Reads.L.length (v5.Reads.L.flatMap eGReadsRead), .i .i64 b3.2.2.1, .ls 1 b3.2.2.2.1.length, .ls 2 b3.2.2.2.2.1.length, .ls 3 b3.2.2.2.2.2.length], .arr 3 1 0 (b3.2.2.2.1.flatMap eI), .arr 46 8 0 (b3.2.2.2.2.1.flatMap eGR11Tx), .arr 76 4 0 (b3.2.2.2.2.2.flatMap eGR10Read), .box [.sl b8.1.length (b8.1.flatMap eGSsiTx), .sl b8.2.length (b8.2.flatMap eGReadsRead)], .box v9.1]] (by kernel_rfl) mixed (by kernel_rfl) (by decide) rfl rfl rfl rfl ?_
            refine ev (sees_all (md := [.box [.sl v5.Txs.length (v5.Txs.flatMap eGSsiTx), .sl v5.Reads.L.length (v5.Reads.L.flatMap eGReadsRead), .i .i64 b3.2.2.1, .ls 1 b3.2.2.2.1.length, .ls 2 b3.2.2.2.2.1.length, .ls 3 b3.2.2.2.2.2.length], .arr 3 1 0 (b3.2.2.2.1.flatMap eI), .arr 46 8 0 (b3.2.2.2.2.1.flatMap eGR11Tx), .arr 76 4 0 (b3.2.2.2.2.2.flatMap eGR10Read), .box [.sl b8.1.length (b8.1.flatMap eGSsiTx), .sl b8.2.length (b8.2.flatMap eGReadsRead)], .dead]) ⟨⟨rfl, ⟨rfl, ⟨rfl, ⟨rfl, ⟨rfl, ⟨trivial, trivial⟩⟩⟩⟩⟩⟩, ⟨⟨rfl, ⟨rfl, ⟨rfl, ⟨rfl, ⟨rfl, ⟨trivial, trivial⟩⟩⟩⟩⟩⟩, ⟨⟨rfl, ⟨rfl, ⟨rfl, ⟨rfl, ⟨rfl, ⟨trivial, trivial⟩⟩⟩⟩⟩⟩, trivial⟩⟩⟩) rfl rfl (opv_loadN ti31 rfl (.lp _ _ _ rfl) (Nat.le_of_ble_eq_true rfl)) ?_
            refine emv rfl rfl (fun _ => opv_mv rfl) ?_
            refine ev (sees_all (md := [.box [.sl v5.Txs.length (v5.Txs.flatMap eGSsiTx), .sl v5.Reads.L.length (v5.Reads.L.flatMap eGReadsRead), .i .i64 b3.2.2.1, .ls 1 b3.2.2.2.1.length, .ls 2 b3.2.2.2.2.1.length, .ls 3 b3.2.2.2.2.2.length], .arr 3 1 0 (b3.2.2.2.1.flatMap eI), .arr 46 8 0 (b3.2.2.2.2.1.flatMap eGR11Tx), .arr 76 4 0 (b3.2.2.2.2.2.flatMap eGR10Read), .box [.sl b8.1.length (b8.1.flatMap eGSsiTx), .sl b8.2.length (b8.2.flatMap eGReadsRead)], .dead]) ⟨⟨rfl, ⟨rfl, ⟨rfl, ⟨rfl, ⟨rfl, ⟨trivial, trivial⟩⟩⟩⟩⟩⟩, ⟨⟨rfl, ⟨rfl, ⟨rfl, ⟨rfl, ⟨rfl, ⟨trivial, trivial⟩⟩⟩⟩⟩⟩, ⟨⟨rfl, ⟨rfl, ⟨rfl, ⟨rfl, ⟨rfl, ⟨trivial, trivial⟩⟩⟩⟩⟩⟩, trivial⟩⟩⟩) rfl rfl (opv_nilCheck rfl rfl (fun _ _ _ h => by cases h)) ?_
            refine ev (sees_all (md := [.box [.sl v5.Txs.length (v5.Txs.flatMap eGSsiTx), .sl v5.Reads.L.length (v5.Reads.L.flatMap eGReadsRead), .i .i64 b3.2.2.1, .ls 1 b3.2.2.2.1.length, .ls 2 b3.2.2.2.2.1.length, .ls 3 b3.2.2.2.2.2.length], .arr 3 1 0 (b3.2.2.2.1.flatMap eI), .arr 46 8 0 (b3.2.2.2.2.1.flatMap eGR11Tx), .arr 76 4 0 (b3.2.2.2.2.2.flatMap eGR10Read), .box [.sl b8.1.length (b8.1.flatMap eGSsiTx), .sl b8.2.length (b8.2.flatMap eGReadsRead)], .dead]) ⟨⟨rfl, ⟨rfl, ⟨rfl, ⟨rfl, ⟨rfl, ⟨trivial, trivial⟩⟩⟩⟩⟩⟩, ⟨⟨rfl, ⟨rfl, ⟨rfl, ⟨rfl, ⟨rfl, ⟨trivial, trivial⟩⟩⟩⟩⟩⟩, ⟨⟨rfl, ⟨rfl, ⟨rfl, ⟨rfl, ⟨rfl, ⟨trivial, trivial⟩⟩⟩⟩⟩⟩, trivial⟩⟩⟩) rfl rfl (opv_fieldAddr_lp fi36_1 rfl) ?_
            refine ev (sees_all (md := [.box [.sl v5.Txs.length (v5.Txs.flatMap eGSsiTx), .sl v5.Reads.L.length (v5.Reads.L.flatMap eGReadsRead), .i .i64 b3.2.2.1, .ls 1 b3.2.2.2.1.length, .ls 2 b3.2.2.2.2.1.length, .ls 3 b3.2.2.2.2.2.length], .arr 3 1 0 (b3.2.2.2.1.flatMap eI), .arr 46 8 0 (b3.2.2.2.2.1.flatMap eGR11Tx), .arr 76 4 0 (b3.2.2.2.2.2.flatMap eGR10Read), .box [.sl b8.1.length (b8.1.flatMap eGSsiTx), .sl b8.2.length (b8.2.flatMap eGReadsRead)], .dead]) ⟨⟨rfl, ⟨rfl, ⟨rfl, ⟨rfl, ⟨rfl, ⟨trivial, trivial⟩⟩⟩⟩⟩⟩, ⟨⟨rfl, ⟨rfl, ⟨rfl, ⟨rfl, ⟨rfl, ⟨trivial, trivial⟩⟩⟩⟩⟩⟩, ⟨⟨rfl, ⟨rfl, ⟨rfl, ⟨rfl, ⟨rfl, ⟨trivial, trivial⟩⟩⟩⟩⟩⟩, trivial⟩⟩⟩) rfl rfl (opv_load1 ti3 rfl (.lp _ _ _ rfl) rfl) ?_
            refine ev (sees_all (md := [.box [.sl v5.Txs.length (v5.Txs.flatMap eGSsiTx), .sl v5.Reads.L.length (v5.Reads.L.flatMap eGReadsRead), .i .i64 b3.2.2.1, .ls 1 b3.2.2.2.1.length, .ls 2 b3.2.2.2.2.1.length, .ls 3 b3.2.2.2.2.2.length], .arr 3 1 0 (b3.2.2.2.1.flatMap eI), .arr 46 8 0 (b3.2.2.2.2.1.flatMap eGR11Tx), .arr 76 4 0 (b3.2.2.2.2.2.flatMap eGR10Read), .box [.sl b8.1.length (b8.1.flatMap eGSsiTx), .sl b8.2.length (b8.2.flatMap eGReadsRead)], .dead]) ⟨⟨rfl, ⟨rfl, ⟨rfl, ⟨rfl, ⟨rfl, ⟨trivial, trivial⟩⟩⟩⟩⟩⟩, ⟨⟨rfl, ⟨rfl, ⟨rfl, ⟨rfl, ⟨rfl, ⟨trivial, trivial⟩⟩⟩⟩⟩⟩, ⟨⟨rfl, ⟨rfl, ⟨rfl, ⟨rfl, ⟨rfl, ⟨trivial, trivial⟩⟩⟩⟩⟩⟩, trivial⟩⟩⟩) rfl rfl (opv_add rfl rfl) ?_
            refine emv rfl rfl (fun _ => opv_mv rfl) ?_
            refine ed (sees_all (md := [.box [.sl v5.Txs.length (v5.Txs.flatMap eGSsiTx), .sl v5.Reads.L.length (v5.Reads.L.flatMap eGReadsRead), .i .i64 b3.2.2.1, .ls 1 b3.2.2.2.1.length, .ls 2 b3.2.2.2.2.1.length, .ls 3 b3.2.2.2.2.2.length], .arr 3 1 0 (b3.2.2.2.1.flatMap eI), .arr 46 8 0 (b3.2.2.2.2.1.flatMap eGR11Tx), .arr 76 4 0 (b3.2.2.2.2.2.flatMap eGR10Read), .box [.sl b8.1.length (b8.1.flatMap eGSsiTx), .sl b8.2.length (b8.2.flatMap eGReadsRead)], .dead]) ⟨⟨rfl, ⟨rfl, ⟨rfl, ⟨rfl, ⟨rfl, ⟨trivial, trivial⟩⟩⟩⟩⟩⟩, ⟨⟨rfl, ⟨rfl, ⟨rfl, ⟨rfl, ⟨rfl, ⟨trivial, trivial⟩⟩⟩⟩⟩⟩, ⟨⟨rfl, ⟨rfl, ⟨rfl, ⟨rfl, ⟨rfl, ⟨trivial, trivial⟩⟩⟩⟩⟩⟩, trivial⟩⟩⟩) rfl rfl (opD_call fn20 (opnds_cons rfl (opnds_cons rfl (opnds_cons rfl (opnds_cons rfl opnds_nil)))) rfl (m20_ssi_Commit_c hv9)) ?_
            refine emv rfl rfl (fun _ => opv_mvt rfl) ?_
            refine ev (sees_all (md := [.box [.sl v5.Txs.length (v5.Txs.flatMap eGSsiTx), .sl v5.Reads.L.length (v5.Reads.L.flatMap eGReadsRead), .i .i64 b3.2.2.1, .ls 1 b3.2.2.2.1.length, .ls 2 b3.2.2.2.2.1.length, .ls 3 b3.2.2.2.2.2.length], .arr 3 1 0 (b3.2.2.2.1.flatMap eI), .arr 46 8 0 (b3.2.2.2.2.1.flatMap eGR11Tx), .arr 76 4 0 (b3.2.2.2.2.2.flatMap eGR10Read), .box [.sl b8.1.length (b8.1.flatMap eGSsiTx), .sl b8.2.length (b8.2.flatMap eGReadsRead)], .dead]) ⟨⟨rfl, ⟨rfl, ⟨rfl, ⟨rfl, ⟨rfl, ⟨trivial, trivial⟩⟩⟩⟩⟩⟩, ⟨⟨rfl, ⟨rfl, ⟨rfl, ⟨rfl, ⟨rfl, ⟨trivial, trivial⟩⟩⟩⟩⟩⟩, ⟨⟨rfl, ⟨rfl, ⟨rfl, ⟨rfl, ⟨rfl, ⟨trivial, trivial⟩⟩⟩⟩⟩⟩, trivial⟩⟩⟩) rfl rfl (opv_extract rfl rfl) ?_
            refine ev (sees_all (md := [.box [.sl v5.Txs.length (v5.Txs.flatMap eGSsiTx), .sl v5.Reads.L.length (v5.Reads.L.flatMap eGReadsRead), .i .i64 b3.2.2.1, .ls 1 b3.2.2.2.1.length, .ls 2 b3.2.2.2.2.1.length, .ls 3 b3.2.2.2.2.2.length], .arr 3 1 0 (b3.2.2.2.1.flatMap eI), .arr 46 8 0 (b3.2.2.2.2.1.flatMap eGR11Tx), .arr 76 4 0 (b3.2.2.2.2.2.flatMap eGR10Read), .box [.sl b8.1.length (b8.1.flatMap eGSsiTx), .sl b8.2.length (b8.2.flatMap eGReadsRead)], .dead]) ⟨⟨rfl, ⟨rfl, ⟨rfl, ⟨rfl, ⟨rfl, ⟨trivial, trivial⟩⟩⟩⟩⟩⟩, ⟨⟨rfl, ⟨rfl, ⟨rfl, ⟨rfl, ⟨rfl, ⟨trivial, trivial⟩⟩⟩⟩⟩⟩, ⟨⟨rfl, ⟨rfl, ⟨rfl, ⟨rfl, ⟨rfl, ⟨trivial, trivial⟩⟩⟩⟩⟩⟩, trivial⟩⟩⟩) rfl rfl (opv_extract rfl rfl) ?_
            refine ee (x := .s (.one (.lp 5 0))) 0 rfl rfl rfl rfl rfl (fun ζ => ?_) ?_
            · refine salloc_at 5 rfl zi31 rfl ?_
              exact eend
            refine ee0 1 rfl rfl rfl rfl (fun ζ => ?_) ?_
            · refine sstore sz31 rfl rfl rfl rfl (Nat.le_of_ble_eq_true rfl) ?_
              refine smem [.box [.sl v5.Txs.length (v5.Txs.flatMap eGSsiTx), .sl v5.Reads.L.length (v5.Reads.L.flatMap eGReadsRead), .i .i64 b3.2.2.1, .ls 1 b3.2.2.2.1.length, .ls 2 b3.2.2.2.2.1.length, .ls 3 b3.2.2.2.2.2.length], .arr 3 1 0 (b3.2.2.2.1.flatMap eI), .arr 46 8 0 (b3.2.2.2.2.1.flatMap eGR11Tx), .arr 76 4 0 (b3.2.2.2.2.2.flatMap eGR10Read), .box [.sl b8.1.length (b8.1.flatMap eGSsiTx), .sl b8.2.length (b8.2.flatMap eGReadsRead)], .box v9.1] rfl ?_
              exact eend
            refine ev (sees_at 2 rfl rfl) rfl rfl (opv_as rfl) ?_
            refine enil ?_
            refine then_normal ?_
            refine cseq ?_
            refine cregion ?_
            refine sv rfl (opv_mv rfl) ?_
            refine sv rfl (opv_mv rfl) ?_
            refine ssplit 152 rfl (fun hc => ?_) (fun hc => ?_)
            · replace h := ite_t hc h
              clear hc
              refine son rfl rfl rfl ?_
              refine sv rfl (opv_mv rfl) ?_
              refine son rfl rfl rfl ?_
              refine sv rfl (opv_ieql rfl rfl) ?_
              refine sv rfl (opv_pick_t rfl rfl) ?_
              refine sv rfl (opv_mv rfl) ?_
              refine ssplit 156 rfl (fun hc => ?_) (fun hc => ?_)
              · replace h := ite_t hc h
                clear hc
                refine son rfl rfl rfl ?_
                refine sv rfl (opv_mv rfl) ?_
                refine son rfl rfl rfl ?_
                refine sv rfl (opv_ieql rfl rfl) ?_
                refine son rfl rfl rfl ?_
                refine sv rfl (opv_mv rfl) ?_
                refine ssplit 159 rfl (fun hc => ?_) (fun hc => ?_)
                · replace h := ite_t hc h
                  clear hc
                  refine soff rfl rfl rfl rfl ?_
                  refine soff rfl rfl rfl rfl ?_
                  refine son rfl rfl rfl ?_
                  refine sv rfl (opv_pick_t rfl rfl) ?_
                  refine sv rfl (opv_pick_t rfl rfl) ?_
                  refine sv rfl (opv_as rfl) ?_
                  refine snil ?_
                  refine cret ?_
                  obtain rfl := Option.some.inj h
                  refine ⟨Or.inr rfl, _, _, _, (resVs_cons (ResV.tmp _ _ rfl) resVs_nil), (pubA_id rfl), ?_⟩
                  rfl
                · replace h := ite_f hc h
                  clear hc
                  refine son rfl rfl rfl ?_
                  refine sv rfl (opv_mv rfl) ?_
                  refine son rfl rfl rfl ?_
                  refine sv rfl (opv_ieql rfl rfl) ?_
                  refine son rfl rfl rfl ?_
                  refine sv rfl (opv_pick_f rfl rfl) ?_
                  refine sv rfl (opv_pick_t rfl rfl) ?_
                  refine sv rfl (opv_as rfl) ?_
                  refine snil ?_
                  refine cret ?_
                  obtain rfl := Option.some.inj h
                  refine ⟨Or.inr rfl, _, _, _, (resVs_cons (ResV.tmp _ _ rfl) resVs_nil), (pubA_id rfl), ?_⟩
                  rfl
              · replace h := ite_f hc h
                clear hc
                refine soff rfl rfl rfl rfl ?_
                refine soff rfl rfl rfl rfl ?_
                refine soff rfl rfl rfl rfl ?_
                refine soffu rfl rfl rfl ?_
                refine soffu rfl rfl rfl ?_
                refine soff rfl rfl rfl rfl ?_
                refine sv rfl (opv_pick_f rfl rfl) ?_
                refine sv rfl (opv_as rfl) ?_
                refine snil ?_
                refine cret ?_
                obtain rfl := Option.some.inj h
                refine ⟨Or.inr rfl, _, _, _, (resVs_cons (ResV.tmp _ _ rfl) resVs_nil), (pubA_id rfl), ?_⟩
                rfl
            · replace h := ite_f hc h
              clear hc
              refine soff rfl rfl rfl rfl ?_
              refine soff rfl rfl rfl rfl ?_
              refine sv rfl (opv_pick_f rfl rfl) ?_
              refine sv rfl (opv_mv rfl) ?_
              refine soff rfl rfl rfl rfl ?_
              refine soff rfl rfl rfl rfl ?_
              refine soff rfl rfl rfl rfl ?_
              refine soffu rfl rfl rfl ?_
              refine soffu rfl rfl rfl ?_
              refine soff rfl rfl rfl rfl ?_
              refine sv rfl (opv_pick_f rfl rfl) ?_
              refine sv rfl (opv_as rfl) ?_
              refine snil ?_
              refine cret ?_
              obtain rfl := Option.some.inj h
              refine ⟨Or.inr rfl, _, _, _, (resVs_cons (ResV.tmp _ _ rfl) resVs_nil), (pubA_id rfl), ?_⟩
              rfl
          · skip
            refine cblock ?_
            obtain ⟨x10, hx10, ho10⟩ := bind_eq h
            refine awc_loop (G := Nat × (Int × (List GSsiTx) × (List GReadsRead))) (fun g => [(1, .s (.one (.sl a1.length (a1.flatMap eGApiRange)))), (2, .s (.one (.sl a2.length (a2.flatMap (eL eU8))))), (7, .s (.one (.b v1))), (8, .s (.one (.lp 0 0))), (11, .s (.one (.lp 4 0))), (12, .s (.one (.i .i64 v7.2))), (13, .s (.one (.i .i64 g.2.1)))]) (fun g => [.box [.sl v5.Txs.length (v5.Txs.flatMap eGSsiTx), .sl v5.Reads.L.length (v5.Reads.L.flatMap eGReadsRead), .i .i64 b3.2.2.1, .ls 1 b3.2.2.2.1.length, .ls 2 b3.2.2.2.2.1.length, .ls 3 b3.2.2.2.2.2.length], .arr 3 1 0 (b3.2.2.2.1.flatMap eI), .arr 46 8 0 (b3.2.2.2.2.1.flatMap eGR11Tx), .arr 76 4 0 (b3.2.2.2.2.2.flatMap eGR10Read), .box [.sl g.2.2.1.length (g.2.2.1.flatMap eGSsiTx), .sl g.2.2.2.length (g.2.2.2.flatMap eGReadsRead)]]) (fun g => iter (m5_l11_SsiAlone_s10 a1 v1) g.1 g.2 = some x10) (fun g => g.1) (fuel, (0, v7.1.Txs, v7.1.Reads.L)) hx10 ⟨rfl, rfl, rfl, rfl, rfl, rfl, rfl, trivial⟩ [] rfl (fun _ _ => inbL_of rfl) (fun _ _ => blkinb_of rfl) (fun _ _ => Nat.le_of_ble_eq_true rfl) ?_
            clear hx10 h
            rintro ⟨n10, s10⟩ h
            obtain ⟨n10, y10, rfl, h, hk10⟩ := iter_eq h
            unfold m5_l11_SsiAlone_s10 at h
            refine cseq ?_
            refine cseq ?_
            refine cregion ?_
            refine sv rfl (opv_mv rfl) ?_
            refine sv rfl (opv_mv rfl) ?_
            refine sv rfl (opv_len_sl si50 rfl) ?_
            refine sv rfl (opv_lss rfl rfl) ?_
            refine snil ?_
            refine ccond rfl (fun hc => ?_) (fun hc => ?_)
            · replace h := ite_t hc h
              clear hc
              refine cskip ?_
              refine then_normal ?_
              refine cseq ?_
              refine cblock ?_
              refine cseq ?_
              refine cseq ?_
              refine cregion ?_
              refine sv rfl (opv_mv rfl) ?_
              refine sv rfl (opv_mv rfl) ?_
              obtain ⟨u11, hu11, h⟩ := bind_eq h
              refine sv rfl (opv_ix (f := eGApiRange) si50 (fun _ => rfl) rfl rfl rfl rfl hu11) ?_
              refine sv rfl (opv_loadNe (ys := [.sl u11.Lo.length (u11.Lo.flatMap eU8), .sl u11.Hi.length (u11.Hi.flatMap eU8), .b u11.Open]) ti40 rfl (.cp _) rfl rfl) ?_
              obtain ⟨v12, hv12, h⟩ := bind_eq h
              refine scall1 rfl fn18 (opnds_cons rfl opnds_nil) (pubA_id rfl) (m18_r06_Short_c hv12) ?_
              refine sv rfl (opv_not rfl) ?_
              refine snil ?_
              refine ccond rfl (fun hc => ?_) (fun hc => ?_)
              · replace h := ite_t hc h
                clear hc
                refine cseq ?_
                refine cregion ?_
                refine sv rfl (opv_mv rfl) ?_
                refine sv rfl (opv_as rfl) ?_
                refine snil ?_
                refine cret ?_
                refine then_ret ?_
                refine block_ret ?_
                refine then_ret ?_
                refine then_ret ?_
                refine block_ret ?_
                refine then_ret ?_
                obtain rfl := Option.some.inj h
                obtain rfl : Sum.inl _ = x10 := hk10
                replace ho10 : some _ = some _ := ho10
                obtain rfl := Option.some.inj ho10
                refine ⟨Or.inr rfl, _, _, _, (resVs_cons (ResV.tmp _ _ rfl) resVs_nil), (pubA_id rfl), ?_⟩
                rfl
              · replace h := ite_f hc h
                clear hc
                refine cskip ?_
                refine then_normal ?_
                refine cseq ?_
                refine chole ?_
                obtain ⟨u13, hu13, h⟩ := bind_eq h
                obtain ⟨v14, hv14, h⟩ := bind_eq h
                refine cdraw_e [9, 10] [0, 0, 0, 6, 14, 31, 63, 127, 127, 0, 767, 2047] [[.box [.sl v5.Txs.length (v5.Txs.flatMap eGSsiTx), .sl v5.Reads.L.length (v5.Reads.L.flatMap eGReadsRead), .i .i64 b3.2.2.1, .ls 1 b3.2.2.2.1.length, .ls 2 b3.2.2.2.2.1.length, .ls 3 b3.2.2.2.2.2.length], .arr 3 1 0 (b3.2.2.2.1.flatMap eI), .arr 46 8 0 (b3.2.2.2.2.1.flatMap eGR11Tx), .arr 76 4 0 (b3.2.2.2.2.2.flatMap eGR10Read), .box [.sl s10.2.1.length (s10.2.1.flatMap eGSsiTx), .sl s10.2.2.length (s10.2.2.flatMap eGReadsRead)], .hole], [.box [.sl v5.Txs.length (v5.Txs.flatMap eGSsiTx), .sl v5.Reads.L.length (v5.Reads.L.flatMap eGReadsRead), .i .i64 b3.2.2.1, .ls 1 b3.2.2.2.1.length, .ls 2 b3.2.2.2.2.1.length, .ls 3 b3.2.2.2.2.2.length], .arr 3 1 0 (b3.2.2.2.1.flatMap eI), .arr 46 8 0 (b3.2.2.2.2.1.flatMap eGR11Tx), .arr 76 4 0 (b3.2.2.2.2.2.flatMap eGR10Read), .box [.sl s10.2.1.length (s10.2.1.flatMap eGSsiTx), .sl s10.2.2.length (s10.2.2.flatMap eGReadsRead)], .box [.raw (.slice none 0 0), .raw (.slice none 0 0)]], [.box [.sl v5.Txs.length (v5.Txs.flatMap eGSsiTx), .sl v5.Reads.L.length (v5.Reads.L.flatMap eGReadsRead), .i .i64 b3.2.2.1, .ls 1 b3.2.2.2.1.length, .ls 2 b3.2.2.2.2.1.length, .ls 3 b3.2.2.2.2.2.length], .arr 3 1 0 (b3.2.2.2.1.flatMap eI), .arr 46 8 0 (b3.2.2.2.2.1.flatMap eGR11Tx), .arr 76 4 0 (b3.2.2.2.2.2.flatMap eGR10Read), .box [.sl s10.2.1.length (s10.2.1.flatMap eGSsiTx), .sl s10.2.2.length (s10.2.2.flatMap eGReadsRead)], .box v14.1]] (by kernel_rfl) mixed (by kernel_rfl) (by decide) rfl rfl rfl rfl ?_
                refine ev (sees_all (md := [.box [.sl v5.Txs.length (v5.Txs.flatMap eGSsiTx), .sl v5.Reads.L.length (v5.Reads.L.flatMap eGReadsRead), .i .i64 b3.2.2.1, .ls 1 b3.2.2.2.1.length, .ls 2 b3.2.2.2.2.1.length, .ls 3 b3.2.2.2.2.2.length], .arr 3 1 0 (b3.2.2.2.1.flatMap eI), .arr 46 8 0 (b3.2.2.2.2.1.flatMap eGR11Tx), .arr 76 4 0 (b3.2.2.2.2.2.flatMap eGR10Read), .box [.sl s10.2.1.length (s10.2.1.flatMap eGSsiTx), .sl s10.2.2.length (s10.2.2.flatMap eGReadsRead)], .dead]) ⟨⟨rfl, ⟨rfl, ⟨rfl, ⟨rfl, ⟨rfl, ⟨trivial, trivial⟩⟩⟩⟩⟩⟩, ⟨⟨rfl, ⟨rfl, ⟨rfl, ⟨rfl, ⟨rfl, ⟨trivial, trivial⟩⟩⟩⟩⟩⟩, ⟨⟨rfl, ⟨rfl, ⟨rfl, ⟨rfl, ⟨rfl, ⟨trivial, trivial⟩⟩⟩⟩⟩⟩, trivial⟩⟩⟩) rfl rfl (opv_loadN ti31 rfl (.lp _ _ _ rfl) (Nat.le_of_ble_eq_true rfl)) ?_
                refine emv rfl rfl (fun _ => opv_mv rfl) ?_
                refine emv rfl rfl (fun _ => opv_mv rfl) ?_
                refine ev (sees_all (md := [.box [.sl v5.Txs.length (v5.Txs.flatMap eGSsiTx), .sl v5.Reads.L.length (v5.Reads.L.flatMap eGReadsRead), .i .i64 b3.2.2.1, .ls 1 b3.2.2.2.1.length, .ls 2 b3.2.2.2.2.1.length, .ls 3 b3.2.2.2.2.2.length], .arr 3 1 0 (b3.2.2.2.1.flatMap eI), .arr 46 8 0 (b3.2.2.2.2.1.flatMap eGR11Tx), .arr 76 4 0 (b3.2.2.2.2.2.flatMap eGR10Read), .box [.sl s10.2.1.length (s10.2.1.flatMap eGSsiTx), .sl s10.2.2.length (s10.2.2.flatMap eGReadsRead)], .dead]) ⟨⟨rfl, ⟨rfl, ⟨rfl, ⟨rfl, ⟨rfl, ⟨trivial, trivial⟩⟩⟩⟩⟩⟩, ⟨⟨rfl, ⟨rfl, ⟨rfl, ⟨rfl, ⟨rfl, ⟨trivial, trivial⟩⟩⟩⟩⟩⟩, ⟨⟨rfl, ⟨rfl, ⟨rfl, ⟨rfl, ⟨rfl, ⟨trivial, trivial⟩⟩⟩⟩⟩⟩, trivial⟩⟩⟩) rfl rfl (opv_ix (f := eGApiRange) si50 (fun _ => rfl) rfl rfl rfl rfl hu13) ?_
                refine ev (sees_all (md := [.box [.sl v5.Txs.length (v5.Txs.flatMap eGSsiTx), .sl v5.Reads.L.length (v5.Reads.L.flatMap eGReadsRead), .i .i64 b3.2.2.1, .ls 1 b3.2.2.2.1.length, .ls 2 b3.2.2.2.2.1.length, .ls 3 b3.2.2.2.2.2.length], .arr 3 1 0 (b3.2.2.2.1.flatMap eI), .arr 46 8 0 (b3.2.2.2.2.1.flatMap eGR11Tx), .arr 76 4 0 (b3.2.2.2.2.2.flatMap eGR10Read), .box [.sl s10.2.1.length (s10.2.1.flatMap eGSsiTx), .sl s10.2.2.length (s10.2.2.flatMap eGReadsRead)], .dead]) ⟨⟨rfl, ⟨rfl, ⟨rfl, ⟨rfl, ⟨rfl, ⟨trivial, trivial⟩⟩⟩⟩⟩⟩, ⟨⟨rfl, ⟨rfl, ⟨rfl, ⟨rfl, ⟨rfl, ⟨trivial, trivial⟩⟩⟩⟩⟩⟩, ⟨⟨rfl, ⟨rfl, ⟨rfl, ⟨rfl, ⟨rfl, ⟨trivial, trivial⟩⟩⟩⟩⟩⟩, trivial⟩⟩⟩) rfl rfl (opv_loadNe (ys := [.sl u13.Lo.length (u13.Lo.flatMap eU8), .sl u13.Hi.length (u13.Hi.flatMap eU8), .b u13.Open]) ti40 rfl (.cp _) rfl rfl) ?_
                refine ed (sees_all (md := [.box [.sl v5.Txs.length (v5.Txs.flatMap eGSsiTx), .sl v5.Reads.L.length (v5.Reads.L.flatMap eGReadsRead), .i .i64 b3.2.2.1, .ls 1 b3.2.2.2.1.length, .ls 2 b3.2.2.2.2.1.length, .ls 3 b3.2.2.2.2.2.length], .arr 3 1 0 (b3.2.2.2.1.flatMap eI), .arr 46 8 0 (b3.2.2.2.2.1.flatMap eGR11Tx), .arr 76 4 0 (b3.2.2.2.2.2.flatMap eGR10Read), .box [.sl s10.2.1.length (s10.2.1.flatMap eGSsiTx), .sl s10.2.2.length (s10.2.2.flatMap eGReadsRead)], .dead]) ⟨⟨rfl, ⟨rfl, ⟨rfl, ⟨rfl, ⟨rfl, ⟨trivial, trivial⟩⟩⟩⟩⟩⟩, ⟨⟨rfl, ⟨rfl, ⟨rfl, ⟨rfl, ⟨rfl, ⟨trivial, trivial⟩⟩⟩⟩⟩⟩, ⟨⟨rfl, ⟨rfl, ⟨rfl, ⟨rfl, ⟨rfl, ⟨trivial, trivial⟩⟩⟩⟩⟩⟩, trivial⟩⟩⟩) rfl rfl (opD_call fn19 (opnds_cons rfl (opnds_cons rfl (opnds_cons rfl opnds_nil))) rfl (m19_ssi_Read_c hv14)) ?_
                refine emv rfl rfl (fun _ => opv_mvt rfl) ?_
                refine ev (sees_all (md := [.box [.sl v5.Txs.length (v5.Txs.flatMap eGSsiTx), .sl v5.Reads.L.length (v5.Reads.L.flatMap eGReadsRead), .i .i64 b3.2.2.1, .ls 1 b3.2.2.2.1.length, .ls 2 b3.2.2.2.2.1.length, .ls 3 b3.2.2.2.2.2.length], .arr 3 1 0 (b3.2.2.2.1.flatMap eI), .arr 46 8 0 (b3.2.2.2.2.1.flatMap eGR11Tx), .arr 76 4 0 (b3.2.2.2.2.2.flatMap eGR10Read), .box [.sl s10.2.1.length (s10.2.1.flatMap eGSsiTx), .sl s10.2.2.length (s10.2.2.flatMap eGReadsRead)], .dead]) ⟨⟨rfl, ⟨rfl, ⟨rfl, ⟨rfl, ⟨rfl, ⟨trivial, trivial⟩⟩⟩⟩⟩⟩, ⟨⟨rfl, ⟨rfl, ⟨rfl, ⟨rfl, ⟨rfl, ⟨trivial, trivial⟩⟩⟩⟩⟩⟩, ⟨⟨rfl, ⟨rfl, ⟨rfl, ⟨rfl, ⟨rfl, ⟨trivial, trivial⟩⟩⟩⟩⟩⟩, trivial⟩⟩⟩) rfl rfl (opv_extract rfl rfl) ?_
                refine ev (sees_all (md := [.box [.sl v5.Txs.length (v5.Txs.flatMap eGSsiTx), .sl v5.Reads.L.length (v5.Reads.L.flatMap eGReadsRead), .i .i64 b3.2.2.1, .ls 1 b3.2.2.2.1.length, .ls 2 b3.2.2.2.2.1.length, .ls 3 b3.2.2.2.2.2.length], .arr 3 1 0 (b3.2.2.2.1.flatMap eI), .arr 46 8 0 (b3.2.2.2.2.1.flatMap eGR11Tx), .arr 76 4 0 (b3.2.2.2.2.2.flatMap eGR10Read), .box [.sl s10.2.1.length (s10.2.1.flatMap eGSsiTx), .sl s10.2.2.length (s10.2.2.flatMap eGReadsRead)], .dead]) ⟨⟨rfl, ⟨rfl, ⟨rfl, ⟨rfl, ⟨rfl, ⟨trivial, trivial⟩⟩⟩⟩⟩⟩, ⟨⟨rfl, ⟨rfl, ⟨rfl, ⟨rfl, ⟨rfl, ⟨trivial, trivial⟩⟩⟩⟩⟩⟩, ⟨⟨rfl, ⟨rfl, ⟨rfl, ⟨rfl, ⟨rfl, ⟨trivial, trivial⟩⟩⟩⟩⟩⟩, trivial⟩⟩⟩) rfl rfl (opv_extract rfl rfl) ?_
                refine ee (x := .s (.one (.lp 5 0))) 0 rfl rfl rfl rfl rfl (fun ζ => ?_) ?_
                · refine salloc_at 5 rfl zi31 rfl ?_
                  exact eend
                refine ee0 1 rfl rfl rfl rfl (fun ζ => ?_) ?_
                · refine sstore sz31 rfl rfl rfl rfl (Nat.le_of_ble_eq_true rfl) ?_
                  refine smem [.box [.sl v5.Txs.length (v5.Txs.flatMap eGSsiTx), .sl v5.Reads.L.length (v5.Reads.L.flatMap eGReadsRead), .i .i64 b3.2.2.1, .ls 1 b3.2.2.2.1.length, .ls 2 b3.2.2.2.2.1.length, .ls 3 b3.2.2.2.2.2.length], .arr 3 1 0 (b3.2.2.2.1.flatMap eI), .arr 46 8 0 (b3.2.2.2.2.1.flatMap eGR11Tx), .arr 76 4 0 (b3.2.2.2.2.2.flatMap eGR10Read), .box [.sl s10.2.1.length (s10.2.1.flatMap eGSsiTx), .sl s10.2.2.length (s10.2.2.flatMap eGReadsRead)], .box v14.1] rfl ?_
                  exact eend
                refine ev (sees_at 2 rfl rfl) rfl rfl (opv_as rfl) ?_
                refine enil ?_
                refine then_normal ?_
                refine cseq ?_
                refine cseq ?_
                refine cjoin3 (Unit) (fun b15 => [(1, .s (.one (.sl a1.length (a1.flatMap eGApiRange)))), (2, .s (.one (.sl a2.length (a2.flatMap (eL eU8))))), (7, .s (.one (.b v1))), (8, .s (.one (.lp 0 0))), (11, .s (.one (.lp 4 0))), (12, .s (.one (.i .i64 v7.2))), (13, .s (.one (.i .i64 s10.1))), (14, .s (.one (.lp 5 0))), (15, .s (.one (.i .i64 v14.2)))]) (fun b15 => [.box [.sl v5.Txs.length (v5.Txs.flatMap eGSsiTx), .sl v5.Reads.L.length (v5.Reads.L.flatMap eGReadsRead), .i .i64 b3.2.2.1, .ls 1 b3.2.2.2.1.length, .ls 2 b3.2.2.2.2.1.length, .ls 3 b3.2.2.2.2.2.length], .arr 3 1 0 (b3.2.2.2.1.flatMap eI), .arr 46 8 0 (b3.2.2.2.2.1.flatMap eGR11Tx), .arr 76 4 0 (b3.2.2.2.2.2.flatMap eGR10Read), .box [.sl s10.2.1.length (s10.2.1.flatMap eGSsiTx), .sl s10.2.2.length (s10.2.2.flatMap eGReadsRead)], .box v14.1]) (fun b15 => m5_l11_SsiAlone_k15 s10 v14 b15 = some y10) (fun _ _ => inbL_of rfl) (fun _ _ => blkinb_of rfl) (fun _ _ => Nat.le_of_ble_eq_true rfl) (fun b15 h => ?_) ?_
                · unfold m5_l11_SsiAlone_k15 at h
                  refine cseq ?_
                  refine cregion ?_
                  refine sv rfl (opv_mv rfl) ?_
                  refine sv rfl (opv_ieql rfl rfl) ?_
                  refine snil ?_
                  refine ccond rfl (fun hc => ?_) (fun hc => ?_)
                  · replace h := ite_t hc h
                    clear hc
                    refine cregion ?_
                    refine sv rfl (opv_loadN ti31 rfl (.lp _ _ _ rfl) (Nat.le_of_ble_eq_true rfl)) ?_
                    refine sstore sz31 rfl rfl rfl rfl (Nat.le_of_ble_eq_true rfl) ?_
                    refine smem [.box [.sl v5.Txs.length (v5.Txs.flatMap eGSsiTx), .sl v5.Reads.L.length (v5.Reads.L.flatMap eGReadsRead), .i .i64 b3.2.2.1, .ls 1 b3.2.2.2.1.length, .ls 2 b3.2.2.2.2.1.length, .ls 3 b3.2.2.2.2.2.length], .arr 3 1 0 (b3.2.2.2.1.flatMap eI), .arr 46 8 0 (b3.2.2.2.2.1.flatMap eGR11Tx), .arr 76 4 0 (b3.2.2.2.2.2.flatMap eGR10Read), .box v14.1, .box v14.1] rfl ?_
                    refine snil0 ?_
                    refine block_normal ?_
                    refine then_normal ?_
                    refine cregion ?_
                    refine sv rfl (opv_mv rfl) ?_
                    refine sv rfl (opv_add rfl rfl) ?_
                    refine sv rfl (opv_as rfl) ?_
                    refine snil ?_
                    obtain rfl := Option.some.inj h
                    exact ⟨(n10, ((wI (s10.1 + 1)), v14.1.Txs, v14.1.Reads.L)), _, hk10, ⟨rfl, rfl, rfl, rfl, rfl, rfl, rfl, trivial⟩, rfl, Nat.lt_succ_self _⟩
                  · replace h := ite_f hc h
                    clear hc
                    refine cskip ?_
                    refine block_normal ?_
                    refine then_normal ?_
                    refine cregion ?_
                    refine sv rfl (opv_mv rfl) ?_
                    refine sv rfl (opv_add rfl rfl) ?_
                    refine sv rfl (opv_as rfl) ?_
                    refine snil ?_
                    obtain rfl := Option.some.inj h
                    exact ⟨(n10, ((wI (s10.1 + 1)), s10.2.1, s10.2.2)), _, hk10, ⟨rfl, rfl, rfl, rfl, rfl, rfl, rfl, trivial⟩, rfl, Nat.lt_succ_self _⟩
                · skip
                  refine cregion ?_
                  refine sv rfl (opv_mv rfl) ?_
                  refine sv rfl (opv_ineq rfl rfl) ?_
                  refine sv rfl (opv_mv rfl) ?_
                  refine ssplit 133 rfl (fun hc => ?_) (fun hc => ?_)
                  · replace h := ite_t hc h
                    clear hc
                    refine son rfl rfl rfl ?_
                    refine sv rfl (opv_mv rfl) ?_
                    refine son rfl rfl rfl ?_
                    refine sv rfl (opv_ineq rfl rfl) ?_
                    refine sv rfl (opv_pick_t rfl rfl) ?_
                    refine snil ?_
                    refine ccond rfl (fun hc => ?_) (fun hc => ?_)
                    · replace h := ite_t hc h
                      clear hc
                      refine cseq ?_
                      refine cregion ?_
                      refine sv rfl (opv_as rfl) ?_
                      refine snil ?_
                      refine cret ?_
                      refine then_ret ?_
                      refine block_ret ?_
                      refine then_ret ?_
                      refine then_ret ?_
                      refine block_ret ?_
                      refine then_ret ?_
                      obtain rfl := Option.some.inj h
                      obtain rfl : Sum.inl _ = x10 := hk10
                      replace ho10 : some _ = some _ := ho10
                      obtain rfl := Option.some.inj ho10
                      refine ⟨Or.inr rfl, _, _, _, (resVs_cons (ResV.tmp _ _ rfl) resVs_nil), (pubA_id rfl), ?_⟩
                      rfl
                    · replace h := ite_f hc h
                      clear hc
                      refine cskip ?_
                      refine then_normal ?_
                      exact ⟨(), _, h, ⟨rfl, rfl, rfl, rfl, rfl, rfl, rfl, rfl, rfl, trivial⟩, rfl⟩
                  · replace h := ite_f hc h
                    clear hc
                    refine soff rfl rfl rfl rfl ?_
                    refine soff rfl rfl rfl rfl ?_
                    refine sv rfl (opv_pick_f rfl rfl) ?_
                    refine snil ?_
                    refine ccond rfl (fun hx => Bool.noConfusion hx) (fun _ => ?_)
                    refine cskip ?_
                    refine then_normal ?_
                    exact ⟨(), _, h, ⟨rfl, rfl, rfl, rfl, rfl, rfl, rfl, rfl, rfl, trivial⟩, rfl⟩
            · replace h := ite_f hc h
              clear hc
              refine cexit ?_
              refine then_exit ?_
              refine then_exit ?_
              refine block_hit ?_
              refine then_normal ?_
              obtain rfl := Option.some.inj h
              obtain rfl : _ = x10 := hk10
              exact ⟨(s10.2.1, s10.2.2), _, ho10, ⟨rfl, rfl, rfl, rfl, rfl, trivial⟩, rfl⟩
        · skip
          refine cregion ?_
          refine sv rfl (opv_mv rfl) ?_
          refine sv rfl (opv_nilCheck rfl rfl (fun _ _ _ h => by cases h)) ?_
          refine sv rfl (opv_fieldAddr_lp fi36_0 rfl) ?_
          refine sv rfl (opv_fieldAddr_lp fi31_0 rfl) ?_
          refine sv rfl (opv_load1 ti26 rfl (.lp _ _ _ rfl) rfl) ?_
          refine sv rfl (opv_len_sl si26 rfl) ?_
          refine sv rfl (opv_ineq rfl rfl) ?_
          refine sv rfl (opv_mv rfl) ?_
          refine ssplit 87 rfl (fun hc => ?_) (fun hc => ?_)
          · replace h := ite_t hc h
            clear hc
            refine soff rfl rfl rfl rfl ?_
            refine soff rfl rfl rfl rfl ?_
            refine soff rfl rfl rfl rfl ?_
            refine soff rfl rfl rfl rfl ?_
            refine soff rfl rfl rfl rfl ?_
            refine soff rfl rfl rfl rfl ?_
            refine soff rfl rfl rfl rfl ?_
            refine soff rfl rfl rfl rfl ?_
            refine sv rfl (opv_pick_t rfl rfl) ?_
            refine snil ?_
            refine ccond rfl (fun _ => ?_) (fun hx => Bool.noConfusion hx)
            refine cseq ?_
            refine cregion ?_
            refine sv rfl (opv_as rfl) ?_
            refine snil ?_
            refine cret ?_
            refine then_ret ?_
            obtain rfl := Option.some.inj h
            refine ⟨Or.inr rfl, _, _, _, (resVs_cons (ResV.tmp _ _ rfl) resVs_nil), (pubA_id rfl), ?_⟩
            rfl
          · replace h := ite_f hc h
            clear hc
            refine son rfl rfl rfl ?_
            refine sv rfl (opv_mv rfl) ?_
            refine son rfl rfl rfl ?_
            refine sv rfl (opv_nilCheck rfl rfl (fun _ _ _ h => by cases h)) ?_
            refine son rfl rfl rfl ?_
            refine sv rfl (opv_fieldAddr_lp fi36_0 rfl) ?_
            refine son rfl rfl rfl ?_
            refine sv rfl (opv_fieldAddr_lp fi31_1 rfl) ?_
            refine son rfl rfl rfl ?_
            refine sv rfl (opv_fieldAddr_lp fi29_0 rfl) ?_
            refine son rfl rfl rfl ?_
            refine sv rfl (opv_load1 ti27 rfl (.lp _ _ _ rfl) rfl) ?_
            refine son rfl rfl rfl ?_
            refine sv rfl (opv_len_sl si27 rfl) ?_
            refine son rfl rfl rfl ?_
            refine sv rfl (opv_ineq rfl rfl) ?_
            refine sv rfl (opv_pick_f rfl rfl) ?_
            refine snil ?_
            refine ccond rfl (fun hc => ?_) (fun hc => ?_)
            · replace h := ite_t hc h
              clear hc
              refine cseq ?_
              refine cregion ?_
              refine sv rfl (opv_as rfl) ?_
              refine snil ?_
              refine cret ?_
              refine then_ret ?_
              obtain rfl := Option.some.inj h
              refine ⟨Or.inr rfl, _, _, _, (resVs_cons (ResV.tmp _ _ rfl) resVs_nil), (pubA_id rfl), ?_⟩
              rfl
            · replace h := ite_f hc h
              clear hc
              refine cskip ?_
              refine then_normal ?_
              exact ⟨(), _, h, ⟨rfl, rfl, rfl, rfl, trivial⟩, rfl⟩
      · skip
        refine cblock ?_
        obtain ⟨x17, hx17, ho17⟩ := bind_eq h
        refine awc_loop (G := Nat × (Int × (List GSsiTx) × (List GReadsRead))) (fun g => [(1, .s (.one (.sl a1.length (a1.flatMap eGApiRange)))), (2, .s (.one (.sl a2.length (a2.flatMap (eL eU8))))), (7, .s (.one (.b v1))), (8, .s (.one (.lp 0 0))), (10, .s (.one (.i .i64 g.2.1)))]) (fun g => [.box [.sl g.2.2.1.length (g.2.2.1.flatMap eGSsiTx), .sl g.2.2.2.length (g.2.2.2.flatMap eGReadsRead), .i .i64 b3.2.2.1, .ls 1 b3.2.2.2.1.length, .ls 2 b3.2.2.2.2.1.length, .ls 3 b3.2.2.2.2.2.length], .arr 3 1 0 (b3.2.2.2.1.flatMap eI), .arr 46 8 0 (b3.2.2.2.2.1.flatMap eGR11Tx), .arr 76 4 0 (b3.2.2.2.2.2.flatMap eGR10Read)]) (fun g => iterB (m5_l11_SsiAlone_s17 b3) g.1 g.2 = some x17) (fun g => g.1) (fuel, (0, b3.1, b3.2.1)) hx17 ⟨rfl, rfl, rfl, rfl, rfl, trivial⟩ [] rfl (fun _ _ => inbL_of rfl) (fun _ _ => blkinb_of rfl) (fun _ _ => Nat.le_of_ble_eq_true rfl) ?_
        clear hx17 h
        rintro ⟨n17, s17⟩ h
        obtain ⟨n17, y17, rfl, h, hk17⟩ := iterB_eq h
        unfold m5_l11_SsiAlone_s17 at h
        refine cseq ?_
        refine cseq ?_
        refine cregion ?_
        refine sv rfl (opv_mv rfl) ?_
        refine sv rfl (opv_mv rfl) ?_
        refine sv rfl (opv_nilCheck rfl rfl (fun _ _ _ h => by cases h)) ?_
        refine sv rfl (opv_fieldAddr_lp fi36_2 rfl) ?_
        refine sv rfl (opv_load1 ti32 rfl (.lp _ _ _ rfl) rfl) ?_
        refine sv rfl (opv_len_ls si32 rfl rfl (flat_len (f := eI) (fun _ => rfl) _).symm) ?_
        refine sv rfl (opv_lss rfl rfl) ?_
        refine snil ?_
        refine ccond rfl (fun hc => ?_) (fun hc => ?_)
        · replace h := ite_t hc h
          clear hc
          refine cskip ?_
          refine then_normal ?_
          refine cseq ?_
          refine cblock ?_
          refine cregion ?_
          refine sv rfl (opv_mv rfl) ?_
          refine sv rfl (opv_mv rfl) ?_
          refine sv rfl (opv_nilCheck rfl rfl (fun _ _ _ h => by cases h)) ?_
          refine sv rfl (opv_fieldAddr_lp fi36_0 rfl) ?_
          refine sv rfl (opv_loadN ti31 rfl (.lp _ _ _ rfl) (Nat.le_of_ble_eq_true rfl)) ?_
          refine sv rfl (opv_mv rfl) ?_
          obtain ⟨v18, hv18, h⟩ := bind_eq h
          refine scall1 rfl fn15 (opnds_cons rfl (opnds_cons rfl opnds_nil)) (pubA_id rfl) (m15_ssi_Abort_c hv18) ?_
          refine sv rfl (opv_nilCheck rfl rfl (fun _ _ _ h => by cases h)) ?_
          refine sv rfl (opv_fieldAddr_lp fi36_0 rfl) ?_
          refine sstore sz31 rfl rfl rfl rfl (Nat.le_of_ble_eq_true rfl) ?_
          refine smem [.box [.sl v18.Txs.length (v18.Txs.flatMap eGSsiTx), .sl v18.Reads.L.length (v18.Reads.L.flatMap eGReadsRead), .i .i64 b3.2.2.1, .ls 1 b3.2.2.2.1.length, .ls 2 b3.2.2.2.2.1.length, .ls 3 b3.2.2.2.2.2.length], .arr 3 1 0 (b3.2.2.2.1.flatMap eI), .arr 46 8 0 (b3.2.2.2.2.1.flatMap eGR11Tx), .arr 76 4 0 (b3.2.2.2.2.2.flatMap eGR10Read)] rfl ?_
          refine snil0 ?_
          refine block_normal ?_
          refine then_normal ?_
          refine cregion ?_
          refine sv rfl (opv_mv rfl) ?_
          refine sv rfl (opv_add rfl rfl) ?_
          refine sv rfl (opv_as rfl) ?_
          refine snil ?_
          obtain rfl := Option.some.inj h
          exact ⟨(n17, ((wI (s17.1 + 1)), v18.Txs, v18.Reads.L)), _, hk17, ⟨rfl, rfl, rfl, rfl, rfl, trivial⟩, rfl, Nat.lt_succ_self _⟩
        · replace h := ite_f hc h
          clear hc
          refine cexit ?_
          refine then_exit ?_
          refine then_exit ?_
          refine block_hit ?_
          refine then_normal ?_
          obtain rfl := Option.some.inj h
          obtain rfl : _ = x17 := hk17
          exact ⟨(s17.2.1, s17.2.2), _, ho17, ⟨rfl, rfl, rfl, rfl, trivial⟩, rfl⟩
    · skip
      refine cblock ?_
      refine cpubbox 0 0 rfl rfl PubL.nil rfl ?_
      refine cpubbox 0 1 rfl rfl PubL.nil rfl ?_
      obtain ⟨x20, hx20, ho20⟩ := bind_eq h
      refine awc_loop (G := Nat × (Int × (List GSsiTx) × (List GReadsRead) × Int × (List Int) × (List GR11Tx) × (List GR10Read))) (fun g => [(0, .s (.one (.sl a0.length (a0.flatMap eGL11Act)))), (1, .s (.one (.sl a1.length (a1.flatMap eGApiRange)))), (2, .s (.one (.sl a2.length (a2.flatMap (eL eU8))))), (7, .s (.one (.b v1))), (8, .s (.one (.lp 0 0))), (9, .s (.one (.i .i64 g.2.1)))]) (fun g => [.box [.sl g.2.2.1.length (g.2.2.1.flatMap eGSsiTx), .sl g.2.2.2.1.length (g.2.2.2.1.flatMap eGReadsRead), .i .i64 g.2.2.2.2.1, .ls 1 g.2.2.2.2.2.1.length, .ls 2 g.2.2.2.2.2.2.1.length, .ls 3 g.2.2.2.2.2.2.2.length], .arr 3 1 0 (g.2.2.2.2.2.1.flatMap eI), .arr 46 8 0 (g.2.2.2.2.2.2.1.flatMap eGR11Tx), .arr 76 4 0 (g.2.2.2.2.2.2.2.flatMap eGR10Read)]) (fun g => iterB (m5_l11_SsiAlone_s20 a0) g.1 g.2 = some x20) (fun g => g.1) (fuel, (0, ([] : List GSsiTx), ([] : List GReadsRead), 0, ([] : List Int), ([] : List GR11Tx), ([] : List GR10Read))) hx20 ⟨rfl, rfl, rfl, rfl, rfl, rfl, trivial⟩ [] rfl (fun _ _ => inbL_of rfl) (fun _ _ => blkinb_of rfl) (fun _ _ => Nat.le_of_ble_eq_true rfl) ?_
      clear hx20 h
      rintro ⟨n20, s20⟩ h
      obtain ⟨n20, y20, rfl, h, hk20⟩ := iterB_eq h
      unfold m5_l11_SsiAlone_s20 at h
      refine cseq ?_
      refine cseq ?_
      refine cregion ?_
      refine sv rfl (opv_mv rfl) ?_
      refine sv rfl (opv_mv rfl) ?_
      refine sv rfl (opv_len_sl si22 rfl) ?_
      refine sv rfl (opv_lss rfl rfl) ?_
      refine snil ?_
      refine ccond rfl (fun hc => ?_) (fun hc => ?_)
      · replace h := ite_t hc h
        clear hc
        refine cskip ?_
        refine then_normal ?_
        refine cseq ?_
        refine cblock ?_
        refine cregion ?_
        refine sv rfl (opv_mv rfl) ?_
        refine sv rfl (opv_mv rfl) ?_
        refine sv rfl (opv_mv rfl) ?_
        obtain ⟨u21, hu21, h⟩ := bind_eq h
        refine sv rfl (opv_ix (f := eGL11Act) si22 (fun _ => rfl) rfl rfl rfl rfl hu21) ?_
        refine sv rfl (opv_loadNe (ys := [.i .i64 u21.What, .i .i64 u21.N, .b u21.RO, .sl u21.Rng.Lo.length (u21.Rng.Lo.flatMap eU8), .sl u21.Rng.Hi.length (u21.Rng.Hi.flatMap eU8), .b u21.Rng.Open, .sl u21.Keys.length (u21.Keys.flatMap (eL eU8))]) ti43 rfl (.cp _) rfl rfl) ?_
        obtain ⟨v22, hv22, h⟩ := bind_eq h
        refine scallB (x' := .tup []) (M' := [.box [.sl v22.1.length (v22.1.flatMap eGSsiTx), .sl v22.2.1.length (v22.2.1.flatMap eGReadsRead), .i .i64 v22.2.2.1, .ls 1 v22.2.2.2.1.length, .ls 2 v22.2.2.2.2.1.length, .ls 3 v22.2.2.2.2.2.length], .arr 3 1 0 (v22.2.2.2.1.flatMap eI), .arr 46 8 0 (v22.2.2.2.2.1.flatMap eGR11Tx), .arr 76 4 0 (v22.2.2.2.2.2.flatMap eGR10Read)]) [0, 1, 2, 3] rfl fn11 (.func _) (opnds_cons rfl (opnds_cons rfl opnds_nil)) (m11_l11_world_dos_c hv22) rfl rfl (by decide) rfl rfl rfl ?_
        refine snil0 ?_
        refine block_normal ?_
        refine then_normal ?_
        refine cregion ?_
        refine sv rfl (opv_mv rfl) ?_
        refine sv rfl (opv_add rfl rfl) ?_
        refine sv rfl (opv_as rfl) ?_
        refine snil ?_
        obtain rfl := Option.some.inj h
        exact ⟨(n20, ((wI (s20.1 + 1)), v22.1, v22.2.1, v22.2.2.1, v22.2.2.2.1, v22.2.2.2.2.1, v22.2.2.2.2.2)), _, hk20, ⟨rfl, rfl, rfl, rfl, rfl, rfl, trivial⟩, rfl, Nat.lt_succ_self _⟩
      · replace h := ite_f hc h
        clear hc
        refine cexit ?_
        refine then_exit ?_
        refine then_exit ?_
        refine block_hit ?_
        refine then_normal ?_
        obtain rfl := Option.some.inj h
        obtain rfl : _ = x20 := hk20
        exact ⟨(s20.2.1, s20.2.2.1, s20.2.2.2.1, s20.2.2.2.2.1, s20.2.2.2.2.2.1, s20.2.2.2.2.2.2), _, ho20, ⟨rfl, rfl, rfl, rfl, trivial⟩, rfl⟩
  · skip
    refine cregion ?_
    refine sv rfl (opv_mv rfl) ?_
    obtain ⟨v24, hv24, h⟩ := bind_eq h
    refine scall1 rfl fn10 (opnds_cons rfl opnds_nil) (pubA_id rfl) (m10_l11_small_c hv24) ?_
    refine sv rfl (opv_not rfl) ?_
    refine sv rfl (opv_mv rfl) ?_
    refine ssplit 22 rfl (fun hc => ?_) (fun hc => ?_)
    · replace h := ite_t hc h
      clear hc
      refine soff rfl rfl rfl rfl ?_
      refine soff rfl rfl rfl rfl ?_
      refine soff rfl rfl rfl rfl ?_
      refine sv rfl (opv_pick_t rfl rfl) ?_
      refine sv rfl (opv_mv rfl) ?_
      refine soff rfl rfl rfl rfl ?_
      refine soff rfl rfl rfl rfl ?_
      refine soff rfl rfl rfl rfl ?_
      refine soff rfl rfl rfl rfl ?_
      refine soff rfl rfl rfl rfl ?_
      refine sv rfl (opv_pick_t rfl rfl) ?_
      refine sv rfl (opv_mv rfl) ?_
      refine soff rfl rfl rfl rfl ?_
      refine soff rfl rfl rfl rfl ?_
      refine soff rfl rfl rfl rfl ?_
      refine sv rfl (opv_pick_t rfl rfl) ?_
      refine snil ?_
      refine ccond rfl (fun _ => ?_) (fun hx => Bool.noConfusion hx)
      refine cseq ?_
      refine cregion ?_
      refine sv rfl (opv_mv rfl) ?_
      refine sv rfl (opv_as rfl) ?_
      refine snil ?_
      refine cret ?_
      refine then_ret ?_
      obtain rfl := Option.some.inj h
      refine ⟨Or.inr rfl, _, _, _, (resVs_cons (ResV.tmp _ _ rfl) resVs_nil), (pubA_id rfl), ?_⟩
      rfl
    · replace h := ite_f hc h
      clear hc
      refine son rfl rfl rfl ?_
      refine sv rfl (opv_mv rfl) ?_
      refine son rfl rfl rfl ?_
      refine sv rfl (opv_len_sl si50 rfl) ?_
      refine son rfl rfl rfl ?_
      refine sv rfl (opv_gtr rfl rfl) ?_
      refine sv rfl (opv_pick_f rfl rfl) ?_
      refine sv rfl (opv_mv rfl) ?_
      refine ssplit 27 rfl (fun hc => ?_) (fun hc => ?_)
      · replace h := ite_t hc h
        clear hc
        refine soff rfl rfl rfl rfl ?_
        refine soff rfl rfl rfl rfl ?_
        refine soff rfl rfl rfl rfl ?_
        refine soff rfl rfl rfl rfl ?_
        refine soff rfl rfl rfl rfl ?_
        refine sv rfl (opv_pick_t rfl rfl) ?_
        refine sv rfl (opv_mv rfl) ?_
        refine soff rfl rfl rfl rfl ?_
        refine soff rfl rfl rfl rfl ?_
        refine soff rfl rfl rfl rfl ?_
        refine sv rfl (opv_pick_t rfl rfl) ?_
        refine snil ?_
        refine ccond rfl (fun _ => ?_) (fun hx => Bool.noConfusion hx)
        refine cseq ?_
        refine cregion ?_
        refine sv rfl (opv_mv rfl) ?_
        refine sv rfl (opv_as rfl) ?_
        refine snil ?_
        refine cret ?_
        refine then_ret ?_
        obtain rfl := Option.some.inj h
        refine ⟨Or.inr rfl, _, _, _, (resVs_cons (ResV.tmp _ _ rfl) resVs_nil), (pubA_id rfl), ?_⟩
        rfl
      · replace h := ite_f hc h
        clear hc
        refine son rfl rfl rfl ?_
        refine sv rfl (opv_mv rfl) ?_
        refine son rfl rfl rfl ?_
        refine sv rfl (opv_build zi43 pi43 (parts_cons rfl parts_nil) (.cons _ _ _ _ _ _ _ rfl rfl (Nat.le_of_ble_eq_true rfl) (.nil _))) ?_
        refine son rfl rfl rfl ?_
        refine spub 29 rfl (by (repeat' first | exact PubA.nil _ | apply PubA.cons | apply PubV.one | apply PubV.agg | exact PubL.nil | exact PubL.id _ rfl | exact PubLs.nil _ | apply PubLs.cons)) ?_
        refine sbuild1 rfl Try.underlying22 ei43 rfl rfl (List.all_eq_true.1 rfl) (by decide) ?_
        refine smem [.arr 43 7 0 ([(GL11Act.mk 0 0 false (GApiRange.mk ([] : List UInt8) ([] : List UInt8) false) a2)].flatMap eGL11Act)] rfl ?_
        refine son rfl rfl rfl ?_
        refine spub 30 rfl (by (repeat' first | exact PubA.nil _ | apply PubA.cons | apply PubV.one | apply PubV.agg | exact PubL.nil | exact PubL.ls _ _ _ _ _ _ rfl (flat_len (f := eGL11Act) (fun _ => rfl) ([(GL11Act.mk 0 0 false (GApiRange.mk ([] : List UInt8) ([] : List UInt8) false) a2)] : List GL11Act)).symm | exact PubL.ls _ _ _ _ _ _ rfl (flat_len (f := eGL11Act) (fun _ => rfl) _).symm | exact PubL.id _ rfl | exact PubLs.nil _ | apply PubLs.cons)) ?_
        obtain ⟨v25, hv25, h⟩ := bind_eq h
        refine scall1 rfl fn10 (opnds_cons rfl opnds_nil) (pubA_id rfl) (m10_l11_small_c hv25) ?_
        refine son rfl rfl rfl ?_
        refine sv rfl (opv_not rfl) ?_
        refine sv rfl (opv_pick_f rfl rfl) ?_
        refine sv rfl (opv_mv rfl) ?_
        refine ssplit 34 rfl (fun hc => ?_) (fun hc => ?_)
        · replace h := ite_t hc h
          clear hc
          refine soff rfl rfl rfl rfl ?_
          refine soff rfl rfl rfl rfl ?_
          refine soff rfl rfl rfl rfl ?_
          refine sv rfl (opv_pick_t rfl rfl) ?_
          refine snil ?_
          refine ccond rfl (fun _ => ?_) (fun hx => Bool.noConfusion hx)
          refine cseq ?_
          refine cregion ?_
          refine sv rfl (opv_mv rfl) ?_
          refine sv rfl (opv_as rfl) ?_
          refine snil ?_
          refine cret ?_
          refine then_ret ?_
          obtain rfl := Option.some.inj h
          refine ⟨Or.inr rfl, _, _, _, (resVs_cons (ResV.tmp _ _ rfl) resVs_nil), (pubA_id rfl), ?_⟩
          rfl
        · replace h := ite_f hc h
          clear hc
          refine son rfl rfl rfl ?_
          refine sv rfl (opv_mv rfl) ?_
          refine son rfl rfl rfl ?_
          refine sv rfl (opv_len_sl si41 rfl) ?_
          refine son rfl rfl rfl ?_
          refine sv rfl (opv_gtr rfl rfl) ?_
          refine sv rfl (opv_pick_f rfl rfl) ?_
          refine snil ?_
          refine ccond rfl (fun hc => ?_) (fun hc => ?_)
          · replace h := ite_t hc h
            clear hc
            refine cseq ?_
            refine cregion ?_
            refine sv rfl (opv_mv rfl) ?_
            refine sv rfl (opv_as rfl) ?_
            refine snil ?_
            refine cret ?_
            refine then_ret ?_
            obtain rfl := Option.some.inj h
            refine ⟨Or.inr rfl, _, _, _, (resVs_cons (ResV.tmp _ _ rfl) resVs_nil), (pubA_id rfl), ?_⟩
            rfl
          · replace h := ite_f hc h
            clear hc
            refine cskip ?_
            refine then_normal ?_
            exact ⟨(), _, h, ⟨rfl, rfl, rfl, rfl, trivial⟩, rfl⟩

def m24_ssi_Find (a0 : GSsiCert) (a1 : Int) : Option (GSsiTx × Bool) :=
  (m37_ssi_place (GSsiCert.mk a0.Txs (GReadsTable.mk a0.Reads.L)) a1).bind fun v1 => if (decide (v1 < 0)) then (some ((GSsiTx.mk 0 0 0 0 false false false ([] : List (List UInt8))), false)) else ((idx a0.Txs v1).bind fun u2 => some (u2, true))

set_option maxRecDepth 100000 in
theorem m24_ssi_Find_c {a0 : GSsiCert} {a1 : Int} {r : GSsiTx × Bool} (h : m24_ssi_Find a0 a1 = some r) : CallsA Try.prog 24 [.agg a0, .one (.i .i64 a1)] (· = .tup [.agg r.1, .one (.b r.2)]) := by
  unfold m24_ssi_Find at h
  refine callsA_of Try.func24 rfl (nt := 18) rfl (Nat.le_of_ble_eq_true rfl) ?_
  intro w0 S0
  refine cseq ?_
  refine cregion ?_
  refine sbox rfl rfl ?_
  refine salloc rfl zi48 ?_
  refine sv rfl (opv_as rfl) ?_
  refine snil ?_
  refine cseq ?_
  refine cregion ?_
  refine sv rfl (opv_loadN ti31 rfl (.lp _ _ _ rfl) (Nat.le_of_ble_eq_true rfl)) ?_
  refine sv rfl (opv_mv rfl) ?_
  obtain ⟨v1, hv1, h⟩ := bind_eq h
  refine scall1 rfl fn37 (opnds_cons rfl (opnds_cons rfl opnds_nil)) (pubA_id rfl) (m37_ssi_place_c hv1) ?_
  refine sv rfl (opv_as rfl) ?_
  refine snil ?_
  refine cseq ?_
  refine cseq ?_
  refine cregion ?_
  refine sv rfl (opv_mv rfl) ?_
  refine sv rfl (opv_lss rfl rfl) ?_
  refine snil ?_
  refine ccond rfl (fun hc => ?_) (fun hc => ?_)
  · replace h := ite_t hc h
    clear hc
    refine cseq ?_
    refine cregion ?_
    refine sv rfl (opv_build zi48 pi48 parts_nil (.nil _)) ?_
    refine sstore sz48 rfl rfl rfl rfl (Nat.le_of_ble_eq_true rfl) ?_
    refine smem [.box a0, .box [.i .i64 0, .i .i64 0, .i .i64 0, .i .i64 0, .b false, .b false, .b false, .raw (.slice none 0 0)]] rfl ?_
    refine sv rfl (opv_as rfl) ?_
    refine snil ?_
    refine cret ?_
    refine then_ret ?_
    obtain rfl := Option.some.inj h
    refine ⟨Or.inr rfl, _, _, _, (resVs_cons (ResV.agg _ _ _ _ _ ti48 rfl (.lp _ _ _ rfl) (Nat.le_of_ble_eq_true rfl)) (resVs_cons (ResV.tmp _ _ rfl) resVs_nil)), (pubC rfl), ?_⟩
    rfl
  · replace h := ite_f hc h
    clear hc
    refine cskip ?_
    refine then_normal ?_
    refine cseq ?_
    refine cregion ?_
    refine sv rfl (opv_fieldAddr_lp fi31_0 rfl) ?_
    refine sv rfl (opv_load1 ti26 rfl (.lp _ _ _ rfl) rfl) ?_
    refine sv rfl (opv_mv rfl) ?_
    obtain ⟨u2, hu2, h⟩ := bind_eq h
    refine sv rfl (opv_ix (f := eGSsiTx) si26 (fun _ => rfl) rfl rfl rfl rfl hu2) ?_
    refine sv rfl (opv_loadNe (ys := [.i .i64 u2.ID, .i .i64 u2.Begin, .i .i64 u2.End, .i .i64 u2.State, .b u2.In, .b u2.Out, .b u2.RO, .sl u2.Keys.length (u2.Keys.flatMap (eL eU8))]) ti48 rfl (.cp _) rfl rfl) ?_
    refine sstore sz48 rfl rfl rfl rfl (Nat.le_of_ble_eq_true rfl) ?_
    refine smem [.box a0, .box u2] rfl ?_
    refine sv rfl (opv_as rfl) ?_
    refine snil ?_
    refine cret ?_
    obtain rfl := Option.some.inj h
    refine ⟨Or.inr rfl, _, _, _, (resVs_cons (ResV.agg _ _ _ _ _ ti48 rfl (.lp _ _ _ rfl) (Nat.le_of_ble_eq_true rfl)) (resVs_cons (ResV.tmp _ _ rfl) resVs_nil)), (pubA_id rfl), ?_⟩
    rfl

def m8_l11_SsiReaders_k5 (v1 : Bool) (b3 : (List GSsiTx) × (List GReadsRead) × Int × (List Int) × (List GR11Tx) × (List GR10Read)) (b5 : (List GSsiTx) × (List GReadsRead)) : Option Bool :=
  (m20_ssi_Commit (GSsiCert.mk b5.1 (GReadsTable.mk b5.2)) 1000 (wI (b3.2.2.1 + 1)) ([] : List (List UInt8))).bind fun v6 => (m24_ssi_Find (GSsiCert.mk v6.1.Txs (GReadsTable.mk v6.1.Reads.L)) 1000).bind fun v7 => if v1 then (if (decide (v6.2 = 0)) then (if v7.2 then (if (decide (v7.1.State = 2)) then (if (!v7.1.Out) then (some (!v7.1.In)) else (some false)) else (some false)) else (some false)) else (some false)) else (some false)

def m8_l11_SsiReaders_k13 (s8 : Int × (List GSsiTx) × (List GReadsRead)) (v12 : GSsiCert × Int) (b13 : Unit) : Option (LR (Int × (List GSsiTx) × (List GReadsRead)) ((List GSsiTx) × (List GReadsRead)) (Bool)) :=
  if (decide (v12.2 = 0)) then (some (.cont ((wI (s8.1 + 1)), v12.1.Txs, v12.1.Reads.L))) else (some (.cont ((wI (s8.1 + 1)), s8.2.1, s8.2.2)))

def m8_l11_SsiReaders_s8 (a1 : List GApiRange) (v1 : Bool) (s8 : Int × (List GSsiTx) × (List GReadsRead)) : Option (LR (Int × (List GSsiTx) × (List GReadsRead)) ((List GSsiTx) × (List GReadsRead)) (Bool)) :=
  if (decide (s8.1 < (a1.length : Int))) then ((idx a1 s8.1).bind fun u9 => (m10_l11_small [(GL11Act.mk 0 0 false u9 ([] : List (List UInt8)))]).bind fun v10 => if (!v10) then (some (.ret v1)) else ((idx a1 s8.1).bind fun u11 => (m19_ssi_Read (GSsiCert.mk s8.2.1 (GReadsTable.mk s8.2.2)) 1000 u11).bind fun v12 => if (!decide (v12.2 = 0)) then (if (!decide (v12.2 = 1)) then (if (!decide (v12.2 = 8)) then (some (.ret false)) else (m8_l11_SsiReaders_k13 s8 v12 ())) else (m8_l11_SsiReaders_k13 s8 v12 ())) else (m8_l11_SsiReaders_k13 s8 v12 ()))) else (some (.brk (s8.2.1, s8.2.2)))

def m8_l11_SsiReaders_k3 (a1 : List GApiRange) (v1 : Bool) (b3 : (List GSsiTx) × (List GReadsRead) × Int × (List Int) × (List GR11Tx) × (List GR10Read)) : Option Bool :=
  (m17_ssi_Begin (GSsiCert.mk b3.1 (GReadsTable.mk b3.2.1)) 1000 b3.2.2.1 true).bind fun v4 => if (!decide (v4.2 = 0)) then (if v1 then (some (decide (v4.2 = 8))) else (some false)) else ((iter (m8_l11_SsiReaders_s8 a1 v1) fuel (0, v4.1.Txs, v4.1.Reads.L)).bind fun x => match x with | .inl r => some r | .inr e14 => m8_l11_SsiReaders_k5 v1 b3 e14)

def m8_l11_SsiReaders_s15 (a0 : List GL11Act) (s15 : Int × (List GSsiTx) × (List GReadsRead) × Int × (List Int) × (List GR11Tx) × (List GR10Read)) : Option (LB (Int × (List GSsiTx) × (List GReadsRead) × Int × (List Int) × (List GR11Tx) × (List GR10Read)) ((List GSsiTx) × (List GReadsRead) × Int × (List Int) × (List GR11Tx) × (List GR10Read))) :=
  if (decide (s15.1 < (a0.length : Int))) then ((idx a0 s15.1).bind fun u16 => (m11_l11_world_dos (GL11Act.mk u16.What u16.N u16.RO (GApiRange.mk u16.Rng.Lo u16.Rng.Hi u16.Rng.Open) u16.Keys) s15.2.1 s15.2.2.1 s15.2.2.2.1 s15.2.2.2.2.1 s15.2.2.2.2.2.1 s15.2.2.2.2.2.2).bind fun v17 => some (.cont ((wI (s15.1 + 1)), v17.1, v17.2.1, v17.2.2.1, v17.2.2.2.1, v17.2.2.2.2.1, v17.2.2.2.2.2))) else (some (.brk (s15.2.1, s15.2.2.1, s15.2.2.2.1, s15.2.2.2.2.1, s15.2.2.2.2.2.1, s15.2.2.2.2.2.2)))

def m8_l11_SsiReaders_k2 (a0 : List GL11Act) (a1 : List GApiRange) (v1 : Bool) (b2 : Unit) : Option Bool :=
  (iterB (m8_l11_SsiReaders_s15 a0) fuel (0, ([] : List GSsiTx), ([] : List GReadsRead), 0, ([] : List Int), ([] : List GR11Tx), ([] : List GR10Read))).bind fun e18 => m8_l11_SsiReaders_k3 a1 v1 e18
def m8_l11_SsiReaders (a0 : List GL11Act) (a1 : List GApiRange) : Option Bool :=
  (m9_l11_awake).bind fun v1 => (m10_l11_small a0).bind fun v19 => if (!v19) then (some v1) else (if (decide (20 < (a1.length : Int))) then (some v1) else (m8_l11_SsiReaders_k2 a0 a1 v1 ()))

set_option maxRecDepth 100000 in
theorem m8_l11_SsiReaders_c {a0 : List GL11Act} {a1 : List GApiRange} {r : Bool} (h : m8_l11_SsiReaders a0 a1 = some r) : CallsA Try.prog 8 [.one (.sl a0.length (a0.flatMap eGL11Act)), .one (.sl a1.length (a1.flatMap eGApiRange))] (· = .s (.one (.b r))) := by
  unfold m8_l11_SsiReaders at h
  refine callsA_of Try.func8 rfl (nt := 135) rfl (Nat.le_of_ble_eq_true rfl) ?_
  intro w0 S0
  refine cseq ?_
  refine cregion ?_
  refine sv rfl (opv_as rfl) ?_
  refine snil ?_
  refine cseq ?_
  refine cregion ?_
  obtain ⟨v1, hv1, h⟩ := bind_eq h
  refine scall1 rfl fn9 opnds_nil (pubA_id rfl) (m9_l11_awake_c hv1) ?_
  refine sv rfl (opv_as rfl) ?_
  refine snil ?_
  refine cseq ?_
  refine cseq ?_
  refine cjoin3 (Unit) (fun b2 => [(0, .s (.one (.sl a0.length (a0.flatMap eGL11Act)))), (1, .s (.one (.sl a1.length (a1.flatMap eGApiRange)))), (5, .s (.one (.b v1)))]) (fun b2 => []) (fun b2 => m8_l11_SsiReaders_k2 a0 a1 v1 b2 = some r) (fun _ _ => inbL_of rfl) (fun _ _ => blkinb_of rfl) (fun _ _ => Nat.le_of_ble_eq_true rfl) (fun b2 h => ?_) ?_
  · unfold m8_l11_SsiReaders_k2 at h
    refine cseq ?_
    refine cregion ?_
    refine sv rfl (opv_build zi36 pi36 parts_nil (.nil _)) ?_
    refine sbox rfl rfl ?_
    refine sv rfl (opv_as rfl) ?_
    refine snil ?_
    refine cseq ?_
    refine cseq ?_
    refine cregion ?_
    refine sv rfl (opv_as rfl) ?_
    refine snil ?_
    refine sadopt_box_c 3 1 0 3 (by decide) rfl rfl ?_
    refine sadopt_box_c 46 8 0 4 (by decide) rfl rfl ?_
    refine sadopt_box_c 76 4 0 5 (by decide) rfl rfl ?_
    refine cjoin ((List GSsiTx) × (List GReadsRead) × Int × (List Int) × (List GR11Tx) × (List GR10Read)) (fun b3 => [(1, .s (.one (.sl a1.length (a1.flatMap eGApiRange)))), (5, .s (.one (.b v1))), (6, .s (.one (.lp 0 0)))]) (fun b3 => [.box [.sl b3.1.length (b3.1.flatMap eGSsiTx), .sl b3.2.1.length (b3.2.1.flatMap eGReadsRead), .i .i64 b3.2.2.1, .ls 1 b3.2.2.2.1.length, .ls 2 b3.2.2.2.2.1.length, .ls 3 b3.2.2.2.2.2.length], .arr 3 1 0 (b3.2.2.2.1.flatMap eI), .arr 46 8 0 (b3.2.2.2.2.1.flatMap eGR11Tx), .arr 76 4 0 (b3.2.2.2.2.2.flatMap eGR10Read)]) (fun b3 => m8_l11_SsiReaders_k3 a1 v1 b3 = some r) (fun _ _ => inbL_of rfl) (fun _ _ => blkinb_of rfl) (fun _ _ => Nat.le_of_ble_eq_true rfl) (fun b3 h => ?_) ?_
    · unfold m8_l11_SsiReaders_k3 at h
      refine cseq ?_
      refine chole ?_
      obtain ⟨v4, hv4, h⟩ := bind_eq h
      refine cdraw_e [12, 13] [0, 1, 3, 7, 0, 16, 48, 112, 255, 511, 1023, 1023, 0, 6143, 16383] [[.box [.sl b3.1.length (b3.1.flatMap eGSsiTx), .sl b3.2.1.length (b3.2.1.flatMap eGReadsRead), .i .i64 b3.2.2.1, .ls 1 b3.2.2.2.1.length, .ls 2 b3.2.2.2.2.1.length, .ls 3 b3.2.2.2.2.2.length], .arr 3 1 0 (b3.2.2.2.1.flatMap eI), .arr 46 8 0 (b3.2.2.2.2.1.flatMap eGR11Tx), .arr 76 4 0 (b3.2.2.2.2.2.flatMap eGR10Read), .hole], [.box [.sl b3.1.length (b3.1.flatMap eGSsiTx), .sl b3.2.1.length (b3.2.1.flatMap eGReadsRead), .i .i64 b3.2.2.1, .ls 1 b3.2.2.2.1.length, .ls 2 b3.2.2.2.2.1.length, .ls 3 b3.2.2.2.2.2.length], .arr 3 1 0 (b3.2.2.2.1.flatMap eI), .arr 46 8 0 (b3.2.2.2.2.1.flatMap eGR11Tx), .arr 76 4 0 (b3.2.2.2.2.2.flatMap eGR10Read), .box [.raw (.slice none 0 0), .raw (.slice none 0 0)]], [.box [.sl b3.1.length (b3.1.flatMap eGSsiTx), .sl b3.2.1.length (b3.2.1.flatMap eGReadsRead), .i .i64 b3.2.2.1, .ls 1 b3.2.2.2.1.length, .ls 2 b3.2.2.2.2.1.length, .ls 3 b3.2.2.2.2.2.length], .arr 3 1 0 (b3.2.2.2.1.flatMap eI), .arr 46 8 0 (b3.2.2.2.2.1.flatMap eGR11Tx), .arr 76 4 0 (b3.2.2.2.2.2.flatMap eGR10Read), .box v4.1]] (by kernel_rfl) mixed (by kernel_rfl) (by decide) rfl rfl rfl rfl ?_
      refine emv rfl rfl (fun _ => opv_mv rfl) ?_
      refine ev (sees_all (md := [.box [.sl b3.1.length (b3.1.flatMap eGSsiTx), .sl b3.2.1.length (b3.2.1.flatMap eGReadsRead), .i .i64 b3.2.2.1, .ls 1 b3.2.2.2.1.length, .ls 2 b3.2.2.2.2.1.length, .ls 3 b3.2.2.2.2.2.length], .arr 3 1 0 (b3.2.2.2.1.flatMap eI), .arr 46 8 0 (b3.2.2.2.2.1.flatMap eGR11Tx), .arr 76 4 0 (b3.2.2.2.2.2.flatMap eGR10Read), .dead]) ⟨⟨rfl, ⟨rfl, ⟨rfl, ⟨rfl, ⟨trivial, trivial⟩⟩⟩⟩⟩, ⟨⟨rfl, ⟨rfl, ⟨rfl, ⟨rfl, ⟨trivial, trivial⟩⟩⟩⟩⟩, ⟨⟨rfl, ⟨rfl, ⟨rfl, ⟨rfl, ⟨trivial, trivial⟩⟩⟩⟩⟩, trivial⟩⟩⟩) rfl rfl (opv_nilCheck rfl rfl (fun _ _ _ h => by cases h)) ?_
      refine ev (sees_all (md := [.box [.sl b3.1.length (b3.1.flatMap eGSsiTx), .sl b3.2.1.length (b3.2.1.flatMap eGReadsRead), .i .i64 b3.2.2.1, .ls 1 b3.2.2.2.1.length, .ls 2 b3.2.2.2.2.1.length, .ls 3 b3.2.2.2.2.2.length], .arr 3 1 0 (b3.2.2.2.1.flatMap eI), .arr 46 8 0 (b3.2.2.2.2.1.flatMap eGR11Tx), .arr 76 4 0 (b3.2.2.2.2.2.flatMap eGR10Read), .dead]) ⟨⟨rfl, ⟨rfl, ⟨rfl, ⟨rfl, ⟨trivial, trivial⟩⟩⟩⟩⟩, ⟨⟨rfl, ⟨rfl, ⟨rfl, ⟨rfl, ⟨trivial, trivial⟩⟩⟩⟩⟩, ⟨⟨rfl, ⟨rfl, ⟨rfl, ⟨rfl, ⟨trivial, trivial⟩⟩⟩⟩⟩, trivial⟩⟩⟩) rfl rfl (opv_fieldAddr_lp fi36_0 rfl) ?_
      refine ev (sees_all (md := [.box [.sl b3.1.length (b3.1.flatMap eGSsiTx), .sl b3.2.1.length (b3.2.1.flatMap eGReadsRead), .i .i64 b3.2.2.1, .ls 1 b3.2.2.2.1.length, .ls 2 b3.2.2.2.2.1.length, .ls 3 b3.2.2.2.2.2.length], .arr 3 1 0 (b3.2.2.2.1.flatMap eI), .arr 46 8 0 (b3.2.2.2.2.1.flatMap eGR11Tx), .arr 76 4 0 (b3.2.2.2.2.2.flatMap eGR10Read), .dead]) ⟨⟨rfl, ⟨rfl, ⟨rfl, ⟨rfl, ⟨trivial, trivial⟩⟩⟩⟩⟩, ⟨⟨rfl, ⟨rfl, ⟨rfl, ⟨rfl, ⟨trivial, trivial⟩⟩⟩⟩⟩, ⟨⟨rfl, ⟨rfl, ⟨rfl, ⟨rfl, ⟨trivial, trivial⟩⟩⟩⟩⟩, trivial⟩⟩⟩) rfl rfl (opv_loadN ti31 rfl (.lp _ _ _ rfl) (Nat.le_of_ble_eq_true rfl)) ?_
      refine emv rfl rfl (fun _ => opv_mv rfl) ?_
      refine ev (sees_all (md := [.box [.sl b3.1.length (b3.1.flatMap eGSsiTx), .sl b3.2.1.length (b3.2.1.flatMap eGReadsRead), .i .i64 b3.2.2.1, .ls 1 b3.2.2.2.1.length, .ls 2 b3.2.2.2.2.1.length, .ls 3 b3.2.2.2.2.2.length], .arr 3 1 0 (b3.2.2.2.1.flatMap eI), .arr 46 8 0 (b3.2.2.2.2.1.flatMap eGR11Tx), .arr 76 4 0 (b3.2.2.2.2.2.flatMap eGR10Read), .dead]) ⟨⟨rfl, ⟨rfl, ⟨rfl, ⟨rfl, ⟨trivial, trivial⟩⟩⟩⟩⟩, ⟨⟨rfl, ⟨rfl, ⟨rfl, ⟨rfl, ⟨trivial, trivial⟩⟩⟩⟩⟩, ⟨⟨rfl, ⟨rfl, ⟨rfl, ⟨rfl, ⟨trivial, trivial⟩⟩⟩⟩⟩, trivial⟩⟩⟩) rfl rfl (opv_nilCheck rfl rfl (fun _ _ _ h => by cases h)) ?_
      refine ev (sees_all (md := [.box [.sl b3.1.length (b3.1.flatMap eGSsiTx), .sl b3.2.1.length (b3.2.1.flatMap eGReadsRead), .i .i64 b3.2.2.1, .ls 1 b3.2.2.2.1.length, .ls 2 b3.2.2.2.2.1.length, .ls 3 b3.2.2.2.2.2.length], .arr 3 1 0 (b3.2.2.2.1.flatMap eI), .arr 46 8 0 (b3.2.2.2.2.1.flatMap eGR11Tx), .arr 76 4 0 (b3.2.2.2.2.2.flatMap eGR10Read), .dead]) ⟨⟨rfl, ⟨rfl, ⟨rfl, ⟨rfl, ⟨trivial, trivial⟩⟩⟩⟩⟩, ⟨⟨rfl, ⟨rfl, ⟨rfl, ⟨rfl, ⟨trivial, trivial⟩⟩⟩⟩⟩, ⟨⟨rfl, ⟨rfl, ⟨rfl, ⟨rfl, ⟨trivial, trivial⟩⟩⟩⟩⟩, trivial⟩⟩⟩) rfl rfl (opv_fieldAddr_lp fi36_1 rfl) ?_
      refine ev (sees_all (md := [.box [.sl b3.1.length (b3.1.flatMap eGSsiTx), .sl b3.2.1.length (b3.2.1.flatMap eGReadsRead), .i .i64 b3.2.2.1, .ls 1 b3.2.2.2.1.length, .ls 2 b3.2.2.2.2.1.length, .ls 3 b3.2.2.2.2.2.length], .arr 3 1 0 (b3.2.2.2.1.flatMap eI), .arr 46 8 0 (b3.2.2.2.2.1.flatMap eGR11Tx), .arr 76 4 0 (b3.2.2.2.2.2.flatMap eGR10Read), .dead]) ⟨⟨rfl, ⟨rfl, ⟨rfl, ⟨rfl, ⟨trivial, trivial⟩⟩⟩⟩⟩, ⟨⟨rfl, ⟨rfl, ⟨rfl, ⟨rfl, ⟨trivial, trivial⟩⟩⟩⟩⟩, ⟨⟨rfl, ⟨rfl, ⟨rfl, ⟨rfl, ⟨trivial, trivial⟩⟩⟩⟩⟩, trivial⟩⟩⟩) rfl rfl (opv_load1 ti3 rfl (.lp _ _ _ rfl) rfl) ?_
      refine ed (sees_all (md := [.box [.sl b3.1.length (b3.1.flatMap eGSsiTx), .sl b3.2.1.length (b3.2.1.flatMap eGReadsRead), .i .i64 b3.2.2.1, .ls 1 b3.2.2.2.1.length, .ls 2 b3.2.2.2.2.1.length, .ls 3 b3.2.2.2.2.2.length], .arr 3 1 0 (b3.2.2.2.1.flatMap eI), .arr 46 8 0 (b3.2.2.2.2.1.flatMap eGR11Tx), .arr 76 4 0 (b3.2.2.2.2.2.flatMap eGR10Read), .dead]) ⟨⟨rfl, ⟨rfl, ⟨rfl, ⟨rfl, ⟨trivial, trivial⟩⟩⟩⟩⟩, ⟨⟨rfl, ⟨rfl, ⟨rfl, ⟨rfl, ⟨trivial, trivial⟩⟩⟩⟩⟩, ⟨⟨rfl, ⟨rfl, ⟨rfl, ⟨rfl, ⟨trivial, trivial⟩⟩⟩⟩⟩, trivial⟩⟩⟩) rfl rfl (opD_call fn17 (opnds_cons rfl (opnds_cons rfl (opnds_cons rfl (opnds_cons rfl opnds_nil)))) rfl (m17_ssi_Begin_c hv4)) ?_
      refine emv rfl rfl (fun _ => opv_mvt rfl) ?_
      refine ev (sees_all (md := [.box [.sl b3.1.length (b3.1.flatMap eGSsiTx), .sl b3.2.1.length (b3.2.1.flatMap eGReadsRead), .i .i64 b3.2.2.1, .ls 1 b3.2.2.2.1.length, .ls 2 b3.2.2.2.2.1.length, .ls 3 b3.2.2.2.2.2.length], .arr 3 1 0 (b3.2.2.2.1.flatMap eI), .arr 46 8 0 (b3.2.2.2.2.1.flatMap eGR11Tx), .arr 76 4 0 (b3.2.2.2.2.2.flatMap eGR10Read), .dead]) ⟨⟨rfl, ⟨rfl, ⟨rfl, ⟨rfl, ⟨trivial, trivial⟩⟩⟩⟩⟩, ⟨⟨rfl, ⟨rfl, ⟨rfl, ⟨rfl, ⟨trivial, trivial⟩⟩⟩⟩⟩, ⟨⟨rfl, ⟨rfl, ⟨rfl, ⟨rfl, ⟨trivial, trivial⟩⟩⟩⟩⟩, trivial⟩⟩⟩) rfl rfl (opv_extract rfl rfl) ?_
      refine ev (sees_all (md := [.box [.sl b3.1.length (b3.1.flatMap eGSsiTx), .sl b3.2.1.length (b3.2.1.flatMap eGReadsRead), .i .i64 b3.2.2.1, .ls 1 b3.2.2.2.1.length, .ls 2 b3.2.2.2.2.1.length, .ls 3 b3.2.2.2.2.2.length], .arr 3 1 0 (b3.2.2.2.1.flatMap eI), .arr 46 8 0 (b3.2.2.2.2.1.flatMap eGR11Tx), .arr 76 4 0 (b3.2.2.2.2.2.flatMap eGR10Read), .dead]) ⟨⟨rfl, ⟨rfl, ⟨rfl, ⟨rfl, ⟨trivial, trivial⟩⟩⟩⟩⟩, ⟨⟨rfl, ⟨rfl, ⟨rfl, ⟨rfl, ⟨trivial, trivial⟩⟩⟩⟩⟩, ⟨⟨rfl, ⟨rfl, ⟨rfl, ⟨rfl, ⟨trivial, trivial⟩⟩⟩⟩⟩, trivial⟩⟩⟩) rfl rfl (opv_extract rfl rfl) ?_
      refine ee (x := .s (.one (.lp 4 0))) 0 rfl rfl rfl rfl rfl (fun ζ => ?_) ?_
      · refine salloc_at 4 rfl zi31 rfl ?_
        exact eend
      refine ee0 1 rfl rfl rfl rfl (fun ζ => ?_) ?_
      · refine sstore sz31 rfl rfl rfl rfl (Nat.le_of_ble_eq_true rfl) ?_
        refine smem [.box [.sl b3.1.length (b3.1.flatMap eGSsiTx), .sl b3.2.1.length (b3.2.1.flatMap eGReadsRead), .i .i64 b3.2.2.1, .ls 1 b3.2.2.2.1.length, .ls 2 b3.2.2.2.2.1.length, .ls 3 b3.2.2.2.2.2.length], .arr 3 1 0 (b3.2.2.2.1.flatMap eI), .arr 46 8 0 (b3.2.2.2.2.1.flatMap eGR11Tx), .arr 76 4 0 (b3.2.2.2.2.2.flatMap eGR10Read), .box v4.1] rfl ?_
        exact eend
      refine ev (sees_at 2 rfl rfl) rfl rfl (opv_as rfl) ?_
      refine enil ?_
      refine then_normal ?_
      refine cseq ?_
      refine cseq ?_
      refine cregion ?_
      refine sv rfl (opv_mv rfl) ?_
      refine sv rfl (opv_ineq rfl rfl) ?_
      refine snil ?_
      refine ccond rfl (fun hc => ?_) (fun hc => ?_)
      · replace h := ite_t hc h
        clear hc
        refine cseq ?_
        refine cregion ?_
        refine sv rfl (opv_mv rfl) ?_
        refine sv rfl (opv_mv rfl) ?_
        refine ssplit 56 rfl (fun hc => ?_) (fun hc => ?_)
        · replace h := ite_t hc h
          clear hc
          refine son rfl rfl rfl ?_
          refine sv rfl (opv_mv rfl) ?_
          refine son rfl rfl rfl ?_
          refine sv rfl (opv_ieql rfl rfl) ?_
          refine sv rfl (opv_pick_t rfl rfl) ?_
          refine sv rfl (opv_as rfl) ?_
          refine snil ?_
          refine cret ?_
          refine then_ret ?_
          obtain rfl := Option.some.inj h
          refine ⟨Or.inr rfl, _, _, _, (resVs_cons (ResV.tmp _ _ rfl) resVs_nil), (pubA_id rfl), ?_⟩
          rfl
        · replace h := ite_f hc h
          clear hc
          refine soff rfl rfl rfl rfl ?_
          refine soff rfl rfl rfl rfl ?_
          refine sv rfl (opv_pick_f rfl rfl) ?_
          refine sv rfl (opv_as rfl) ?_
          refine snil ?_
          refine cret ?_
          refine then_ret ?_
          obtain rfl := Option.some.inj h
          refine ⟨Or.inr rfl, _, _, _, (resVs_cons (ResV.tmp _ _ rfl) resVs_nil), (pubA_id rfl), ?_⟩
          rfl
      · replace h := ite_f hc h
        clear hc
        refine cskip ?_
        refine then_normal ?_
        refine cseq ?_
        refine cseq ?_
        refine cregion ?_
        refine sv rfl (opv_as rfl) ?_
        refine snil ?_
        refine cjoin ((List GSsiTx) × (List GReadsRead)) (fun b5 => [(5, .s (.one (.b v1))), (6, .s (.one (.lp 0 0))), (8, .s (.one (.lp 4 0)))]) (fun b5 => [.box [.sl b3.1.length (b3.1.flatMap eGSsiTx), .sl b3.2.1.length (b3.2.1.flatMap eGReadsRead), .i .i64 b3.2.2.1, .ls 1 b3.2.2.2.1.length, .ls 2 b3.2.2.2.2.1.length, .ls 3 b3.2.2.2.2.2.length], .arr 3 1 0 (b3.2.2.2.1.flatMap eI), .arr 46 8 0 (b3.2.2.2.2.1.flatMap eGR11Tx), .arr 76 4 0 (b3.2.2.2.2.2.flatMap eGR10Read), .box [.sl b5.1.length (b5.1.flatMap eGSsiTx), .sl b5.2.length (b5.2.flatMap eGReadsRead)]]) (fun b5 => m8_l11_SsiReaders_k5 v1 b3 b5 = some r) (fun _ _ => inbL_of rfl) (fun _ _ => blkinb_of rfl) (fun _ _ => Nat.le_of_ble_eq_true rfl) (fun b5 h => ?_) ?_
        · unfold m8_l11_SsiReaders_k5 at h
          refine cseq ?_
          refine chole ?_
          obtain ⟨v6, hv6, h⟩ := bind_eq h
          refine cdraw_e [10, 11] [0, 0, 2, 6, 14, 30, 63, 127, 255, 255, 0, 1535, 4095] [[.box [.sl b3.1.length (b3.1.flatMap eGSsiTx), .sl b3.2.1.length (b3.2.1.flatMap eGReadsRead), .i .i64 b3.2.2.1, .ls 1 b3.2.2.2.1.length, .ls 2 b3.2.2.2.2.1.length, .ls 3 b3.2.2.2.2.2.length], .arr 3 1 0 (b3.2.2.2.1.flatMap eI), .arr 46 8 0 (b3.2.2.2.2.1.flatMap eGR11Tx), .arr 76 4 0 (b3.2.2.2.2.2.flatMap eGR10Read), .box [.sl b5.1.length (b5.1.flatMap eGSsiTx), .sl b5.2.length (b5.2.flatMap eGReadsRead)], .hole], [.box [.sl b3.1.length (b3.1.flatMap eGSsiTx), .sl b3.2.1.length (b3.2.1.flatMap eGReadsRead), .i .i64 b3.2.2.1, .ls 1 b3.2.2.2.1.length, .ls 2 b3.2.2.2.2.1.length, .ls 3 b3.2.2.2.2.2.length], .arr 3 1 0 (b3.2.2.2.1.flatMap eI), .arr 46 8 0 (b3.2.2.2.2.1.flatMap eGR11Tx), .arr 76 4 0 (b3.2.2.2.2.2.flatMap eGR10Read), .box [.sl b5.1.length (b5.1.flatMap eGSsiTx), .sl b5.2.length (b5.2.flatMap eGReadsRead)], .box [.raw (.slice none 0 0), .raw (.slice none 0 0)]], [.box [.sl b3.1.length (b3.1.flatMap eGSsiTx), .sl b3.2.1.length (b3.2.1.flatMap eGReadsRead), .i .i64 b3.2.2.1, .ls 1 b3.2.2.2.1.length, .ls 2 b3.2.2.2.2.1.length, .ls 3 b3.2.2.2.2.2.length], .arr 3 1 0 (b3.2.2.2.1.flatMap eI), .arr 46 8 0 (b3.2.2.2.2.1.flatMap eGR11Tx), .arr 76 4 0 (b3.2.2.2.2.2.flatMap eGR10Read), .box [.sl b5.1.length (b5.1.flatMap eGSsiTx), .sl b5.2.length (b5.2.flatMap eGReadsRead)], .box v6.1]] (by kernel_rfl) mixed (by kernel_rfl) (by decide) rfl rfl rfl rfl ?_
          refine ev (sees_all (md := [.box [.sl b3.1.length (b3.1.flatMap eGSsiTx), .sl b3.2.1.length (b3.2.1.flatMap eGReadsRead), .i .i64 b3.2.2.1, .ls 1 b3.2.2.2.1.length, .ls 2 b3.2.2.2.2.1.length, .ls 3 b3.2.2.2.2.2.length], .arr 3 1 0 (b3.2.2.2.1.flatMap eI), .arr 46 8 0 (b3.2.2.2.2.1.flatMap eGR11Tx), .arr 76 4 0 (b3.2.2.2.2.2.flatMap eGR10Read), .box [.sl b5.1.length (b5.1.flatMap eGSsiTx), .sl b5.2.length (b5.2.flatMap eGReadsRead)], .dead]) ⟨⟨rfl, ⟨rfl, ⟨rfl, ⟨rfl, ⟨rfl, ⟨trivial, trivial⟩⟩⟩⟩⟩⟩, ⟨⟨rfl, ⟨rfl, ⟨rfl, ⟨rfl, ⟨rfl, ⟨trivial, trivial⟩⟩⟩⟩⟩⟩, ⟨⟨rfl, ⟨rfl, ⟨rfl, ⟨rfl, ⟨rfl, ⟨trivial, trivial⟩⟩⟩⟩⟩⟩, trivial⟩⟩⟩) rfl rfl (opv_loadN ti31 rfl (.lp _ _ _ rfl) (Nat.le_of_ble_eq_true rfl)) ?_
          refine emv rfl rfl (fun _ => opv_mv rfl) ?_
          refine ev (sees_all (md := [.box [.sl b3.1.length (b3.1.flatMap eGSsiTx), .sl b3.2.1.length (b3.2.1.flatMap eGReadsRead), .i .i64 b3.2.2.1, .ls 1 b3.2.2.2.1.length, .ls 2 b3.2.2.2.2.1.length, .ls 3 b3.2.2.2.2.2.length], .arr 3 1 0 (b3.2.2.2.1.flatMap eI), .arr 46 8 0 (b3.2.2.2.2.1.flatMap eGR11Tx), .arr 76 4 0 (b3.2.2.2.2.2.flatMap eGR10Read), .box [.sl b5.1.length (b5.1.flatMap eGSsiTx), .sl b5.2.length (b5.2.flatMap eGReadsRead)], .dead]) ⟨⟨rfl, ⟨rfl, ⟨rfl, ⟨rfl, ⟨rfl, ⟨trivial, trivial⟩⟩⟩⟩⟩⟩, ⟨⟨rfl, ⟨rfl, ⟨rfl, ⟨rfl, ⟨rfl, ⟨trivial, trivial⟩⟩⟩⟩⟩⟩, ⟨⟨rfl, ⟨rfl, ⟨rfl, ⟨rfl, ⟨rfl, ⟨trivial, trivial⟩⟩⟩⟩⟩⟩, trivial⟩⟩⟩) rfl rfl (opv_nilCheck rfl rfl (fun _ _ _ h => by cases h)) ?_
          refine ev (sees_all (md := [.box [.sl b3.1.length (b3.1.flatMap eGSsiTx), .sl b3.2.1.length (b3.2.1.flatMap eGReadsRead), .i .i64 b3.2.2.1, .ls 1 b3.2.2.2.1.length, .ls 2 b3.2.2.2.2.1.length, .ls 3 b3.2.2.2.2.2.length], .arr 3 1 0 (b3.2.2.2.1.flatMap eI), .arr 46 8 0 (b3.2.2.2.2.1.flatMap eGR11Tx), .arr 76 4 0 (b3.2.2.2.2.2.flatMap eGR10Read), .box [.sl b5.1.length (b5.1.flatMap eGSsiTx), .sl b5.2.length (b5.2.flatMap eGReadsRead)], .dead]) ⟨⟨rfl, ⟨rfl, ⟨rfl, ⟨rfl, ⟨rfl, ⟨trivial, trivial⟩⟩⟩⟩⟩⟩, ⟨⟨rfl, ⟨rfl, ⟨rfl, ⟨rfl, ⟨rfl, ⟨trivial, trivial⟩⟩⟩⟩⟩⟩, ⟨⟨rfl, ⟨rfl, ⟨rfl, ⟨rfl, ⟨rfl, ⟨trivial, trivial⟩⟩⟩⟩⟩⟩, trivial⟩⟩⟩) rfl rfl (opv_fieldAddr_lp fi36_1 rfl) ?_
          refine ev (sees_all (md := [.box [.sl b3.1.length (b3.1.flatMap eGSsiTx), .sl b3.2.1.length (b3.2.1.flatMap eGReadsRead), .i .i64 b3.2.2.1, .ls 1 b3.2.2.2.1.length, .ls 2 b3.2.2.2.2.1.length, .ls 3 b3.2.2.2.2.2.length], .arr 3 1 0 (b3.2.2.2.1.flatMap eI), .arr 46 8 0 (b3.2.2.2.2.1.flatMap eGR11Tx), .arr 76 4 0 (b3.2.2.2.2.2.flatMap eGR10Read), .box [.sl b5.1.length (b5.1.flatMap eGSsiTx), .sl b5.2.length (b5.2.flatMap eGReadsRead)], .dead]) ⟨⟨rfl, ⟨rfl, ⟨rfl, ⟨rfl, ⟨rfl, ⟨trivial, trivial⟩⟩⟩⟩⟩⟩, ⟨⟨rfl, ⟨rfl, ⟨rfl, ⟨rfl, ⟨rfl, ⟨trivial, trivial⟩⟩⟩⟩⟩⟩, ⟨⟨rfl, ⟨rfl, ⟨rfl, ⟨rfl, ⟨rfl, ⟨trivial, trivial⟩⟩⟩⟩⟩⟩, trivial⟩⟩⟩) rfl rfl (opv_load1 ti3 rfl (.lp _ _ _ rfl) rfl) ?_
          refine ev (sees_all (md := [.box [.sl b3.1.length (b3.1.flatMap eGSsiTx), .sl b3.2.1.length (b3.2.1.flatMap eGReadsRead), .i .i64 b3.2.2.1, .ls 1 b3.2.2.2.1.length, .ls 2 b3.2.2.2.2.1.length, .ls 3 b3.2.2.2.2.2.length], .arr 3 1 0 (b3.2.2.2.1.flatMap eI), .arr 46 8 0 (b3.2.2.2.2.1.flatMap eGR11Tx), .arr 76 4 0 (b3.2.2.2.2.2.flatMap eGR10Read), .box [.sl b5.1.length (b5.1.flatMap eGSsiTx), .sl b5.2.length (b5.2.flatMap eGReadsRead)], .dead]) ⟨⟨rfl, ⟨rfl, ⟨rfl, ⟨rfl, ⟨rfl, ⟨trivial, trivial⟩⟩⟩⟩⟩⟩, ⟨⟨rfl, ⟨rfl, ⟨rfl, ⟨rfl, ⟨rfl, ⟨trivial, trivial⟩⟩⟩⟩⟩⟩, ⟨⟨rfl, ⟨rfl, ⟨rfl, ⟨rfl, ⟨rfl, ⟨trivial, trivial⟩⟩⟩⟩⟩⟩, trivial⟩⟩⟩) rfl rfl (opv_add rfl rfl) ?_
          refine ed (sees_all (md := [.box [.sl b3.1.length (b3.1.flatMap eGSsiTx), .sl b3.2.1.length (b3.2.1.flatMap eGReadsRead), .i .i64 b3.2.2.1, .ls 1 b3.2.2.2.1.length, .ls 2 b3.2.2.2.2.1.length, .ls 3 b3.2.2.2.2.2.length], .arr 3 1 0 (b3.2.2.2.1.flatMap eI), .arr 46 8 0 (b3.2.2.2.2.1.flatMap eGR11Tx), .arr 76 4 0 (b3.2.2.2.2.2.flatMap eGR10Read), .box [.sl b5.1.length (b5.1.flatMap eGSsiTx), .sl b5.2.length (b5.2.flatMap eGReadsRead)], .dead]) ⟨⟨rfl, ⟨rfl, ⟨rfl, ⟨rfl, ⟨rfl, ⟨trivial, trivial⟩⟩⟩⟩⟩⟩, ⟨⟨rfl, ⟨rfl, ⟨rfl, ⟨rfl, ⟨rfl, ⟨trivial, trivial⟩⟩⟩⟩⟩⟩, ⟨⟨rfl, ⟨rfl, ⟨rfl, ⟨rfl, ⟨rfl, ⟨trivial, trivial⟩⟩⟩⟩⟩⟩, trivial⟩⟩⟩) rfl rfl (opD_callN fn20 (opnds_cons rfl (opnds_cons rfl (opnds_cons rfl (opnds_cons rfl opnds_nil)))) rfl (m20_ssi_Commit_c hv6)) ?_
          refine emv rfl rfl (fun _ => opv_mvt rfl) ?_
          refine ev (sees_all (md := [.box [.sl b3.1.length (b3.1.flatMap eGSsiTx), .sl b3.2.1.length (b3.2.1.flatMap eGReadsRead), .i .i64 b3.2.2.1, .ls 1 b3.2.2.2.1.length, .ls 2 b3.2.2.2.2.1.length, .ls 3 b3.2.2.2.2.2.length], .arr 3 1 0 (b3.2.2.2.1.flatMap eI), .arr 46 8 0 (b3.2.2.2.2.1.flatMap eGR11Tx), .arr 76 4 0 (b3.2.2.2.2.2.flatMap eGR10Read), .box [.sl b5.1.length (b5.1.flatMap eGSsiTx), .sl b5.2.length (b5.2.flatMap eGReadsRead)], .dead]) ⟨⟨rfl, ⟨rfl, ⟨rfl, ⟨rfl, ⟨rfl, ⟨trivial, trivial⟩⟩⟩⟩⟩⟩, ⟨⟨rfl, ⟨rfl, ⟨rfl, ⟨rfl, ⟨rfl, ⟨trivial, trivial⟩⟩⟩⟩⟩⟩, ⟨⟨rfl, ⟨rfl, ⟨rfl, ⟨rfl, ⟨rfl, ⟨trivial, trivial⟩⟩⟩⟩⟩⟩, trivial⟩⟩⟩) rfl rfl (opv_extract rfl rfl) ?_
          refine ev (sees_all (md := [.box [.sl b3.1.length (b3.1.flatMap eGSsiTx), .sl b3.2.1.length (b3.2.1.flatMap eGReadsRead), .i .i64 b3.2.2.1, .ls 1 b3.2.2.2.1.length, .ls 2 b3.2.2.2.2.1.length, .ls 3 b3.2.2.2.2.2.length], .arr 3 1 0 (b3.2.2.2.1.flatMap eI), .arr 46 8 0 (b3.2.2.2.2.1.flatMap eGR11Tx), .arr 76 4 0 (b3.2.2.2.2.2.flatMap eGR10Read), .box [.sl b5.1.length (b5.1.flatMap eGSsiTx), .sl b5.2.length (b5.2.flatMap eGReadsRead)], .dead]) ⟨⟨rfl, ⟨rfl, ⟨rfl, ⟨rfl, ⟨rfl, ⟨trivial, trivial⟩⟩⟩⟩⟩⟩, ⟨⟨rfl, ⟨rfl, ⟨rfl, ⟨rfl, ⟨rfl, ⟨trivial, trivial⟩⟩⟩⟩⟩⟩, ⟨⟨rfl, ⟨rfl, ⟨rfl, ⟨rfl, ⟨rfl, ⟨trivial, trivial⟩⟩⟩⟩⟩⟩, trivial⟩⟩⟩) rfl rfl (opv_extract rfl rfl) ?_
          refine ee (x := .s (.one (.lp 5 0))) 0 rfl rfl rfl rfl rfl (fun ζ => ?_) ?_
          · refine salloc_at 5 rfl zi31 rfl ?_
            exact eend
          refine ee0 1 rfl rfl rfl rfl (fun ζ => ?_) ?_
          · refine sstore sz31 rfl rfl rfl rfl (Nat.le_of_ble_eq_true rfl) ?_
            refine smem [.box [.sl b3.1.length (b3.1.flatMap eGSsiTx), .sl b3.2.1.length (b3.2.1.flatMap eGReadsRead), .i .i64 b3.2.2.1, .ls 1 b3.2.2.2.1.length, .ls 2 b3.2.2.2.2.1.length, .ls 3 b3.2.2.2.2.2.length], .arr 3 1 0 (b3.2.2.2.1.flatMap eI), .arr 46 8 0 (b3.2.2.2.2.1.flatMap eGR11Tx), .arr 76 4 0 (b3.2.2.2.2.2.flatMap eGR10Read), .box [.sl b5.1.length (b5.1.flatMap eGSsiTx), .sl b5.2.length (b5.2.flatMap eGReadsRead)], .box v6.1] rfl ?_
            exact eend
          refine ev (sees_at 2 rfl rfl) rfl rfl (opv_as rfl) ?_
          refine enil ?_
          refine then_normal ?_
          refine cseq ?_
          refine cregion ?_
          refine sv rfl (opv_loadN ti31 rfl (.lp _ _ _ rfl) (Nat.le_of_ble_eq_true rfl)) ?_
          obtain ⟨v7, hv7, h⟩ := bind_eq h
          refine scall1 rfl fn24 (opnds_cons rfl (opnds_cons rfl opnds_nil)) (pubA_id rfl) (m24_ssi_Find_c hv7) ?_
          refine sv rfl (opv_mvt rfl) ?_
          refine sv rfl (opv_extract rfl rfl) ?_
          refine sv rfl (opv_extract rfl rfl) ?_
          refine salloc rfl zi48 ?_
          refine sstore sz48 rfl rfl rfl rfl (Nat.le_of_ble_eq_true rfl) ?_
          refine smem [.box [.sl b3.1.length (b3.1.flatMap eGSsiTx), .sl b3.2.1.length (b3.2.1.flatMap eGReadsRead), .i .i64 b3.2.2.1, .ls 1 b3.2.2.2.1.length, .ls 2 b3.2.2.2.2.1.length, .ls 3 b3.2.2.2.2.2.length], .arr 3 1 0 (b3.2.2.2.1.flatMap eI), .arr 46 8 0 (b3.2.2.2.2.1.flatMap eGR11Tx), .arr 76 4 0 (b3.2.2.2.2.2.flatMap eGR10Read), .box [.sl b5.1.length (b5.1.flatMap eGSsiTx), .sl b5.2.length (b5.2.flatMap eGReadsRead)], .box v6.1, .box v7.1] rfl ?_
          refine sv rfl (opv_as rfl) ?_
          refine snil ?_
          refine cseq ?_
          refine cregion ?_
          refine sv rfl (opv_mv rfl) ?_
          refine sv rfl (opv_mv rfl) ?_
          refine ssplit 113 rfl (fun hc => ?_) (fun hc => ?_)
          · replace h := ite_t hc h
            clear hc
            refine son rfl rfl rfl ?_
            refine sv rfl (opv_mv rfl) ?_
            refine son rfl rfl rfl ?_
            refine sv rfl (opv_ieql rfl rfl) ?_
            refine sv rfl (opv_pick_t rfl rfl) ?_
            refine sv rfl (opv_mv rfl) ?_
            refine ssplit 117 rfl (fun hc => ?_) (fun hc => ?_)
            · replace h := ite_t hc h
              clear hc
              refine son rfl rfl rfl ?_
              refine sv rfl (opv_mv rfl) ?_
              refine sv rfl (opv_pick_t rfl rfl) ?_
              refine sv rfl (opv_mv rfl) ?_
              refine ssplit 120 rfl (fun hc => ?_) (fun hc => ?_)
              · replace h := ite_t hc h
                clear hc
                refine son rfl rfl rfl ?_
                refine sv rfl (opv_fieldAddr_lp fi48_3 rfl) ?_
                refine son rfl rfl rfl ?_
                refine sv rfl (opv_load1 ti3 rfl (.lp _ _ _ rfl) rfl) ?_
                refine son rfl rfl rfl ?_
                refine sv rfl (opv_ieql rfl rfl) ?_
                refine sv rfl (opv_pick_t rfl rfl) ?_
                refine sv rfl (opv_mv rfl) ?_
                refine ssplit 125 rfl (fun hc => ?_) (fun hc => ?_)
                · replace h := ite_t hc h
                  clear hc
                  refine son rfl rfl rfl ?_
                  refine sv rfl (opv_fieldAddr_lp fi48_5 rfl) ?_
                  refine son rfl rfl rfl ?_
                  refine sv rfl (opv_load1 ti4 rfl (.lp _ _ _ rfl) rfl) ?_
                  refine son rfl rfl rfl ?_
                  refine sv rfl (opv_not rfl) ?_
                  refine sv rfl (opv_pick_t rfl rfl) ?_
                  refine sv rfl (opv_mv rfl) ?_
                  refine ssplit 130 rfl (fun hc => ?_) (fun hc => ?_)
                  · replace h := ite_t hc h
                    clear hc
                    refine son rfl rfl rfl ?_
                    refine sv rfl (opv_fieldAddr_lp fi48_4 rfl) ?_
                    refine son rfl rfl rfl ?_
                    refine sv rfl (opv_load1 ti4 rfl (.lp _ _ _ rfl) rfl) ?_
                    refine son rfl rfl rfl ?_
                    refine sv rfl (opv_not rfl) ?_
                    refine sv rfl (opv_pick_t rfl rfl) ?_
                    refine sv rfl (opv_as rfl) ?_
                    refine snil ?_
                    refine cret ?_
                    obtain rfl := Option.some.inj h
                    refine ⟨Or.inr rfl, _, _, _, (resVs_cons (ResV.tmp _ _ rfl) resVs_nil), (pubA_id rfl), ?_⟩
                    rfl
                  · replace h := ite_f hc h
                    clear hc
                    refine soff rfl rfl rfl rfl ?_
                    refine soff rfl rfl rfl rfl ?_
                    refine soff rfl rfl rfl rfl ?_
                    refine sv rfl (opv_pick_f rfl rfl) ?_
                    refine sv rfl (opv_as rfl) ?_
                    refine snil ?_
                    refine cret ?_
                    obtain rfl := Option.some.inj h
                    refine ⟨Or.inr rfl, _, _, _, (resVs_cons (ResV.tmp _ _ rfl) resVs_nil), (pubA_id rfl), ?_⟩
                    rfl
                · replace h := ite_f hc h
                  clear hc
                  refine soff rfl rfl rfl rfl ?_
                  refine soff rfl rfl rfl rfl ?_
                  refine soff rfl rfl rfl rfl ?_
                  refine sv rfl (opv_pick_f rfl rfl) ?_
                  refine sv rfl (opv_mv rfl) ?_
                  refine soff rfl rfl rfl rfl ?_
                  refine soff rfl rfl rfl rfl ?_
                  refine soff rfl rfl rfl rfl ?_
                  refine sv rfl (opv_pick_f rfl rfl) ?_
                  refine sv rfl (opv_as rfl) ?_
                  refine snil ?_
                  refine cret ?_
                  obtain rfl := Option.some.inj h
                  refine ⟨Or.inr rfl, _, _, _, (resVs_cons (ResV.tmp _ _ rfl) resVs_nil), (pubA_id rfl), ?_⟩
                  rfl
              · replace h := ite_f hc h
                clear hc
                refine soff rfl rfl rfl rfl ?_
                refine soff rfl rfl rfl rfl ?_
                refine soff rfl rfl rfl rfl ?_
                refine sv rfl (opv_pick_f rfl rfl) ?_
                refine sv rfl (opv_mv rfl) ?_
                refine soff rfl rfl rfl rfl ?_
                refine soff rfl rfl rfl rfl ?_
                refine soff rfl rfl rfl rfl ?_
                refine sv rfl (opv_pick_f rfl rfl) ?_
                refine sv rfl (opv_mv rfl) ?_
                refine soff rfl rfl rfl rfl ?_
                refine soff rfl rfl rfl rfl ?_
                refine soff rfl rfl rfl rfl ?_
                refine sv rfl (opv_pick_f rfl rfl) ?_
                refine sv rfl (opv_as rfl) ?_
                refine snil ?_
                refine cret ?_
                obtain rfl := Option.some.inj h
                refine ⟨Or.inr rfl, _, _, _, (resVs_cons (ResV.tmp _ _ rfl) resVs_nil), (pubA_id rfl), ?_⟩
                rfl
            · replace h := ite_f hc h
              clear hc
              refine soff rfl rfl rfl rfl ?_
              refine sv rfl (opv_pick_f rfl rfl) ?_
              refine sv rfl (opv_mv rfl) ?_
              refine soff rfl rfl rfl rfl ?_
              refine soff rfl rfl rfl rfl ?_
              refine soff rfl rfl rfl rfl ?_
              refine sv rfl (opv_pick_f rfl rfl) ?_
              refine sv rfl (opv_mv rfl) ?_
              refine soff rfl rfl rfl rfl ?_
              refine soff rfl rfl rfl rfl ?_
              refine soff rfl rfl rfl rfl ?_
              refine sv rfl (opv_pick_f rfl rfl) ?_
              refine sv rfl (opv_mv rfl) ?_
              refine soff rfl rfl rfl rfl ?_
              refine soff rfl rfl rfl rfl ?_
              refine soff rfl rfl rfl rfl ?_
              refine sv rfl (opv_pick_f rfl rfl) ?_
              refine sv rfl (opv_as rfl) ?_
              refine snil ?_
              refine cret ?_
              obtain rfl := Option.some.inj h
              refine ⟨Or.inr rfl, _, _, _, (resVs_cons (ResV.tmp _ _ rfl) resVs_nil), (pubA_id rfl), ?_⟩
              rfl
          · replace h := ite_f hc h
            clear hc
            refine soff rfl rfl rfl rfl ?_
            refine soff rfl rfl rfl rfl ?_
            refine sv rfl (opv_pick_f rfl rfl) ?_
            refine sv rfl (opv_mv rfl) ?_
            refine soff rfl rfl rfl rfl ?_
            refine sv rfl (opv_pick_f rfl rfl) ?_
            refine sv rfl (opv_mv rfl) ?_
            refine soff rfl rfl rfl rfl ?_
            refine soff rfl rfl rfl rfl ?_
            refine soff rfl rfl rfl rfl ?_
            refine sv rfl (opv_pick_f rfl rfl) ?_
            refine sv rfl (opv_mv rfl) ?_
            refine soff rfl rfl rfl rfl ?_
            refine soff rfl rfl rfl rfl ?_
            refine soff rfl rfl rfl rfl ?_
            refine sv rfl (opv_pick_f rfl rfl) ?_
            refine sv rfl (opv_mv rfl) ?_
            refine soff rfl rfl rfl rfl ?_
            refine soff rfl rfl rfl rfl ?_
            refine soff rfl rfl rfl rfl ?_
            refine sv rfl (opv_pick_f rfl rfl) ?_
            refine sv rfl (opv_as rfl) ?_
            refine snil ?_
            refine cret ?_
            obtain rfl := Option.some.inj h
            refine ⟨Or.inr rfl, _, _, _, (resVs_cons (ResV.tmp _ _ rfl) resVs_nil), (pubA_id rfl), ?_⟩
            rfl
        · skip
          refine cblock ?_
          obtain ⟨x8, hx8, ho8⟩ := bind_eq h
          refine awc_loop (G := Nat × (Int × (List GSsiTx) × (List GReadsRead))) (fun g => [(1, .s (.one (.sl a1.length (a1.flatMap eGApiRange)))), (5, .s (.one (.b v1))), (6, .s (.one (.lp 0 0))), (8, .s (.one (.lp 4 0))), (10, .s (.one (.i .i64 g.2.1)))]) (fun g => [.box [.sl b3.1.length (b3.1.flatMap eGSsiTx), .sl b3.2.1.length (b3.2.1.flatMap eGReadsRead), .i .i64 b3.2.2.1, .ls 1 b3.2.2.2.1.length, .ls 2 b3.2.2.2.2.1.length, .ls 3 b3.2.2.2.2.2.length], .arr 3 1 0 (b3.2.2.2.1.flatMap eI), .arr 46 8 0 (b3.2.2.2.2.1.flatMap eGR11Tx), .arr 76 4 0 (b3.2.2.2.2.2.flatMap eGR10Read), .box [.sl g.2.2.1.length (g.2.2.1.flatMap eGSsiTx), .sl g.2.2.2.length (g.2.2.2.flatMap eGReadsRead)]]) (fun g => iter (m8_l11_SsiReaders_s8 a1 v1) g.1 g.2 = some x8) (fun g => g.1) (fuel, (0, v4.1.Txs, v4.1.Reads.L)) hx8 ⟨rfl, rfl, rfl, rfl, rfl, trivial⟩ [] rfl (fun _ _ => inbL_of rfl) (fun _ _ => blkinb_of rfl) (fun _ _ => Nat.le_of_ble_eq_true rfl) ?_
          clear hx8 h
          rintro ⟨n8, s8⟩ h
          obtain ⟨n8, y8, rfl, h, hk8⟩ := iter_eq h
          unfold m8_l11_SsiReaders_s8 at h
          refine cseq ?_
          refine cseq ?_
          refine cregion ?_
          refine sv rfl (opv_mv rfl) ?_
          refine sv rfl (opv_mv rfl) ?_
          refine sv rfl (opv_len_sl si50 rfl) ?_
          refine sv rfl (opv_lss rfl rfl) ?_
          refine snil ?_
          refine ccond rfl (fun hc => ?_) (fun hc => ?_)
          · replace h := ite_t hc h
            clear hc
            refine cskip ?_
            refine then_normal ?_
            refine cseq ?_
            refine cblock ?_
            refine cseq ?_
            refine cseq ?_
            refine cregion ?_
            refine sv rfl (opv_mv rfl) ?_
            refine sv rfl (opv_mv rfl) ?_
            obtain ⟨u9, hu9, h⟩ := bind_eq h
            refine sv rfl (opv_ix (f := eGApiRange) si50 (fun _ => rfl) rfl rfl rfl rfl hu9) ?_
            refine sv rfl (opv_loadNe (ys := [.sl u9.Lo.length (u9.Lo.flatMap eU8), .sl u9.Hi.length (u9.Hi.flatMap eU8), .b u9.Open]) ti40 rfl (.cp _) rfl rfl) ?_
            refine sv rfl (opv_build zi43 pi43 (parts_cons rfl parts_nil) (.cons _ _ _ _ _ _ _ rfl rfl (Nat.le_of_ble_eq_true rfl) (.nil _))) ?_
            refine spub 70 rfl (by (repeat' first | exact PubA.nil _ | apply PubA.cons | apply PubV.one | apply PubV.agg | exact PubL.nil | exact PubL.ls _ _ _ _ _ _ rfl (flat_len (f := eGR10Read) (fun _ => rfl) _).symm | exact PubL.ls _ _ _ _ _ _ rfl (flat_len (f := eGR11Tx) (fun _ => rfl) _).symm | exact PubL.ls _ _ _ _ _ _ rfl (flat_len (f := eI) (fun _ => rfl) _).symm | exact PubL.id _ rfl | exact PubLs.nil _ | apply PubLs.cons)) ?_
            refine sbuild1 rfl Try.underlying22 ei43 rfl rfl (List.all_eq_true.1 rfl) (by decide) ?_
            refine smem [.box [.sl b3.1.length (b3.1.flatMap eGSsiTx), .sl b3.2.1.length (b3.2.1.flatMap eGReadsRead), .i .i64 b3.2.2.1, .ls 1 b3.2.2.2.1.length, .ls 2 b3.2.2.2.2.1.length, .ls 3 b3.2.2.2.2.2.length], .arr 3 1 0 (b3.2.2.2.1.flatMap eI), .arr 46 8 0 (b3.2.2.2.2.1.flatMap eGR11Tx), .arr 76 4 0 (b3.2.2.2.2.2.flatMap eGR10Read), .box [.sl s8.2.1.length (s8.2.1.flatMap eGSsiTx), .sl s8.2.2.length (s8.2.2.flatMap eGReadsRead)], .arr 43 7 0 ([(GL11Act.mk 0 0 false u9 ([] : List (List UInt8)))].flatMap eGL11Act)] rfl ?_
            refine spub 71 rfl (by (repeat' first | exact PubA.nil _ | apply PubA.cons | apply PubV.one | apply PubV.agg | exact PubL.nil | exact PubL.ls _ _ _ _ _ _ rfl (flat_len (f := eGL11Act) (fun _ => rfl) ([(GL11Act.mk 0 0 false u9 ([] : List (List UInt8)))] : List GL11Act)).symm | exact PubL.ls _ _ _ _ _ _ rfl (flat_len (f := eGL11Act) (fun _ => rfl) _).symm | exact PubL.ls _ _ _ _ _ _ rfl (flat_len (f := eGR10Read) (fun _ => rfl) _).symm | exact PubL.ls _ _ _ _ _ _ rfl (flat_len (f := eGR11Tx) (fun _ => rfl) _).symm | exact PubL.ls _ _ _ _ _ _ rfl (flat_len (f := eI) (fun _ => rfl) _).symm | exact PubL.id _ rfl | exact PubLs.nil _ | apply PubLs.cons)) ?_
            obtain ⟨v10, hv10, h⟩ := bind_eq h
            refine scall1 rfl fn10 (opnds_cons rfl opnds_nil) (pubA_id rfl) (m10_l11_small_c hv10) ?_
            refine sv rfl (opv_not rfl) ?_
            refine snil ?_
            refine ccond rfl (fun hc => ?_) (fun hc => ?_)
            · replace h := ite_t hc h
              clear hc
              refine cseq ?_
              refine cregion ?_
              refine sv rfl (opv_mv rfl) ?_
              refine sv rfl (opv_as rfl) ?_
              refine snil ?_
              refine cret ?_
              refine then_ret ?_
              refine block_ret ?_
              refine then_ret ?_
              refine then_ret ?_
              refine block_ret ?_
              refine then_ret ?_
              obtain rfl := Option.some.inj h
              obtain rfl : Sum.inl _ = x8 := hk8
              replace ho8 : some _ = some _ := ho8
              obtain rfl := Option.some.inj ho8
              refine ⟨Or.inr rfl, _, _, _, (resVs_cons (ResV.tmp _ _ rfl) resVs_nil), (pubA_id rfl), ?_⟩
              rfl
            · replace h := ite_f hc h
              clear hc
              refine cskip ?_
              refine then_normal ?_
              refine cseq ?_
              refine chole ?_
              obtain ⟨u11, hu11, h⟩ := bind_eq h
              obtain ⟨v12, hv12, h⟩ := bind_eq h
              refine cdraw_e [9, 10] [0, 0, 0, 6, 14, 31, 63, 127, 127, 0, 767, 2047] [[.box [.sl b3.1.length (b3.1.flatMap eGSsiTx), .sl b3.2.1.length (b3.2.1.flatMap eGReadsRead), .i .i64 b3.2.2.1, .ls 1 b3.2.2.2.1.length, .ls 2 b3.2.2.2.2.1.length, .ls 3 b3.2.2.2.2.2.length], .arr 3 1 0 (b3.2.2.2.1.flatMap eI), .arr 46 8 0 (b3.2.2.2.2.1.flatMap eGR11Tx), .arr 76 4 0 (b3.2.2.2.2.2.flatMap eGR10Read), .box [.sl s8.2.1.length (s8.2.1.flatMap eGSsiTx), .sl s8.2.2.length (s8.2.2.flatMap eGReadsRead)], .arr 43 7 ([(GL11Act.mk 0 0 false u9 ([] : List (List UInt8)))].flatMap eGL11Act).length ([(GL11Act.mk 0 0 false u9 ([] : List (List UInt8)))].flatMap eGL11Act), .hole], [.box [.sl b3.1.length (b3.1.flatMap eGSsiTx), .sl b3.2.1.length (b3.2.1.flatMap eGReadsRead), .i .i64 b3.2.2.1, .ls 1 b3.2.2.2.1.length, .ls 2 b3.2.2.2.2.1.length, .ls 3 b3.2.2.2.2.2.length], .arr 3 1 0 (b3.2.2.2.1.flatMap eI), .arr 46 8 0 (b3.2.2.2.2.1.flatMap eGR11Tx), .arr 76 4 0 (b3.2.2.2.2.2.flatMap eGR10Read), .box [.sl s8.2.1.length (s8.2.1.flatMap eGSsiTx), .sl s8.2.2.length (s8.2.2.flatMap eGReadsRead)], .arr 43 7 ([(GL11Act.mk 0 0 false u9 ([] : List (List UInt8)))].flatMap eGL11Act).length ([(GL11Act.mk 0 0 false u9 ([] : List (List UInt8)))].flatMap eGL11Act), .box [.raw (.slice none 0 0), .raw (.slice none 0 0)]], [.box [.sl b3.1.length (b3.1.flatMap eGSsiTx), .sl b3.2.1.length (b3.2.1.flatMap eGReadsRead), .i .i64 b3.2.2.1, .ls 1 b3.2.2.2.1.length, .ls 2 b3.2.2.2.2.1.length, .ls 3 b3.2.2.2.2.2.length], .arr 3 1 0 (b3.2.2.2.1.flatMap eI), .arr 46 8 0 (b3.2.2.2.2.1.flatMap eGR11Tx), .arr 76 4 0 (b3.2.2.2.2.2.flatMap eGR10Read), .box [.sl s8.2.1.length (s8.2.1.flatMap eGSsiTx), .sl s8.2.2.length (s8.2.2.flatMap eGReadsRead)], .arr 43 7 ([(GL11Act.mk 0 0 false u9 ([] : List (List UInt8)))].flatMap eGL11Act).length ([(GL11Act.mk 0 0 false u9 ([] : List (List UInt8)))].flatMap eGL11Act), .box v12.1]] (by kernel_rfl) mixed (by kernel_rfl) (by decide) rfl rfl rfl rfl ?_
              refine ev (sees_all (md := [.box [.sl b3.1.length (b3.1.flatMap eGSsiTx), .sl b3.2.1.length (b3.2.1.flatMap eGReadsRead), .i .i64 b3.2.2.1, .ls 1 b3.2.2.2.1.length, .ls 2 b3.2.2.2.2.1.length, .ls 3 b3.2.2.2.2.2.length], .arr 3 1 0 (b3.2.2.2.1.flatMap eI), .arr 46 8 0 (b3.2.2.2.2.1.flatMap eGR11Tx), .arr 76 4 0 (b3.2.2.2.2.2.flatMap eGR10Read), .box [.sl s8.2.1.length (s8.2.1.flatMap eGSsiTx), .sl s8.2.2.length (s8.2.2.flatMap eGReadsRead)], .arr 43 7 ([(GL11Act.mk 0 0 false u9 ([] : List (List UInt8)))].flatMap eGL11Act).length ([(GL11Act.mk 0 0 false u9 ([] : List (List UInt8)))].flatMap eGL11Act), .dead]) ⟨⟨rfl, ⟨rfl, ⟨rfl, ⟨rfl, ⟨rfl, ⟨rfl, ⟨trivial, trivial⟩⟩⟩⟩⟩⟩⟩, ⟨⟨rfl, ⟨rfl, ⟨rfl, ⟨rfl, ⟨rfl, ⟨rfl, ⟨trivial, trivial⟩⟩⟩⟩⟩⟩⟩, ⟨⟨rfl, ⟨rfl, ⟨rfl, ⟨rfl, ⟨rfl, ⟨rfl, ⟨trivial, trivial⟩⟩⟩⟩⟩⟩⟩, trivial⟩⟩⟩) rfl rfl (opv_loadN ti31 rfl (.lp _ _ _ rfl) (Nat.le_of_ble_eq_true rfl)) ?_
              refine emv rfl rfl (fun _ => opv_mv rfl) ?_
              refine emv rfl rfl (fun _ => opv_mv rfl) ?_
              refine ev (sees_all (md := [.box [.sl b3.1.length (b3.1.flatMap eGSsiTx), .sl b3.2.1.length (b3.2.1.flatMap eGReadsRead), .i .i64 b3.2.2.1, .ls 1 b3.2.2.2.1.length, .ls 2 b3.2.2.2.2.1.length, .ls 3 b3.2.2.2.2.2.length], .arr 3 1 0 (b3.2.2.2.1.flatMap eI), .arr 46 8 0 (b3.2.2.2.2.1.flatMap eGR11Tx), .arr 76 4 0 (b3.2.2.2.2.2.flatMap eGR10Read), .box [.sl s8.2.1.length (s8.2.1.flatMap eGSsiTx), .sl s8.2.2.length (s8.2.2.flatMap eGReadsRead)], .arr 43 7 ([(GL11Act.mk 0 0 false u9 ([] : List (List UInt8)))].flatMap eGL11Act).length ([(GL11Act.mk 0 0 false u9 ([] : List (List UInt8)))].flatMap eGL11Act), .dead]) ⟨⟨rfl, ⟨rfl, ⟨rfl, ⟨rfl, ⟨rfl, ⟨rfl, ⟨trivial, trivial⟩⟩⟩⟩⟩⟩⟩, ⟨⟨rfl, ⟨rfl, ⟨rfl, ⟨rfl, ⟨rfl, ⟨rfl, ⟨trivial, trivial⟩⟩⟩⟩⟩⟩⟩, ⟨⟨rfl, ⟨rfl, ⟨rfl, ⟨rfl, ⟨rfl, ⟨rfl, ⟨trivial, trivial⟩⟩⟩⟩⟩⟩⟩, trivial⟩⟩⟩) rfl rfl (opv_ix (f := eGApiRange) si50 (fun _ => rfl) rfl rfl rfl rfl hu11) ?_
              refine ev (sees_all (md := [.box [.sl b3.1.length (b3.1.flatMap eGSsiTx), .sl b3.2.1.length (b3.2.1.flatMap eGReadsRead), .i .i64 b3.2.2.1, .ls 1 b3.2.2.2.1.length, .ls 2 b3.2.2.2.2.1.length, .ls 3 b3.2.2.2.2.2.length], .arr 3 1 0 (b3.2.2.2.1.flatMap eI), .arr 46 8 0 (b3.2.2.2.2.1.flatMap eGR11Tx), .arr 76 4 0 (b3.2.2.2.2.2.flatMap eGR10Read), .box [.sl s8.2.1.length (s8.2.1.flatMap eGSsiTx), .sl s8.2.2.length (s8.2.2.flatMap eGReadsRead)], .arr 43 7 ([(GL11Act.mk 0 0 false u9 ([] : List (List UInt8)))].flatMap eGL11Act).length ([(GL11Act.mk 0 0 false u9 ([] : List (List UInt8)))].flatMap eGL11Act), .dead]) ⟨⟨rfl, ⟨rfl, ⟨rfl, ⟨rfl, ⟨rfl, ⟨rfl, ⟨trivial, trivial⟩⟩⟩⟩⟩⟩⟩, ⟨⟨rfl, ⟨rfl, ⟨rfl, ⟨rfl, ⟨rfl, ⟨rfl, ⟨trivial, trivial⟩⟩⟩⟩⟩⟩⟩, ⟨⟨rfl, ⟨rfl, ⟨rfl, ⟨rfl, ⟨rfl, ⟨rfl, ⟨trivial, trivial⟩⟩⟩⟩⟩⟩⟩, trivial⟩⟩⟩) rfl rfl (opv_loadNe (ys := [.sl u11.Lo.length (u11.Lo.flatMap eU8), .sl u11.Hi.length (u11.Hi.flatMap eU8), .b u11.Open]) ti40 rfl (.cp _) rfl rfl) ?_
              refine ed (sees_all (md := [.box [.sl b3.1.length (b3.1.flatMap eGSsiTx), .sl b3.2.1.length (b3.2.1.flatMap eGReadsRead), .i .i64 b3.2.2.1, .ls 1 b3.2.2.2.1.length, .ls 2 b3.2.2.2.2.1.length, .ls 3 b3.2.2.2.2.2.length], .arr 3 1 0 (b3.2.2.2.1.flatMap eI), .arr 46 8 0 (b3.2.2.2.2.1.flatMap eGR11Tx), .arr 76 4 0 (b3.2.2.2.2.2.flatMap eGR10Read), .box [.sl s8.2.1.length (s8.2.1.flatMap eGSsiTx), .sl s8.2.2.length (s8.2.2.flatMap eGReadsRead)], .arr 43 7 ([(GL11Act.mk 0 0 false u9 ([] : List (List UInt8)))].flatMap eGL11Act).length ([(GL11Act.mk 0 0 false u9 ([] : List (List UInt8)))].flatMap eGL11Act), .dead]) ⟨⟨rfl, ⟨rfl, ⟨rfl, ⟨rfl, ⟨rfl, ⟨rfl, ⟨trivial, trivial⟩⟩⟩⟩⟩⟩⟩, ⟨⟨rfl, ⟨rfl, ⟨rfl, ⟨rfl, ⟨rfl, ⟨rfl, ⟨trivial, trivial⟩⟩⟩⟩⟩⟩⟩, ⟨⟨rfl, ⟨rfl, ⟨rfl, ⟨rfl, ⟨rfl, ⟨rfl, ⟨trivial, trivial⟩⟩⟩⟩⟩⟩⟩, trivial⟩⟩⟩) rfl rfl (opD_call fn19 (opnds_cons rfl (opnds_cons rfl (opnds_cons rfl opnds_nil))) rfl (m19_ssi_Read_c hv12)) ?_
              refine emv rfl rfl (fun _ => opv_mvt rfl) ?_
              refine ev (sees_all (md := [.box [.sl b3.1.length (b3.1.flatMap eGSsiTx), .sl b3.2.1.length (b3.2.1.flatMap eGReadsRead), .i .i64 b3.2.2.1, .ls 1 b3.2.2.2.1.length, .ls 2 b3.2.2.2.2.1.length, .ls 3 b3.2.2.2.2.2.length], .arr 3 1 0 (b3.2.2.2.1.flatMap eI), .arr 46 8 0 (b3.2.2.2.2.1.flatMap eGR11Tx), .arr 76 4 0 (b3.2.2.2.2.2.flatMap eGR10Read), .box [.sl s8.2.1.length (s8.2.1.flatMap eGSsiTx), .sl s8.2.2.length (s8.2.2.flatMap eGReadsRead)], .arr 43 7 ([(GL11Act.mk 0 0 false u9 ([] : List (List UInt8)))].flatMap eGL11Act).length ([(GL11Act.mk 0 0 false u9 ([] : List (List UInt8)))].flatMap eGL11Act), .dead]) ⟨⟨rfl, ⟨rfl, ⟨rfl, ⟨rfl, ⟨rfl, ⟨rfl, ⟨trivial, trivial⟩⟩⟩⟩⟩⟩⟩, ⟨⟨rfl, ⟨rfl, ⟨rfl, ⟨rfl, ⟨rfl, ⟨rfl, ⟨trivial, trivial⟩⟩⟩⟩⟩⟩⟩, ⟨⟨rfl, ⟨rfl, ⟨rfl, ⟨rfl, ⟨rfl, ⟨rfl, ⟨trivial, trivial⟩⟩⟩⟩⟩⟩⟩, trivial⟩⟩⟩) rfl rfl (opv_extract rfl rfl) ?_
              refine ev (sees_all (md := [.box [.sl b3.1.length (b3.1.flatMap eGSsiTx), .sl b3.2.1.length (b3.2.1.flatMap eGReadsRead), .i .i64 b3.2.2.1, .ls 1 b3.2.2.2.1.length, .ls 2 b3.2.2.2.2.1.length, .ls 3 b3.2.2.2.2.2.length], .arr 3 1 0 (b3.2.2.2.1.flatMap eI), .arr 46 8 0 (b3.2.2.2.2.1.flatMap eGR11Tx), .arr 76 4 0 (b3.2.2.2.2.2.flatMap eGR10Read), .box [.sl s8.2.1.length (s8.2.1.flatMap eGSsiTx), .sl s8.2.2.length (s8.2.2.flatMap eGReadsRead)], .arr 43 7 ([(GL11Act.mk 0 0 false u9 ([] : List (List UInt8)))].flatMap eGL11Act).length ([(GL11Act.mk 0 0 false u9 ([] : List (List UInt8)))].flatMap eGL11Act), .dead]) ⟨⟨rfl, ⟨rfl, ⟨rfl, ⟨rfl, ⟨rfl, ⟨rfl, ⟨trivial, trivial⟩⟩⟩⟩⟩⟩⟩, ⟨⟨rfl, ⟨rfl, ⟨rfl, ⟨rfl, ⟨rfl, ⟨rfl, ⟨trivial, trivial⟩⟩⟩⟩⟩⟩⟩, ⟨⟨rfl, ⟨rfl, ⟨rfl, ⟨rfl, ⟨rfl, ⟨rfl, ⟨trivial, trivial⟩⟩⟩⟩⟩⟩⟩, trivial⟩⟩⟩) rfl rfl (opv_extract rfl rfl) ?_
              refine ee (x := .s (.one (.lp 6 0))) 0 rfl rfl rfl rfl rfl (fun ζ => ?_) ?_
              · refine salloc_at 6 rfl zi31 rfl ?_
                exact eend
              refine ee0 1 rfl rfl rfl rfl (fun ζ => ?_) ?_
              · refine sstore sz31 rfl rfl rfl rfl (Nat.le_of_ble_eq_true rfl) ?_
                refine smem [.box [.sl b3.1.length (b3.1.flatMap eGSsiTx), .sl b3.2.1.length (b3.2.1.flatMap eGReadsRead), .i .i64 b3.2.2.1, .ls 1 b3.2.2.2.1.length, .ls 2 b3.2.2.2.2.1.length, .ls 3 b3.2.2.2.2.2.length], .arr 3 1 0 (b3.2.2.2.1.flatMap eI), .arr 46 8 0 (b3.2.2.2.2.1.flatMap eGR11Tx), .arr 76 4 0 (b3.2.2.2.2.2.flatMap eGR10Read), .box [.sl s8.2.1.length (s8.2.1.flatMap eGSsiTx), .sl s8.2.2.length (s8.2.2.flatMap eGReadsRead)], .arr 43 7 ([(GL11Act.mk 0 0 false u9 ([] : List (List UInt8)))].flatMap eGL11Act).length ([(GL11Act.mk 0 0 false u9 ([] : List (List UInt8)))].flatMap eGL11Act), .box v12.1] rfl ?_
                exact eend
              refine ev (sees_at 2 rfl rfl) rfl rfl (opv_as rfl) ?_
              refine enil ?_
              refine then_normal ?_
              refine cseq ?_
              refine cseq ?_
              refine cjoin3 (Unit) (fun b13 => [(1, .s (.one (.sl a1.length (a1.flatMap eGApiRange)))), (5, .s (.one (.b v1))), (6, .s (.one (.lp 0 0))), (8, .s (.one (.lp 4 0))), (10, .s (.one (.i .i64 s8.1))), (11, .s (.one (.lp 6 0))), (12, .s (.one (.i .i64 v12.2)))]) (fun b13 => [.box [.sl b3.1.length (b3.1.flatMap eGSsiTx), .sl b3.2.1.length (b3.2.1.flatMap eGReadsRead), .i .i64 b3.2.2.1, .ls 1 b3.2.2.2.1.length, .ls 2 b3.2.2.2.2.1.length, .ls 3 b3.2.2.2.2.2.length], .arr 3 1 0 (b3.2.2.2.1.flatMap eI), .arr 46 8 0 (b3.2.2.2.2.1.flatMap eGR11Tx), .arr 76 4 0 (b3.2.2.2.2.2.flatMap eGR10Read), .box [.sl s8.2.1.length (s8.2.1.flatMap eGSsiTx), .sl s8.2.2.length (s8.2.2.flatMap eGReadsRead)], .arr 43 7 ([(GL11Act.mk 0 0 false u9 ([] : List (List UInt8)))].flatMap eGL11Act).length ([(GL11Act.mk 0 0 false u9 ([] : List (List UInt8)))].flatMap eGL11Act), .box v12.1]) (fun b13 => m8_l11_SsiReaders_k13 s8 v12 b13 = some y8) (fun _ _ => inbL_of rfl) (fun _ _ => blkinb_of rfl) (fun _ _ => Nat.le_of_ble_eq_true rfl) (fun b13 h => ?_) ?_
              · unfold m8_l11_SsiReaders_k13 at h
                refine cseq ?_
                refine cregion ?_
                refine sv rfl (opv_mv rfl) ?_
                refine sv rfl (opv_ieql rfl rfl) ?_
                refine snil ?_
                refine ccond rfl (fun hc => ?_) (fun hc => ?_)
                · replace h := ite_t hc h
                  clear hc
                  refine cregion ?_
                  refine sv rfl (opv_loadN ti31 rfl (.lp _ _ _ rfl) (Nat.le_of_ble_eq_true rfl)) ?_
                  refine sstore sz31 rfl rfl rfl rfl (Nat.le_of_ble_eq_true rfl) ?_
                  refine smem [.box [.sl b3.1.length (b3.1.flatMap eGSsiTx), .sl b3.2.1.length (b3.2.1.flatMap eGReadsRead), .i .i64 b3.2.2.1, .ls 1 b3.2.2.2.1.length, .ls 2 b3.2.2.2.2.1.length, .ls 3 b3.2.2.2.2.2.length], .arr 3 1 0 (b3.2.2.2.1.flatMap eI), .arr 46 8 0 (b3.2.2.2.2.1.flatMap eGR11Tx), .arr 76 4 0 (b3.2.2.2.2.2.flatMap eGR10Read), .box v12.1, .arr 43 7 ([(GL11Act.mk 0 0 false u9 ([] : List (List UInt8)))].flatMap eGL11Act).length ([(GL11Act.mk 0 0 false u9 ([] : List (List UInt8)))].flatMap eGL11Act), .box v12.1] rfl ?_
                  refine snil0 ?_
                  refine block_normal ?_
                  refine then_normal ?_
                  refine cregion ?_
                  refine sv rfl (opv_mv rfl) ?_
                  refine sv rfl (opv_add rfl rfl) ?_
                  refine sv rfl (opv_as rfl) ?_
                  refine snil ?_
                  obtain rfl := Option.some.inj h
                  exact ⟨(n8, ((wI (s8.1 + 1)), v12.1.Txs, v12.1.Reads.L)), _, hk8, ⟨rfl, rfl, rfl, rfl, rfl, trivial⟩, rfl, Nat.lt_succ_self _⟩
                · replace h := ite_f hc h
                  clear hc
                  refine cskip ?_
                  refine block_normal ?_
                  refine then_normal ?_
                  refine cregion ?_
                  refine sv rfl (opv_mv rfl) ?_
                  refine sv rfl (opv_add rfl rfl) ?_
                  refine sv rfl (opv_as rfl) ?_
                  refine snil ?_
                  obtain rfl := Option.some.inj h
                  exact ⟨(n8, ((wI (s8.1 + 1)), s8.2.1, s8.2.2)), _, hk8, ⟨rfl, rfl, rfl, rfl, rfl, trivial⟩, rfl, Nat.lt_succ_self _⟩
              · skip
                refine cregion ?_
                refine sv rfl (opv_mv rfl) ?_
                refine sv rfl (opv_ineq rfl rfl) ?_
                refine sv rfl (opv_mv rfl) ?_
                refine ssplit 86 rfl (fun hc => ?_) (fun hc => ?_)
                · replace h := ite_t hc h
                  clear hc
                  refine son rfl rfl rfl ?_
                  refine sv rfl (opv_mv rfl) ?_
                  refine son rfl rfl rfl ?_
                  refine sv rfl (opv_ineq rfl rfl) ?_
                  refine sv rfl (opv_pick_t rfl rfl) ?_
                  refine sv rfl (opv_mv rfl) ?_
                  refine ssplit 90 rfl (fun hc => ?_) (fun hc => ?_)
                  · replace h := ite_t hc h
                    clear hc
                    refine son rfl rfl rfl ?_
                    refine sv rfl (opv_mv rfl) ?_
                    refine son rfl rfl rfl ?_
                    refine sv rfl (opv_ineq rfl rfl) ?_
                    refine sv rfl (opv_pick_t rfl rfl) ?_
                    refine snil ?_
                    refine ccond rfl (fun hc => ?_) (fun hc => ?_)
                    · replace h := ite_t hc h
                      clear hc
                      refine cseq ?_
                      refine cregion ?_
                      refine sv rfl (opv_as rfl) ?_
                      refine snil ?_
                      refine cret ?_
                      refine then_ret ?_
                      refine block_ret ?_
                      refine then_ret ?_
                      refine then_ret ?_
                      refine block_ret ?_
                      refine then_ret ?_
                      obtain rfl := Option.some.inj h
                      obtain rfl : Sum.inl _ = x8 := hk8
                      replace ho8 : some _ = some _ := ho8
                      obtain rfl := Option.some.inj ho8
                      refine ⟨Or.inr rfl, _, _, _, (resVs_cons (ResV.tmp _ _ rfl) resVs_nil), (pubA_id rfl), ?_⟩
                      rfl
                    · replace h := ite_f hc h
                      clear hc
                      refine cskip ?_
                      refine then_normal ?_
                      exact ⟨(), _, h, ⟨rfl, rfl, rfl, rfl, rfl, rfl, rfl, trivial⟩, rfl⟩
                  · replace h := ite_f hc h
                    clear hc
                    refine soff rfl rfl rfl rfl ?_
                    refine soff rfl rfl rfl rfl ?_
                    refine sv rfl (opv_pick_f rfl rfl) ?_
                    refine snil ?_
                    refine ccond rfl (fun hx => Bool.noConfusion hx) (fun _ => ?_)
                    refine cskip ?_
                    refine then_normal ?_
                    exact ⟨(), _, h, ⟨rfl, rfl, rfl, rfl, rfl, rfl, rfl, trivial⟩, rfl⟩
                · replace h := ite_f hc h
                  clear hc
                  refine soff rfl rfl rfl rfl ?_
                  refine soff rfl rfl rfl rfl ?_
                  refine sv rfl (opv_pick_f rfl rfl) ?_
                  refine sv rfl (opv_mv rfl) ?_
                  refine soff rfl rfl rfl rfl ?_
                  refine soff rfl rfl rfl rfl ?_
                  refine sv rfl (opv_pick_f rfl rfl) ?_
                  refine snil ?_
                  refine ccond rfl (fun hx => Bool.noConfusion hx) (fun _ => ?_)
                  refine cskip ?_
                  refine then_normal ?_
                  exact ⟨(), _, h, ⟨rfl, rfl, rfl, rfl, rfl, rfl, rfl, trivial⟩, rfl⟩
          · replace h := ite_f hc h
            clear hc
            refine cexit ?_
            refine then_exit ?_
            refine then_exit ?_
            refine block_hit ?_
            refine then_normal ?_
            obtain rfl := Option.some.inj h
            obtain rfl : _ = x8 := hk8
            exact ⟨(s8.2.1, s8.2.2), _, ho8, ⟨rfl, rfl, rfl, trivial⟩, rfl⟩
    · skip
      refine cblock ?_
      refine cpubbox 0 0 rfl rfl PubL.nil rfl ?_
      refine cpubbox 0 1 rfl rfl PubL.nil rfl ?_
      obtain ⟨x15, hx15, ho15⟩ := bind_eq h
      refine awc_loop (G := Nat × (Int × (List GSsiTx) × (List GReadsRead) × Int × (List Int) × (List GR11Tx) × (List GR10Read))) (fun g => [(0, .s (.one (.sl a0.length (a0.flatMap eGL11Act)))), (1, .s (.one (.sl a1.length (a1.flatMap eGApiRange)))), (5, .s (.one (.b v1))), (6, .s (.one (.lp 0 0))), (7, .s (.one (.i .i64 g.2.1)))]) (fun g => [.box [.sl g.2.2.1.length (g.2.2.1.flatMap eGSsiTx), .sl g.2.2.2.1.length (g.2.2.2.1.flatMap eGReadsRead), .i .i64 g.2.2.2.2.1, .ls 1 g.2.2.2.2.2.1.length, .ls 2 g.2.2.2.2.2.2.1.length, .ls 3 g.2.2.2.2.2.2.2.length], .arr 3 1 0 (g.2.2.2.2.2.1.flatMap eI), .arr 46 8 0 (g.2.2.2.2.2.2.1.flatMap eGR11Tx), .arr 76 4 0 (g.2.2.2.2.2.2.2.flatMap eGR10Read)]) (fun g => iterB (m8_l11_SsiReaders_s15 a0) g.1 g.2 = some x15) (fun g => g.1) (fuel, (0, ([] : List GSsiTx), ([] : List GReadsRead), 0, ([] : List Int), ([] : List GR11Tx), ([] : List GR10Read))) hx15 ⟨rfl, rfl, rfl, rfl, rfl, trivial⟩ [] rfl (fun _ _ => inbL_of rfl) (fun _ _ => blkinb_of rfl) (fun _ _ => Nat.le_of_ble_eq_true rfl) ?_
      clear hx15 h
      rintro ⟨n15, s15⟩ h
      obtain ⟨n15, y15, rfl, h, hk15⟩ := iterB_eq h
      unfold m8_l11_SsiReaders_s15 at h
      refine cseq ?_
      refine cseq ?_
      refine cregion ?_
      refine sv rfl (opv_mv rfl) ?_
      refine sv rfl (opv_mv rfl) ?_
      refine sv rfl (opv_len_sl si22 rfl) ?_
      refine sv rfl (opv_lss rfl rfl) ?_
      refine snil ?_
      refine ccond rfl (fun hc => ?_) (fun hc => ?_)
      · replace h := ite_t hc h
        clear hc
        refine cskip ?_
        refine then_normal ?_
        refine cseq ?_
        refine cblock ?_
        refine cregion ?_
        refine sv rfl (opv_mv rfl) ?_
        refine sv rfl (opv_mv rfl) ?_
        refine sv rfl (opv_mv rfl) ?_
        obtain ⟨u16, hu16, h⟩ := bind_eq h
        refine sv rfl (opv_ix (f := eGL11Act) si22 (fun _ => rfl) rfl rfl rfl rfl hu16) ?_
        refine sv rfl (opv_loadNe (ys := [.i .i64 u16.What, .i .i64 u16.N, .b u16.RO, .sl u16.Rng.Lo.length (u16.Rng.Lo.flatMap eU8), .sl u16.Rng.Hi.length (u16.Rng.Hi.flatMap eU8), .b u16.Rng.Open, .sl u16.Keys.length (u16.Keys.flatMap (eL eU8))]) ti43 rfl (.cp _) rfl rfl) ?_
        obtain ⟨v17, hv17, h⟩ := bind_eq h
        refine scallB (x' := .tup []) (M' := [.box [.sl v17.1.length (v17.1.flatMap eGSsiTx), .sl v17.2.1.length (v17.2.1.flatMap eGReadsRead), .i .i64 v17.2.2.1, .ls 1 v17.2.2.2.1.length, .ls 2 v17.2.2.2.2.1.length, .ls 3 v17.2.2.2.2.2.length], .arr 3 1 0 (v17.2.2.2.1.flatMap eI), .arr 46 8 0 (v17.2.2.2.2.1.flatMap eGR11Tx), .arr 76 4 0 (v17.2.2.2.2.2.flatMap eGR10Read)]) [0, 1, 2, 3] rfl fn11 (.func _) (opnds_cons rfl (opnds_cons rfl opnds_nil)) (m11_l11_world_dos_c hv17) rfl rfl (by decide) rfl rfl rfl ?_
        refine snil0 ?_
        refine block_normal ?_
        refine then_normal ?_
        refine cregion ?_
        refine sv rfl (opv_mv rfl) ?_
        refine sv rfl (opv_add rfl rfl) ?_
        refine sv rfl (opv_as rfl) ?_
        refine snil ?_
        obtain rfl := Option.some.inj h
        exact ⟨(n15, ((wI (s15.1 + 1)), v17.1, v17.2.1, v17.2.2.1, v17.2.2.2.1, v17.2.2.2.2.1, v17.2.2.2.2.2)), _, hk15, ⟨rfl, rfl, rfl, rfl, rfl, trivial⟩, rfl, Nat.lt_succ_self _⟩
      · replace h := ite_f hc h
        clear hc
        refine cexit ?_
        refine then_exit ?_
        refine then_exit ?_
        refine block_hit ?_
        refine then_normal ?_
        obtain rfl := Option.some.inj h
        obtain rfl : _ = x15 := hk15
        exact ⟨(s15.2.1, s15.2.2.1, s15.2.2.2.1, s15.2.2.2.2.1, s15.2.2.2.2.2.1, s15.2.2.2.2.2.2), _, ho15, ⟨rfl, rfl, rfl, trivial⟩, rfl⟩
  · skip
    refine cregion ?_
    refine sv rfl (opv_mv rfl) ?_
    obtain ⟨v19, hv19, h⟩ := bind_eq h
    refine scall1 rfl fn10 (opnds_cons rfl opnds_nil) (pubA_id rfl) (m10_l11_small_c hv19) ?_
    refine sv rfl (opv_not rfl) ?_
    refine sv rfl (opv_mv rfl) ?_
    refine ssplit 21 rfl (fun hc => ?_) (fun hc => ?_)
    · replace h := ite_t hc h
      clear hc
      refine soff rfl rfl rfl rfl ?_
      refine soff rfl rfl rfl rfl ?_
      refine soff rfl rfl rfl rfl ?_
      refine sv rfl (opv_pick_t rfl rfl) ?_
      refine snil ?_
      refine ccond rfl (fun _ => ?_) (fun hx => Bool.noConfusion hx)
      refine cseq ?_
      refine cregion ?_
      refine sv rfl (opv_mv rfl) ?_
      refine sv rfl (opv_as rfl) ?_
      refine snil ?_
      refine cret ?_
      refine then_ret ?_
      obtain rfl := Option.some.inj h
      refine ⟨Or.inr rfl, _, _, _, (resVs_cons (ResV.tmp _ _ rfl) resVs_nil), (pubA_id rfl), ?_⟩
      rfl
    · replace h := ite_f hc h
      clear hc
      refine son rfl rfl rfl ?_
      refine sv rfl (opv_mv rfl) ?_
      refine son rfl rfl rfl ?_
      refine sv rfl (opv_len_sl si50 rfl) ?_
      refine son rfl rfl rfl ?_
      refine sv rfl (opv_gtr rfl rfl) ?_
      refine sv rfl (opv_pick_f rfl rfl) ?_
      refine snil ?_
      refine ccond rfl (fun hc => ?_) (fun hc => ?_)
      · replace h := ite_t hc h
        clear hc
        refine cseq ?_
        refine cregion ?_
        refine sv rfl (opv_mv rfl) ?_
        refine sv rfl (opv_as rfl) ?_
        refine snil ?_
        refine cret ?_
        refine then_ret ?_
        obtain rfl := Option.some.inj h
        refine ⟨Or.inr rfl, _, _, _, (resVs_cons (ResV.tmp _ _ rfl) resVs_nil), (pubA_id rfl), ?_⟩
        rfl
      · replace h := ite_f hc h
        clear hc
        refine cskip ?_
        refine then_normal ?_
        exact ⟨(), _, h, ⟨rfl, rfl, rfl, trivial⟩, rfl⟩


end Go.Proofs.Ytbmciegldpeaiaa.Abs
