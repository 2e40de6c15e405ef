/-
  t
-/
import Derived.Test.YtlpanhfojeaamaaDoorT16a
namespace Go.Proofs.YtlpanhfojeaamaaDoor.Abs
open Go.RowKit Go.Proofs
def m16_pipe_Answer (a0 : GPipePipe) (a1 : GMsgReply) : Option (GPipePipe × GMsgReply × Int) :=
  (m27_pipe_Sane (GPipePipe.mk (GSeqsWindow.mk a0.Win.Base a0.Win.Bits) a0.Next a0.Wait a0.Past)).bind fun v1 => if (!v1) then (some ((GPipePipe.mk (GSeqsWindow.mk 0 (0#64)) 0 ([] : List GMsgReq) ([] : List GMsgReply)), (GMsgReply.mk 0 0 0 0 false ([] : List UInt8) ([] : List GApiKV)), 1)) else ((m19_pipe_Ready (GPipePipe.mk (GSeqsWindow.mk a0.Win.Base a0.Win.Bits) a0.Next a0.Wait a0.Past)).bind fun v2 => if (!v2.2) then (some ((GPipePipe.mk (GSeqsWindow.mk 0 (0#64)) 0 ([] : List GMsgReq) ([] : List GMsgReply)), (GMsgReply.mk 0 0 0 0 false ([] : List UInt8) ([] : List GApiKV)), 7)) else ((m38_msg_SaneReply (GMsgReply.mk v2.1.Kind v2.1.Seq a1.Code a1.N a1.Found a1.Val a1.List)).bind fun v3 => if (!v3) then (some ((GPipePipe.mk (GSeqsWindow.mk 0 (0#64)) 0 ([] : List GMsgReq) ([] : List GMsgReply)), (GMsgReply.mk 0 0 0 0 false ([] : List UInt8) ([] : List GApiKV)), 1)) else ((cut a0.Wait 1 (a0.Wait.length : Int)).bind fun c4 => (m39_slices_Clone c4).bind fun v5 => (m40_pipe_passed a0.Past (GMsgReply.mk v2.1.Kind v2.1.Seq a1.Code a1.N a1.Found a1.Val a1.List)).bind fun v6 => some ((GPipePipe.mk (GSeqsWindow.mk a0.Win.Base a0.Win.Bits) (wI (a0.Next + 1)) v5 v6), (GMsgReply.mk v2.1.Kind v2.1.Seq a1.Code a1.N a1.Found a1.Val a1.List), 0))))

set_option maxRecDepth 100000 in
theorem m16_pipe_Answer_c {a0 : GPipePipe} {a1 : GMsgReply} {r : GPipePipe × GMsgReply × Int} (h : m16_pipe_Answer a0 a1 = some r) : CallsA Tryd.prog 16 [.agg [.i .i64 a0.Win.Base, .i .u64 (a0.Win.Bits.toNat : Int), .i .i64 a0.Next, .sl a0.Wait.length (a0.Wait.flatMap eGMsgReq), .sl a0.Past.length (a0.Past.flatMap eGMsgReply)], .agg [.i .i64 a1.Kind, .i .i64 a1.Seq, .i .i64 a1.Code, .i .i64 a1.N, .b a1.Found, .sl a1.Val.length (a1.Val.flatMap eU8), .sl a1.List.length (a1.List.flatMap eGApiKV)]] (· = .tup [.agg [.i .i64 r.1.Win.Base, .i .u64 (r.1.Win.Bits.toNat : Int), .i .i64 r.1.Next, .sl r.1.Wait.length (r.1.Wait.flatMap eGMsgReq), .sl r.1.Past.length (r.1.Past.flatMap eGMsgReply)], .agg [.i .i64 r.2.1.Kind, .i .i64 r.2.1.Seq, .i .i64 r.2.1.Code, .i .i64 r.2.1.N, .b r.2.1.Found, .sl r.2.1.Val.length (r.2.1.Val.flatMap eU8), .sl r.2.1.List.length (r.2.1.List.flatMap eGApiKV)], .one (.i .i64 r.2.2)]) := by
  unfold m16_pipe_Answer at h
  refine callsA_of Tryd.func16 rfl (nt := 51) rfl (Nat.le_of_ble_eq_true rfl) ?_
  intro w0 S0
  refine cseq ?_
  refine cregion ?_
  refine sbox rfl rfl ?_
  refine sbox rfl rfl ?_
  refine salloc rfl zi46 ?_
  refine salloc rfl zi48 ?_
  refine sv rfl (opv_as rfl) ?_
  refine snil ?_
  refine cseq ?_
  refine cseq ?_
  refine cregion ?_
  refine sv rfl (opv_loadN ti46 rfl (.lp _ _ _ rfl) (Nat.le_of_ble_eq_true rfl)) ?_
  obtain ⟨v1, hv1, h⟩ := bind_eq h
  refine scall1 rfl fn27 (opnds_cons rfl opnds_nil) (pubA_id rfl) (m27_pipe_Sane_c hv1) ?_
  refine sv rfl (opv_not rfl) ?_
  refine snil ?_
  refine ccond rfl (fun hc => ?_) (fun hc => ?_)
  · replace h := ite_t hc h
    clear hc
    refine cseq ?_
    refine cregion ?_
    refine sv rfl (opv_build zi46 pi46 parts_nil (.nil _)) ?_
    refine sv rfl (opv_build zi48 pi48 parts_nil (.nil _)) ?_
    refine sstore sz46 rfl rfl rfl rfl (Nat.le_of_ble_eq_true rfl) ?_
    refine smem [.box [.i .i64 a0.Win.Base, .i .u64 (a0.Win.Bits.toNat : Int), .i .i64 a0.Next, .sl a0.Wait.length (a0.Wait.flatMap eGMsgReq), .sl a0.Past.length (a0.Past.flatMap eGMsgReply)], .box [.i .i64 a1.Kind, .i .i64 a1.Seq, .i .i64 a1.Code, .i .i64 a1.N, .b a1.Found, .sl a1.Val.length (a1.Val.flatMap eU8), .sl a1.List.length (a1.List.flatMap eGApiKV)], .box [.i .i64 0, .i .u64 ((0#64).toNat : Int), .i .i64 0, .raw (.slice none 0 0), .raw (.slice none 0 0)], .box [.i .i64 0, .i .i64 0, .i .i64 0, .i .i64 0, .b false, .raw (.slice none 0 0), .raw (.slice none 0 0)]] rfl ?_
    refine sstore sz48 rfl rfl rfl rfl (Nat.le_of_ble_eq_true rfl) ?_
    refine smem [.box [.i .i64 a0.Win.Base, .i .u64 (a0.Win.Bits.toNat : Int), .i .i64 a0.Next, .sl a0.Wait.length (a0.Wait.flatMap eGMsgReq), .sl a0.Past.length (a0.Past.flatMap eGMsgReply)], .box [.i .i64 a1.Kind, .i .i64 a1.Seq, .i .i64 a1.Code, .i .i64 a1.N, .b a1.Found, .sl a1.Val.length (a1.Val.flatMap eU8), .sl a1.List.length (a1.List.flatMap eGApiKV)], .box [.i .i64 0, .i .u64 ((0#64).toNat : Int), .i .i64 0, .raw (.slice none 0 0), .raw (.slice none 0 0)], .box [.i .i64 0, .i .i64 0, .i .i64 0, .i .i64 0, .b false, .raw (.slice none 0 0), .raw (.slice none 0 0)]] rfl ?_
    refine sv rfl (opv_as rfl) ?_
    refine snil ?_
    refine cret ?_
    refine then_ret ?_
    obtain rfl := Option.some.inj h
    refine ⟨Or.inr rfl, _, _, _, (resVs_cons (ResV.agg _ _ _ _ _ ti46 rfl (.lp _ _ _ rfl) (Nat.le_of_ble_eq_true rfl)) (resVs_cons (ResV.agg _ _ _ _ _ ti48 rfl (.lp _ _ _ rfl) (Nat.le_of_ble_eq_true rfl)) (resVs_cons (ResV.tmp _ _ rfl) resVs_nil))), (pubC rfl), ?_⟩
    rfl
  · replace h := ite_f hc h
    clear hc
    refine cskip ?_
    refine then_normal ?_
    refine cseq ?_
    refine cregion ?_
    refine sv rfl (opv_loadN ti46 rfl (.lp _ _ _ rfl) (Nat.le_of_ble_eq_true rfl)) ?_
    obtain ⟨v2, hv2, h⟩ := bind_eq h
    refine scall1 rfl fn19 (opnds_cons rfl opnds_nil) (pubA_id rfl) (m19_pipe_Ready_c hv2) ?_
    refine sv rfl (opv_mvt rfl) ?_
    refine sv rfl (opv_extract rfl rfl) ?_
    refine sv rfl (opv_extract rfl rfl) ?_
    refine salloc rfl zi51 ?_
    refine sstore sz51 rfl rfl rfl rfl (Nat.le_of_ble_eq_true rfl) ?_
    refine smem [.box [.i .i64 a0.Win.Base, .i .u64 (a0.Win.Bits.toNat : Int), .i .i64 a0.Next, .sl a0.Wait.length (a0.Wait.flatMap eGMsgReq), .sl a0.Past.length (a0.Past.flatMap eGMsgReply)], .box [.i .i64 a1.Kind, .i .i64 a1.Seq, .i .i64 a1.Code, .i .i64 a1.N, .b a1.Found, .sl a1.Val.length (a1.Val.flatMap eU8), .sl a1.List.length (a1.List.flatMap eGApiKV)], .box [.i .i64 0, .i .u64 ((0#64).toNat : Int), .i .i64 0, .raw (.slice none 0 0), .raw (.slice none 0 0)], .box [.i .i64 0, .i .i64 0, .i .i64 0, .i .i64 0, .b false, .raw (.slice none 0 0), .raw (.slice none 0 0)], .box [.i .i64 v2.1.Kind, .i .i64 v2.1.Seq, .i .i64 v2.1.Token, .i .i64 v2.1.Attempt, .b v2.1.RO, .sl v2.1.Key.length (v2.1.Key.flatMap eU8), .sl v2.1.Val.length (v2.1.Val.flatMap eU8), .sl v2.1.Rng.Lo.length (v2.1.Rng.Lo.flatMap eU8), .sl v2.1.Rng.Hi.length (v2.1.Rng.Hi.flatMap eU8), .b v2.1.Rng.Open]] rfl ?_
    refine sv rfl (opv_as rfl) ?_
    refine snil ?_
    refine cseq ?_
    refine cseq ?_
    refine cregion ?_
    refine sv rfl (opv_mv rfl) ?_
    refine sv rfl (opv_not rfl) ?_
    refine snil ?_
    refine ccond rfl (fun hc => ?_) (fun hc => ?_)
    · replace h := ite_t hc h
      clear hc
      refine cseq ?_
      refine cregion ?_
      refine sv rfl (opv_build zi46 pi46 parts_nil (.nil _)) ?_
      refine sv rfl (opv_build zi48 pi48 parts_nil (.nil _)) ?_
      refine sstore sz46 rfl rfl rfl rfl (Nat.le_of_ble_eq_true rfl) ?_
      refine smem [.box [.i .i64 a0.Win.Base, .i .u64 (a0.Win.Bits.toNat : Int), .i .i64 a0.Next, .sl a0.Wait.length (a0.Wait.flatMap eGMsgReq), .sl a0.Past.length (a0.Past.flatMap eGMsgReply)], .box [.i .i64 a1.Kind, .i .i64 a1.Seq, .i .i64 a1.Code, .i .i64 a1.N, .b a1.Found, .sl a1.Val.length (a1.Val.flatMap eU8), .sl a1.List.length (a1.List.flatMap eGApiKV)], .box [.i .i64 0, .i .u64 ((0#64).toNat : Int), .i .i64 0, .raw (.slice none 0 0), .raw (.slice none 0 0)], .box [.i .i64 0, .i .i64 0, .i .i64 0, .i .i64 0, .b false, .raw (.slice none 0 0), .raw (.slice none 0 0)], .box [.i .i64 v2.1.Kind, .i .i64 v2.1.Seq, .i .i64 v2.1.Token, .i .i64 v2.1.Attempt, .b v2.1.RO, .sl v2.1.Key.length (v2.1.Key.flatMap eU8), .sl v2.1.Val.length (v2.1.Val.flatMap eU8), .sl v2.1.Rng.Lo.length (v2.1.Rng.Lo.flatMap eU8), .sl v2.1.Rng.Hi.length (v2.1.Rng.Hi.flatMap eU8), .b v2.1.Rng.Open]] rfl ?_
      refine sstore sz48 rfl rfl rfl rfl (Nat.le_of_ble_eq_true rfl) ?_
      refine smem [.box [.i .i64 a0.Win.Base, .i .u64 (a0.Win.Bits.toNat : Int), .i .i64 a0.Next, .sl a0.Wait.length (a0.Wait.flatMap eGMsgReq), .sl a0.Past.length (a0.Past.flatMap eGMsgReply)], .box [.i .i64 a1.Kind, .i .i64 a1.Seq, .i .i64 a1.Code, .i .i64 a1.N, .b a1.Found, .sl a1.Val.length (a1.Val.flatMap eU8), .sl a1.List.length (a1.List.flatMap eGApiKV)], .box [.i .i64 0, .i .u64 ((0#64).toNat : Int), .i .i64 0, .raw (.slice none 0 0), .raw (.slice none 0 0)], .box [.i .i64 0, .i .i64 0, .i .i64 0, .i .i64 0, .b false, .raw (.slice none 0 0), .raw (.slice none 0 0)], .box [.i .i64 v2.1.Kind, .i .i64 v2.1.Seq, .i .i64 v2.1.Token, .i .i64 v2.1.Attempt, .b v2.1.RO, .sl v2.1.Key.length (v2.1.Key.flatMap eU8), .sl v2.1.Val.length (v2.1.Val.flatMap eU8), .sl v2.1.Rng.Lo.length (v2.1.Rng.Lo.flatMap eU8), .sl v2.1.Rng.Hi.length (v2.1.Rng.Hi.flatMap eU8), .b v2.1.Rng.Open]] rfl ?_
      refine sv rfl (opv_as rfl) ?_
      refine snil ?_
      refine cret ?_
      refine then_ret ?_
      obtain rfl := Option.some.inj h
      refine ⟨Or.inr rfl, _, _, _, (resVs_cons (ResV.agg _ _ _ _ _ ti46 rfl (.lp _ _ _ rfl) (Nat.le_of_ble_eq_true rfl)) (resVs_cons (ResV.agg _ _ _ _ _ ti48 rfl (.lp _ _ _ rfl) (Nat.le_of_ble_eq_true rfl)) (resVs_cons (ResV.tmp _ _ rfl) resVs_nil))), (pubC rfl), ?_⟩
      rfl
    · replace h := ite_f hc h
      clear hc
      refine cskip ?_
      refine then_normal ?_
      refine cseq ?_
      refine cdraw_e [5, 7] [0, 1, 0, 4, 3, 19, 63, 127] [[.box [.i .i64 a0.Win.Base, .i .u64 (a0.Win.Bits.toNat : Int), .i .i64 a0.Next, .sl a0.Wait.length (a0.Wait.flatMap eGMsgReq), .sl a0.Past.length (a0.Past.flatMap eGMsgReply)], .box [.i .i64 a1.Kind, .i .i64 a1.Seq, .i .i64 a1.Code, .i .i64 a1.N, .b a1.Found, .sl a1.Val.length (a1.Val.flatMap eU8), .sl a1.List.length (a1.List.flatMap eGApiKV)], .box [.i .i64 0, .i .u64 ((0#64).toNat : Int), .i .i64 0, .raw (.slice none 0 0), .raw (.slice none 0 0)], .box [.i .i64 0, .i .i64 0, .i .i64 0, .i .i64 0, .b false, .raw (.slice none 0 0), .raw (.slice none 0 0)], .box [.i .i64 v2.1.Kind, .i .i64 v2.1.Seq, .i .i64 v2.1.Token, .i .i64 v2.1.Attempt, .b v2.1.RO, .sl v2.1.Key.length (v2.1.Key.flatMap eU8), .sl v2.1.Val.length (v2.1.Val.flatMap eU8), .sl v2.1.Rng.Lo.length (v2.1.Rng.Lo.flatMap eU8), .sl v2.1.Rng.Hi.length (v2.1.Rng.Hi.flatMap eU8), .b v2.1.Rng.Open]], [.box [.i .i64 a0.Win.Base, .i .u64 (a0.Win.Bits.toNat : Int), .i .i64 a0.Next, .sl a0.Wait.length (a0.Wait.flatMap eGMsgReq), .sl a0.Past.length (a0.Past.flatMap eGMsgReply)], .box [.i .i64 v2.1.Kind, .i .i64 a1.Seq, .i .i64 a1.Code, .i .i64 a1.N, .b a1.Found, .sl a1.Val.length (a1.Val.flatMap eU8), .sl a1.List.length (a1.List.flatMap eGApiKV)], .box [.i .i64 0, .i .u64 ((0#64).toNat : Int), .i .i64 0, .raw (.slice none 0 0), .raw (.slice none 0 0)], .box [.i .i64 0, .i .i64 0, .i .i64 0, .i .i64 0, .b false, .raw (.slice none 0 0), .raw (.slice none 0 0)], .box [.i .i64 v2.1.Kind, .i .i64 v2.1.Seq, .i .i64 v2.1.Token, .i .i64 v2.1.Attempt, .b v2.1.RO, .sl v2.1.Key.length (v2.1.Key.flatMap eU8), .sl v2.1.Val.length (v2.1.Val.flatMap eU8), .sl v2.1.Rng.Lo.length (v2.1.Rng.Lo.flatMap eU8), .sl v2.1.Rng.Hi.length (v2.1.Rng.Hi.flatMap eU8), .b v2.1.Rng.Open]], [.box [.i .i64 a0.Win.Base, .i .u64 (a0.Win.Bits.toNat : Int), .i .i64 a0.Next, .sl a0.Wait.length (a0.Wait.flatMap eGMsgReq), .sl a0.Past.length (a0.Past.flatMap eGMsgReply)], .box [.i .i64 v2.1.Kind, .i .i64 v2.1.Seq, .i .i64 a1.Code, .i .i64 a1.N, .b a1.Found, .sl a1.Val.length (a1.Val.flatMap eU8), .sl a1.List.length (a1.List.flatMap eGApiKV)], .box [.i .i64 0, .i .u64 ((0#64).toNat : Int), .i .i64 0, .raw (.slice none 0 0), .raw (.slice none 0 0)], .box [.i .i64 0, .i .i64 0, .i .i64 0, .i .i64 0, .b false, .raw (.slice none 0 0), .raw (.slice none 0 0)], .box [.i .i64 v2.1.Kind, .i .i64 v2.1.Seq, .i .i64 v2.1.Token, .i .i64 v2.1.Attempt, .b v2.1.RO, .sl v2.1.Key.length (v2.1.Key.flatMap eU8), .sl v2.1.Val.length (v2.1.Val.flatMap eU8), .sl v2.1.Rng.Lo.length (v2.1.Rng.Lo.flatMap eU8), .sl v2.1.Rng.Hi.length (v2.1.Rng.Hi.flatMap eU8), .b v2.1.Rng.Open]]] (by kernel_rfl) mixed (by kernel_rfl) (by decide) rfl rfl rfl rfl ?_
      refine ev (sees_at 0 rfl rfl) rfl rfl (opv_fieldAddr_lp fi51_0 rfl) ?_
      refine ev (sees_at 0 rfl rfl) rfl rfl (opv_load1 ti3 rfl (.lp _ _ _ rfl) rfl) ?_
      refine ev (sees_all (md := [.box [.i .i64 a0.Win.Base, .i .u64 (a0.Win.Bits.toNat : Int), .i .i64 a0.Next, .sl a0.Wait.length (a0.Wait.flatMap eGMsgReq), .sl a0.Past.length (a0.Past.flatMap eGMsgReply)], .dead, .box [.i .i64 0, .i .u64 ((0#64).toNat : Int), .i .i64 0, .raw (.slice none 0 0), .raw (.slice none 0 0)], .box [.i .i64 0, .i .i64 0, .i .i64 0, .i .i64 0, .b false, .raw (.slice none 0 0), .raw (.slice none 0 0)], .box [.i .i64 v2.1.Kind, .i .i64 v2.1.Seq, .i .i64 v2.1.Token, .i .i64 v2.1.Attempt, .b v2.1.RO, .sl v2.1.Key.length (v2.1.Key.flatMap eU8), .sl v2.1.Val.length (v2.1.Val.flatMap eU8), .sl v2.1.Rng.Lo.length (v2.1.Rng.Lo.flatMap eU8), .sl v2.1.Rng.Hi.length (v2.1.Rng.Hi.flatMap eU8), .b v2.1.Rng.Open]]) ⟨⟨rfl, ⟨trivial, ⟨rfl, ⟨rfl, ⟨rfl, trivial⟩⟩⟩⟩⟩, ⟨⟨rfl, ⟨trivial, ⟨rfl, ⟨rfl, ⟨rfl, trivial⟩⟩⟩⟩⟩, ⟨⟨rfl, ⟨trivial, ⟨rfl, ⟨rfl, ⟨rfl, trivial⟩⟩⟩⟩⟩, trivial⟩⟩⟩) rfl rfl (opv_fieldAddr_lp fi51_1 rfl) ?_
      refine ev (sees_all (md := [.box [.i .i64 a0.Win.Base, .i .u64 (a0.Win.Bits.toNat : Int), .i .i64 a0.Next, .sl a0.Wait.length (a0.Wait.flatMap eGMsgReq), .sl a0.Past.length (a0.Past.flatMap eGMsgReply)], .dead, .box [.i .i64 0, .i .u64 ((0#64).toNat : Int), .i .i64 0, .raw (.slice none 0 0), .raw (.slice none 0 0)], .box [.i .i64 0, .i .i64 0, .i .i64 0, .i .i64 0, .b false, .raw (.slice none 0 0), .raw (.slice none 0 0)], .box [.i .i64 v2.1.Kind, .i .i64 v2.1.Seq, .i .i64 v2.1.Token, .i .i64 v2.1.Attempt, .b v2.1.RO, .sl v2.1.Key.length (v2.1.Key.flatMap eU8), .sl v2.1.Val.length (v2.1.Val.flatMap eU8), .sl v2.1.Rng.Lo.length (v2.1.Rng.Lo.flatMap eU8), .sl v2.1.Rng.Hi.length (v2.1.Rng.Hi.flatMap eU8), .b v2.1.Rng.Open]]) ⟨⟨rfl, ⟨trivial, ⟨rfl, ⟨rfl, ⟨rfl, trivial⟩⟩⟩⟩⟩, ⟨⟨rfl, ⟨trivial, ⟨rfl, ⟨rfl, ⟨rfl, trivial⟩⟩⟩⟩⟩, ⟨⟨rfl, ⟨trivial, ⟨rfl, ⟨rfl, ⟨rfl, trivial⟩⟩⟩⟩⟩, trivial⟩⟩⟩) rfl rfl (opv_load1 ti3 rfl (.lp _ _ _ rfl) rfl) ?_
      refine ev (sees_at 0 rfl rfl) rfl rfl (opv_fieldAddr_lp fi48_0 rfl) ?_
      refine ee0 0 rfl rfl rfl rfl (fun ζ => ?_) ?_
      · refine sstore sz3 rfl rfl rfl rfl (Nat.le_of_ble_eq_true rfl) ?_
        refine smem [.box [.i .i64 a0.Win.Base, .i .u64 (a0.Win.Bits.toNat : Int), .i .i64 a0.Next, .sl a0.Wait.length (a0.Wait.flatMap eGMsgReq), .sl a0.Past.length (a0.Past.flatMap eGMsgReply)], .box [.i .i64 v2.1.Kind, .i .i64 a1.Seq, .i .i64 a1.Code, .i .i64 a1.N, .b a1.Found, .sl a1.Val.length (a1.Val.flatMap eU8), .sl a1.List.length (a1.List.flatMap eGApiKV)], .box [.i .i64 0, .i .u64 ((0#64).toNat : Int), .i .i64 0, .raw (.slice none 0 0), .raw (.slice none 0 0)], .box [.i .i64 0, .i .i64 0, .i .i64 0, .i .i64 0, .b false, .raw (.slice none 0 0), .raw (.slice none 0 0)], .box [.i .i64 v2.1.Kind, .i .i64 v2.1.Seq, .i .i64 v2.1.Token, .i .i64 v2.1.Attempt, .b v2.1.RO, .sl v2.1.Key.length (v2.1.Key.flatMap eU8), .sl v2.1.Val.length (v2.1.Val.flatMap eU8), .sl v2.1.Rng.Lo.length (v2.1.Rng.Lo.flatMap eU8), .sl v2.1.Rng.Hi.length (v2.1.Rng.Hi.flatMap eU8), .b v2.1.Rng.Open]] rfl ?_
        exact eend
      refine ev (sees_at 1 rfl rfl) rfl rfl (opv_fieldAddr_lp fi48_1 rfl) ?_
      refine ee0 1 rfl rfl rfl rfl (fun ζ => ?_) ?_
      · refine sstore sz3 rfl rfl rfl rfl (Nat.le_of_ble_eq_true rfl) ?_
        refine smem [.box [.i .i64 a0.Win.Base, .i .u64 (a0.Win.Bits.toNat : Int), .i .i64 a0.Next, .sl a0.Wait.length (a0.Wait.flatMap eGMsgReq), .sl a0.Past.length (a0.Past.flatMap eGMsgReply)], .box [.i .i64 v2.1.Kind, .i .i64 v2.1.Seq, .i .i64 a1.Code, .i .i64 a1.N, .b a1.Found, .sl a1.Val.length (a1.Val.flatMap eU8), .sl a1.List.length (a1.List.flatMap eGApiKV)], .box [.i .i64 0, .i .u64 ((0#64).toNat : Int), .i .i64 0, .raw (.slice none 0 0), .raw (.slice none 0 0)], .box [.i .i64 0, .i .i64 0, .i .i64 0, .i .i64 0, .b false, .raw (.slice none 0 0), .raw (.slice none 0 0)], .box [.i .i64 v2.1.Kind, .i .i64 v2.1.Seq, .i .i64 v2.1.Token, .i .i64 v2.1.Attempt, .b v2.1.RO, .sl v2.1.Key.length (v2.1.Key.flatMap eU8), .sl v2.1.Val.length (v2.1.Val.flatMap eU8), .sl v2.1.Rng.Lo.length (v2.1.Rng.Lo.flatMap eU8), .sl v2.1.Rng.Hi.length (v2.1.Rng.Hi.flatMap eU8), .b v2.1.Rng.Open]] rfl ?_
        exact eend
      refine enil ?_
      refine then_normal ?_
      refine cseq ?_
      refine cseq ?_
      refine cregion ?_
      refine sv rfl (opv_loadN ti48 rfl (.lp _ _ _ rfl) (Nat.le_of_ble_eq_true rfl)) ?_
      obtain ⟨v3, hv3, h⟩ := bind_eq h
      refine scall1 rfl fn38 (opnds_cons rfl opnds_nil) (pubA_id rfl) (m38_msg_SaneReply_c hv3) ?_
      refine sv rfl (opv_not rfl) ?_
      refine snil ?_
      refine ccond rfl (fun hc => ?_) (fun hc => ?_)
      · replace h := ite_t hc h
        clear hc
        refine cseq ?_
        refine cregion ?_
        refine sv rfl (opv_build zi46 pi46 parts_nil (.nil _)) ?_
        refine sv rfl (opv_build zi48 pi48 parts_nil (.nil _)) ?_
        refine sstore sz46 rfl rfl rfl rfl (Nat.le_of_ble_eq_true rfl) ?_
        refine smem [.box [.i .i64 a0.Win.Base, .i .u64 (a0.Win.Bits.toNat : Int), .i .i64 a0.Next, .sl a0.Wait.length (a0.Wait.flatMap eGMsgReq), .sl a0.Past.length (a0.Past.flatMap eGMsgReply)], .box [.i .i64 v2.1.Kind, .i .i64 v2.1.Seq, .i .i64 a1.Code, .i .i64 a1.N, .b a1.Found, .sl a1.Val.length (a1.Val.flatMap eU8), .sl a1.List.length (a1.List.flatMap eGApiKV)], .box [.i .i64 0, .i .u64 ((0#64).toNat : Int), .i .i64 0, .raw (.slice none 0 0), .raw (.slice none 0 0)], .box [.i .i64 0, .i .i64 0, .i .i64 0, .i .i64 0, .b false, .raw (.slice none 0 0), .raw (.slice none 0 0)], .box [.i .i64 v2.1.Kind, .i .i64 v2.1.Seq, .i .i64 v2.1.Token, .i .i64 v2.1.Attempt, .b v2.1.RO, .sl v2.1.Key.length (v2.1.Key.flatMap eU8), .sl v2.1.Val.length (v2.1.Val.flatMap eU8), .sl v2.1.Rng.Lo.length (v2.1.Rng.Lo.flatMap eU8), .sl v2.1.Rng.Hi.length (v2.1.Rng.Hi.flatMap eU8), .b v2.1.Rng.Open]] rfl ?_
        refine sstore sz48 rfl rfl rfl rfl (Nat.le_of_ble_eq_true rfl) ?_
        refine smem [.box [.i .i64 a0.Win.Base, .i .u64 (a0.Win.Bits.toNat : Int), .i .i64 a0.Next, .sl a0.Wait.length (a0.Wait.flatMap eGMsgReq), .sl a0.Past.length (a0.Past.flatMap eGMsgReply)], .box [.i .i64 v2.1.Kind, .i .i64 v2.1.Seq, .i .i64 a1.Code, .i .i64 a1.N, .b a1.Found, .sl a1.Val.length (a1.Val.flatMap eU8), .sl a1.List.length (a1.List.flatMap eGApiKV)], .box [.i .i64 0, .i .u64 ((0#64).toNat : Int), .i .i64 0, .raw (.slice none 0 0), .raw (.slice none 0 0)], .box [.i .i64 0, .i .i64 0, .i .i64 0, .i .i64 0, .b false, .raw (.slice none 0 0), .raw (.slice none 0 0)], .box [.i .i64 v2.1.Kind, .i .i64 v2.1.Seq, .i .i64 v2.1.Token, .i .i64 v2.1.Attempt, .b v2.1.RO, .sl v2.1.Key.length (v2.1.Key.flatMap eU8), .sl v2.1.Val.length (v2.1.Val.flatMap eU8), .sl v2.1.Rng.Lo.length (v2.1.Rng.Lo.flatMap eU8), .sl v2.1.Rng.Hi.length (v2.1.Rng.Hi.flatMap eU8), .b v2.1.Rng.Open]] rfl ?_
        refine sv rfl (opv_as rfl) ?_
        refine snil ?_
        refine cret ?_
        refine then_ret ?_
        obtain rfl := Option.some.inj h
        refine ⟨Or.inr rfl, _, _, _, (resVs_cons (ResV.agg _ _ _ _ _ ti46 rfl (.lp _ _ _ rfl) (Nat.le_of_ble_eq_true rfl)) (resVs_cons (ResV.agg _ _ _ _ _ ti48 rfl (.lp _ _ _ rfl) (Nat.le_of_ble_eq_true rfl)) (resVs_cons (ResV.tmp _ _ rfl) resVs_nil))), (pubC rfl), ?_⟩
        rfl
      · replace h := ite_f hc h
        clear hc
        refine cskip ?_
        refine then_normal ?_
        refine cseq ?_
        refine chole ?_
        obtain ⟨c4, hc4, h⟩ := bind_eq h
        obtain ⟨v5, hv5, h⟩ := bind_eq h
        obtain ⟨v6, hv6, h⟩ := bind_eq h
        refine cdraw_e [14, 15] [0, 1, 0, 4, 12, 0, 32, 96, 224, 0, 512, 0, 4064, 8191, 0, 32767] [[.box [.i .i64 a0.Win.Base, .i .u64 (a0.Win.Bits.toNat : Int), .i .i64 a0.Next, .sl a0.Wait.length (a0.Wait.flatMap eGMsgReq), .sl a0.Past.length (a0.Past.flatMap eGMsgReply)], .box [.i .i64 v2.1.Kind, .i .i64 v2.1.Seq, .i .i64 a1.Code, .i .i64 a1.N, .b a1.Found, .sl a1.Val.length (a1.Val.flatMap eU8), .sl a1.List.length (a1.List.flatMap eGApiKV)], .box [.i .i64 0, .i .u64 ((0#64).toNat : Int), .i .i64 0, .raw (.slice none 0 0), .raw (.slice none 0 0)], .box [.i .i64 0, .i .i64 0, .i .i64 0, .i .i64 0, .b false, .raw (.slice none 0 0), .raw (.slice none 0 0)], .box [.i .i64 v2.1.Kind, .i .i64 v2.1.Seq, .i .i64 v2.1.Token, .i .i64 v2.1.Attempt, .b v2.1.RO, .sl v2.1.Key.length (v2.1.Key.flatMap eU8), .sl v2.1.Val.length (v2.1.Val.flatMap eU8), .sl v2.1.Rng.Lo.length (v2.1.Rng.Lo.flatMap eU8), .sl v2.1.Rng.Hi.length (v2.1.Rng.Hi.flatMap eU8), .b v2.1.Rng.Open], .hole], [.box [.i .i64 a0.Win.Base, .i .u64 (a0.Win.Bits.toNat : Int), .i .i64 a0.Next, .sl a0.Wait.length (a0.Wait.flatMap eGMsgReq), .sl a0.Past.length (a0.Past.flatMap eGMsgReply)], .box [.i .i64 v2.1.Kind, .i .i64 v2.1.Seq, .i .i64 a1.Code, .i .i64 a1.N, .b a1.Found, .sl a1.Val.length (a1.Val.flatMap eU8), .sl a1.List.length (a1.List.flatMap eGApiKV)], .box [.i .i64 0, .i .u64 ((0#64).toNat : Int), .i .i64 0, .raw (.slice none 0 0), .raw (.slice none 0 0)], .box [.i .i64 0, .i .i64 0, .i .i64 0, .i .i64 0, .b false, .raw (.slice none 0 0), .raw (.slice none 0 0)], .box [.i .i64 v2.1.Kind, .i .i64 v2.1.Seq, .i .i64 v2.1.Token, .i .i64 v2.1.Attempt, .b v2.1.RO, .sl v2.1.Key.length (v2.1.Key.flatMap eU8), .sl v2.1.Val.length (v2.1.Val.flatMap eU8), .sl v2.1.Rng.Lo.length (v2.1.Rng.Lo.flatMap eU8), .sl v2.1.Rng.Hi.length (v2.1.Rng.Hi.flatMap eU8), .b v2.1.Rng.Open], .box [.i .i64 0, .i .u64 ((0#64).toNat : Int), .i .i64 0, .raw (.slice none 0 0), .raw (.slice none 0 0)]], [.box [.i .i64 a0.Win.Base, .i .u64 (a0.Win.Bits.toNat : Int), .i .i64 a0.Next, .sl a0.Wait.length (a0.Wait.flatMap eGMsgReq), .sl a0.Past.length (a0.Past.flatMap eGMsgReply)], .box [.i .i64 v2.1.Kind, .i .i64 v2.1.Seq, .i .i64 a1.Code, .i .i64 a1.N, .b a1.Found, .sl a1.Val.length (a1.Val.flatMap eU8), .sl a1.List.length (a1.List.flatMap eGApiKV)], .box [.i .i64 0, .i .u64 ((0#64).toNat : Int), .i .i64 0, .raw (.slice none 0 0), .raw (.slice none 0 0)], .box [.i .i64 0, .i .i64 0, .i .i64 0, .i .i64 0, .b false, .raw (.slice none 0 0), .raw (.slice none 0 0)], .box [.i .i64 v2.1.Kind, .i .i64 v2.1.Seq, .i .i64 v2.1.Token, .i .i64 v2.1.Attempt, .b v2.1.RO, .sl v2.1.Key.length (v2.1.Key.flatMap eU8), .sl v2.1.Val.length (v2.1.Val.flatMap eU8), .sl v2.1.Rng.Lo.length (v2.1.Rng.Lo.flatMap eU8), .sl v2.1.Rng.Hi.length (v2.1.Rng.Hi.flatMap eU8), .b v2.1.Rng.Open], .box [.i .i64 a0.Win.Base, .i .u64 (a0.Win.Bits.toNat : Int), .i .i64 (wI (a0.Next + 1)), .sl v5.length (v5.flatMap eGMsgReq), .sl v6.length (v6.flatMap eGMsgReply)]]] (by kernel_rfl) mixed (by kernel_rfl) (by decide) rfl rfl rfl rfl ?_
        refine ev (sees_all (md := [.box [.i .i64 a0.Win.Base, .i .u64 (a0.Win.Bits.toNat : Int), .i .i64 a0.Next, .sl a0.Wait.length (a0.Wait.flatMap eGMsgReq), .sl a0.Past.length (a0.Past.flatMap eGMsgReply)], .box [.i .i64 v2.1.Kind, .i .i64 v2.1.Seq, .i .i64 a1.Code, .i .i64 a1.N, .b a1.Found, .sl a1.Val.length (a1.Val.flatMap eU8), .sl a1.List.length (a1.List.flatMap eGApiKV)], .box [.i .i64 0, .i .u64 ((0#64).toNat : Int), .i .i64 0, .raw (.slice none 0 0), .raw (.slice none 0 0)], .box [.i .i64 0, .i .i64 0, .i .i64 0, .i .i64 0, .b false, .raw (.slice none 0 0), .raw (.slice none 0 0)], .box [.i .i64 v2.1.Kind, .i .i64 v2.1.Seq, .i .i64 v2.1.Token, .i .i64 v2.1.Attempt, .b v2.1.RO, .sl v2.1.Key.length (v2.1.Key.flatMap eU8), .sl v2.1.Val.length (v2.1.Val.flatMap eU8), .sl v2.1.Rng.Lo.length (v2.1.Rng.Lo.flatMap eU8), .sl v2.1.Rng.Hi.length (v2.1.Rng.Hi.flatMap eU8), .b v2.1.Rng.Open], .dead]) ⟨⟨rfl, ⟨rfl, ⟨rfl, ⟨rfl, ⟨rfl, ⟨trivial, trivial⟩⟩⟩⟩⟩⟩, ⟨⟨rfl, ⟨rfl, ⟨rfl, ⟨rfl, ⟨rfl, ⟨trivial, trivial⟩⟩⟩⟩⟩⟩, ⟨⟨rfl, ⟨rfl, ⟨rfl, ⟨rfl, ⟨rfl, ⟨trivial, trivial⟩⟩⟩⟩⟩⟩, trivial⟩⟩⟩) rfl rfl (opv_fieldAddr_lp fi46_0 rfl) ?_
        refine ev (sees_all (md := [.box [.i .i64 a0.Win.Base, .i .u64 (a0.Win.Bits.toNat : Int), .i .i64 a0.Next, .sl a0.Wait.length (a0.Wait.flatMap eGMsgReq), .sl a0.Past.length (a0.Past.flatMap eGMsgReply)], .box [.i .i64 v2.1.Kind, .i .i64 v2.1.Seq, .i .i64 a1.Code, .i .i64 a1.N, .b a1.Found, .sl a1.Val.length (a1.Val.flatMap eU8), .sl a1.List.length (a1.List.flatMap eGApiKV)], .box [.i .i64 0, .i .u64 ((0#64).toNat : Int), .i .i64 0, .raw (.slice none 0 0), .raw (.slice none 0 0)], .box [.i .i64 0, .i .i64 0, .i .i64 0, .i .i64 0, .b false, .raw (.slice none 0 0), .raw (.slice none 0 0)], .box [.i .i64 v2.1.Kind, .i .i64 v2.1.Seq, .i .i64 v2.1.Token, .i .i64 v2.1.Attempt, .b v2.1.RO, .sl v2.1.Key.length (v2.1.Key.flatMap eU8), .sl v2.1.Val.length (v2.1.Val.flatMap eU8), .sl v2.1.Rng.Lo.length (v2.1.Rng.Lo.flatMap eU8), .sl v2.1.Rng.Hi.length (v2.1.Rng.Hi.flatMap eU8), .b v2.1.Rng.Open], .dead]) ⟨⟨rfl, ⟨rfl, ⟨rfl, ⟨rfl, ⟨rfl, ⟨trivial, trivial⟩⟩⟩⟩⟩⟩, ⟨⟨rfl, ⟨rfl, ⟨rfl, ⟨rfl, ⟨rfl, ⟨trivial, trivial⟩⟩⟩⟩⟩⟩, ⟨⟨rfl, ⟨rfl, ⟨rfl, ⟨rfl, ⟨rfl, ⟨trivial, trivial⟩⟩⟩⟩⟩⟩, trivial⟩⟩⟩) rfl rfl (opv_loadN ti42 rfl (.lp _ _ _ rfl) (Nat.le_of_ble_eq_true rfl)) ?_
        refine ev (sees_all (md := [.box [.i .i64 a0.Win.Base, .i .u64 (a0.Win.Bits.toNat : Int), .i .i64 a0.Next, .sl a0.Wait.length (a0.Wait.flatMap eGMsgReq), .sl a0.Past.length (a0.Past.flatMap eGMsgReply)], .box [.i .i64 v2.1.Kind, .i .i64 v2.1.Seq, .i .i64 a1.Code, .i .i64 a1.N, .b a1.Found, .sl a1.Val.length (a1.Val.flatMap eU8), .sl a1.List.length (a1.List.flatMap eGApiKV)], .box [.i .i64 0, .i .u64 ((0#64).toNat : Int), .i .i64 0, .raw (.slice none 0 0), .raw (.slice none 0 0)], .box [.i .i64 0, .i .i64 0, .i .i64 0, .i .i64 0, .b false, .raw (.slice none 0 0), .raw (.slice none 0 0)], .box [.i .i64 v2.1.Kind, .i .i64 v2.1.Seq, .i .i64 v2.1.Token, .i .i64 v2.1.Attempt, .b v2.1.RO, .sl v2.1.Key.length (v2.1.Key.flatMap eU8), .sl v2.1.Val.length (v2.1.Val.flatMap eU8), .sl v2.1.Rng.Lo.length (v2.1.Rng.Lo.flatMap eU8), .sl v2.1.Rng.Hi.length (v2.1.Rng.Hi.flatMap eU8), .b v2.1.Rng.Open], .dead]) ⟨⟨rfl, ⟨rfl, ⟨rfl, ⟨rfl, ⟨rfl, ⟨trivial, trivial⟩⟩⟩⟩⟩⟩, ⟨⟨rfl, ⟨rfl, ⟨rfl, ⟨rfl, ⟨rfl, ⟨trivial, trivial⟩⟩⟩⟩⟩⟩, ⟨⟨rfl, ⟨rfl, ⟨rfl, ⟨rfl, ⟨rfl, ⟨trivial, trivial⟩⟩⟩⟩⟩⟩, trivial⟩⟩⟩) rfl rfl (opv_fieldAddr_lp fi46_1 rfl) ?_
        refine ev (sees_all (md := [.box [.i .i64 a0.Win.Base, .i .u64 (a0.Win.Bits.toNat : Int), .i .i64 a0.Next, .sl a0.Wait.length (a0.Wait.flatMap eGMsgReq), .sl a0.Past.length (a0.Past.flatMap eGMsgReply)], .box [.i .i64 v2.1.Kind, .i .i64 v2.1.Seq, .i .i64 a1.Code, .i .i64 a1.N, .b a1.Found, .sl a1.Val.length (a1.Val.flatMap eU8), .sl a1.List.length (a1.List.flatMap eGApiKV)], .box [.i .i64 0, .i .u64 ((0#64).toNat : Int), .i .i64 0, .raw (.slice none 0 0), .raw (.slice none 0 0)], .box [.i .i64 0, .i .i64 0, .i .i64 0, .i .i64 0, .b false, .raw (.slice none 0 0), .raw (.slice none 0 0)], .box [.i .i64 v2.1.Kind, .i .i64 v2.1.Seq, .i .i64 v2.1.Token, .i .i64 v2.1.Attempt, .b v2.1.RO, .sl v2.1.Key.length (v2.1.Key.flatMap eU8), .sl v2.1.Val.length (v2.1.Val.flatMap eU8), .sl v2.1.Rng.Lo.length (v2.1.Rng.Lo.flatMap eU8), .sl v2.1.Rng.Hi.length (v2.1.Rng.Hi.flatMap eU8), .b v2.1.Rng.Open], .dead]) ⟨⟨rfl, ⟨rfl, ⟨rfl, ⟨rfl, ⟨rfl, ⟨trivial, trivial⟩⟩⟩⟩⟩⟩, ⟨⟨rfl, ⟨rfl, ⟨rfl, ⟨rfl, ⟨rfl, ⟨trivial, trivial⟩⟩⟩⟩⟩⟩, ⟨⟨rfl, ⟨rfl, ⟨rfl, ⟨rfl, ⟨rfl, ⟨trivial, trivial⟩⟩⟩⟩⟩⟩, trivial⟩⟩⟩) rfl rfl (opv_load1 ti3 rfl (.lp _ _ _ rfl) rfl) ?_
        refine ev (sees_all (md := [.box [.i .i64 a0.Win.Base, .i .u64 (a0.Win.Bits.toNat : Int), .i .i64 a0.Next, .sl a0.Wait.length (a0.Wait.flatMap eGMsgReq), .sl a0.Past.length (a0.Past.flatMap eGMsgReply)], .box [.i .i64 v2.1.Kind, .i .i64 v2.1.Seq, .i .i64 a1.Code, .i .i64 a1.N, .b a1.Found, .sl a1.Val.length (a1.Val.flatMap eU8), .sl a1.List.length (a1.List.flatMap eGApiKV)], .box [.i .i64 0, .i .u64 ((0#64).toNat : Int), .i .i64 0, .raw (.slice none 0 0), .raw (.slice none 0 0)], .box [.i .i64 0, .i .i64 0, .i .i64 0, .i .i64 0, .b false, .raw (.slice none 0 0), .raw (.slice none 0 0)], .box [.i .i64 v2.1.Kind, .i .i64 v2.1.Seq, .i .i64 v2.1.Token, .i .i64 v2.1.Attempt, .b v2.1.RO, .sl v2.1.Key.length (v2.1.Key.flatMap eU8), .sl v2.1.Val.length (v2.1.Val.flatMap eU8), .sl v2.1.Rng.Lo.length (v2.1.Rng.Lo.flatMap eU8), .sl v2.1.Rng.Hi.length (v2.1.Rng.Hi.flatMap eU8), .b v2.1.Rng.Open], .dead]) ⟨⟨rfl, ⟨rfl, ⟨rfl, ⟨rfl, ⟨rfl, ⟨trivial, trivial⟩⟩⟩⟩⟩⟩, ⟨⟨rfl, ⟨rfl, ⟨rfl, ⟨rfl, ⟨rfl, ⟨trivial, trivial⟩⟩⟩⟩⟩⟩, ⟨⟨rfl, ⟨rfl, ⟨rfl, ⟨rfl, ⟨rfl, ⟨trivial, trivial⟩⟩⟩⟩⟩⟩, trivial⟩⟩⟩) rfl rfl (opv_add rfl rfl) ?_
        refine ev (sees_all (md := [.box [.i .i64 a0.Win.Base, .i .u64 (a0.Win.Bits.toNat : Int), .i .i64 a0.Next, .sl a0.Wait.length (a0.Wait.flatMap eGMsgReq), .sl a0.Past.length (a0.Past.flatMap eGMsgReply)], .box [.i .i64 v2.1.Kind, .i .i64 v2.1.Seq, .i .i64 a1.Code, .i .i64 a1.N, .b a1.Found, .sl a1.Val.length (a1.Val.flatMap eU8), .sl a1.List.length (a1.List.flatMap eGApiKV)], .box [.i .i64 0, .i .u64 ((0#64).toNat : Int), .i .i64 0, .raw (.slice none 0 0), .raw (.slice none 0 0)], .box [.i .i64 0, .i .i64 0, .i .i64 0, .i .i64 0, .b false, .raw (.slice none 0 0), .raw (.slice none 0 0)], .box [.i .i64 v2.1.Kind, .i .i64 v2.1.Seq, .i .i64 v2.1.Token, .i .i64 v2.1.Attempt, .b v2.1.RO, .sl v2.1.Key.length (v2.1.Key.flatMap eU8), .sl v2.1.Val.length (v2.1.Val.flatMap eU8), .sl v2.1.Rng.Lo.length (v2.1.Rng.Lo.flatMap eU8), .sl v2.1.Rng.Hi.length (v2.1.Rng.Hi.flatMap eU8), .b v2.1.Rng.Open], .dead]) ⟨⟨rfl, ⟨rfl, ⟨rfl, ⟨rfl, ⟨rfl, ⟨trivial, trivial⟩⟩⟩⟩⟩⟩, ⟨⟨rfl, ⟨rfl, ⟨rfl, ⟨rfl, ⟨rfl, ⟨trivial, trivial⟩⟩⟩⟩⟩⟩, ⟨⟨rfl, ⟨rfl, ⟨rfl, ⟨rfl, ⟨rfl, ⟨trivial, trivial⟩⟩⟩⟩⟩⟩, trivial⟩⟩⟩) rfl rfl (opv_fieldAddr_lp fi46_2 rfl) ?_
        refine ev (sees_all (md := [.box [.i .i64 a0.Win.Base, .i .u64 (a0.Win.Bits.toNat : Int), .i .i64 a0.Next, .sl a0.Wait.length (a0.Wait.flatMap eGMsgReq), .sl a0.Past.length (a0.Past.flatMap eGMsgReply)], .box [.i .i64 v2.1.Kind, .i .i64 v2.1.Seq, .i .i64 a1.Code, .i .i64 a1.N, .b a1.Found, .sl a1.Val.length (a1.Val.flatMap eU8), .sl a1.List.length (a1.List.flatMap eGApiKV)], .box [.i .i64 0, .i .u64 ((0#64).toNat : Int), .i .i64 0, .raw (.slice none 0 0), .raw (.slice none 0 0)], .box [.i .i64 0, .i .i64 0, .i .i64 0, .i .i64 0, .b false, .raw (.slice none 0 0), .raw (.slice none 0 0)], .box [.i .i64 v2.1.Kind, .i .i64 v2.1.Seq, .i .i64 v2.1.Token, .i .i64 v2.1.Attempt, .b v2.1.RO, .sl v2.1.Key.length (v2.1.Key.flatMap eU8), .sl v2.1.Val.length (v2.1.Val.flatMap eU8), .sl v2.1.Rng.Lo.length (v2.1.Rng.Lo.flatMap eU8), .sl v2.1.Rng.Hi.length (v2.1.Rng.Hi.flatMap eU8), .b v2.1.Rng.Open], .dead]) ⟨⟨rfl, ⟨rfl, ⟨rfl, ⟨rfl, ⟨rfl, ⟨trivial, trivial⟩⟩⟩⟩⟩⟩, ⟨⟨rfl, ⟨rfl, ⟨rfl, ⟨rfl, ⟨rfl, ⟨trivial, trivial⟩⟩⟩⟩⟩⟩, ⟨⟨rfl, ⟨rfl, ⟨rfl, ⟨rfl, ⟨rfl, ⟨trivial, trivial⟩⟩⟩⟩⟩⟩, trivial⟩⟩⟩) rfl rfl (opv_load1 ti43 rfl (.lp _ _ _ rfl) rfl) ?_
        refine ev (sees_all (md := [.box [.i .i64 a0.Win.Base, .i .u64 (a0.Win.Bits.toNat : Int), .i .i64 a0.Next, .sl a0.Wait.length (a0.Wait.flatMap eGMsgReq), .sl a0.Past.length (a0.Past.flatMap eGMsgReply)], .box [.i .i64 v2.1.Kind, .i .i64 v2.1.Seq, .i .i64 a1.Code, .i .i64 a1.N, .b a1.Found, .sl a1.Val.length (a1.Val.flatMap eU8), .sl a1.List.length (a1.List.flatMap eGApiKV)], .box [.i .i64 0, .i .u64 ((0#64).toNat : Int), .i .i64 0, .raw (.slice none 0 0), .raw (.slice none 0 0)], .box [.i .i64 0, .i .i64 0, .i .i64 0, .i .i64 0, .b false, .raw (.slice none 0 0), .raw (.slice none 0 0)], .box [.i .i64 v2.1.Kind, .i .i64 v2.1.Seq, .i .i64 v2.1.Token, .i .i64 v2.1.Attempt, .b v2.1.RO, .sl v2.1.Key.length (v2.1.Key.flatMap eU8), .sl v2.1.Val.length (v2.1.Val.flatMap eU8), .sl v2.1.Rng.Lo.length (v2.1.Rng.Lo.flatMap eU8), .sl v2.1.Rng.Hi.length (v2.1.Rng.Hi.flatMap eU8), .b v2.1.Rng.Open], .dead]) ⟨⟨rfl, ⟨rfl, ⟨rfl, ⟨rfl, ⟨rfl, ⟨trivial, trivial⟩⟩⟩⟩⟩⟩, ⟨⟨rfl, ⟨rfl, ⟨rfl, ⟨rfl, ⟨rfl, ⟨trivial, trivial⟩⟩⟩⟩⟩⟩, ⟨⟨rfl, ⟨rfl, ⟨rfl, ⟨rfl, ⟨rfl, ⟨trivial, trivial⟩⟩⟩⟩⟩⟩, trivial⟩⟩⟩) rfl rfl (opv_cut (f := eGMsgReq) (lo := 1) (hi := (a0.Wait.length : Int)) si43 (fun _ => rfl) rfl rfl rfl (bound_some rfl (cut_eq hc4).1.1) (by exact rfl) hc4) ?_
        refine ed (sees_all (md := [.box [.i .i64 a0.Win.Base, .i .u64 (a0.Win.Bits.toNat : Int), .i .i64 a0.Next, .sl a0.Wait.length (a0.Wait.flatMap eGMsgReq), .sl a0.Past.length (a0.Past.flatMap eGMsgReply)], .box [.i .i64 v2.1.Kind, .i .i64 v2.1.Seq, .i .i64 a1.Code, .i .i64 a1.N, .b a1.Found, .sl a1.Val.length (a1.Val.flatMap eU8), .sl a1.List.length (a1.List.flatMap eGApiKV)], .box [.i .i64 0, .i .u64 ((0#64).toNat : Int), .i .i64 0, .raw (.slice none 0 0), .raw (.slice none 0 0)], .box [.i .i64 0, .i .i64 0, .i .i64 0, .i .i64 0, .b false, .raw (.slice none 0 0), .raw (.slice none 0 0)], .box [.i .i64 v2.1.Kind, .i .i64 v2.1.Seq, .i .i64 v2.1.Token, .i .i64 v2.1.Attempt, .b v2.1.RO, .sl v2.1.Key.length (v2.1.Key.flatMap eU8), .sl v2.1.Val.length (v2.1.Val.flatMap eU8), .sl v2.1.Rng.Lo.length (v2.1.Rng.Lo.flatMap eU8), .sl v2.1.Rng.Hi.length (v2.1.Rng.Hi.flatMap eU8), .b v2.1.Rng.Open], .dead]) ⟨⟨rfl, ⟨rfl, ⟨rfl, ⟨rfl, ⟨rfl, ⟨trivial, trivial⟩⟩⟩⟩⟩⟩, ⟨⟨rfl, ⟨rfl, ⟨rfl, ⟨rfl, ⟨rfl, ⟨trivial, trivial⟩⟩⟩⟩⟩⟩, ⟨⟨rfl, ⟨rfl, ⟨rfl, ⟨rfl, ⟨rfl, ⟨trivial, trivial⟩⟩⟩⟩⟩⟩, trivial⟩⟩⟩) rfl rfl (opD_call fn39 (opnds_cons rfl opnds_nil) rfl (m39_slices_Clone_c hv5)) ?_
        refine ev (sees_all (md := [.box [.i .i64 a0.Win.Base, .i .u64 (a0.Win.Bits.toNat : Int), .i .i64 a0.Next, .sl a0.Wait.length (a0.Wait.flatMap eGMsgReq), .sl a0.Past.length (a0.Past.flatMap eGMsgReply)], .box [.i .i64 v2.1.Kind, .i .i64 v2.1.Seq, .i .i64 a1.Code, .i .i64 a1.N, .b a1.Found, .sl a1.Val.length (a1.Val.flatMap eU8), .sl a1.List.length (a1.List.flatMap eGApiKV)], .box [.i .i64 0, .i .u64 ((0#64).toNat : Int), .i .i64 0, .raw (.slice none 0 0), .raw (.slice none 0 0)], .box [.i .i64 0, .i .i64 0, .i .i64 0, .i .i64 0, .b false, .raw (.slice none 0 0), .raw (.slice none 0 0)], .box [.i .i64 v2.1.Kind, .i .i64 v2.1.Seq, .i .i64 v2.1.Token, .i .i64 v2.1.Attempt, .b v2.1.RO, .sl v2.1.Key.length (v2.1.Key.flatMap eU8), .sl v2.1.Val.length (v2.1.Val.flatMap eU8), .sl v2.1.Rng.Lo.length (v2.1.Rng.Lo.flatMap eU8), .sl v2.1.Rng.Hi.length (v2.1.Rng.Hi.flatMap eU8), .b v2.1.Rng.Open], .dead]) ⟨⟨rfl, ⟨rfl, ⟨rfl, ⟨rfl, ⟨rfl, ⟨trivial, trivial⟩⟩⟩⟩⟩⟩, ⟨⟨rfl, ⟨rfl, ⟨rfl, ⟨rfl, ⟨rfl, ⟨trivial, trivial⟩⟩⟩⟩⟩⟩, ⟨⟨rfl, ⟨rfl, ⟨rfl, ⟨rfl, ⟨rfl, ⟨trivial, trivial⟩⟩⟩⟩⟩⟩, trivial⟩⟩⟩) rfl rfl (opv_fieldAddr_lp fi46_3 rfl) ?_
        refine ev (sees_all (md := [.box [.i .i64 a0.Win.Base, .i .u64 (a0.Win.Bits.toNat : Int), .i .i64 a0.Next, .sl a0.Wait.length (a0.Wait.flatMap eGMsgReq), .sl a0.Past.length (a0.Past.flatMap eGMsgReply)], .box [.i .i64 v2.1.Kind, .i .i64 v2.1.Seq, .i .i64 a1.Code, .i .i64 a1.N, .b a1.Found, .sl a1.Val.length (a1.Val.flatMap eU8), .sl a1.List.length (a1.List.flatMap eGApiKV)], .box [.i .i64 0, .i .u64 ((0#64).toNat : Int), .i .i64 0, .raw (.slice none 0 0), .raw (.slice none 0 0)], .box [.i .i64 0, .i .i64 0, .i .i64 0, .i .i64 0, .b false, .raw (.slice none 0 0), .raw (.slice none 0 0)], .box [.i .i64 v2.1.Kind, .i .i64 v2.1.Seq, .i .i64 v2.1.Token, .i .i64 v2.1.Attempt, .b v2.1.RO, .sl v2.1.Key.length (v2.1.Key.flatMap eU8), .sl v2.1.Val.length (v2.1.Val.flatMap eU8), .sl v2.1.Rng.Lo.length (v2.1.Rng.Lo.flatMap eU8), .sl v2.1.Rng.Hi.length (v2.1.Rng.Hi.flatMap eU8), .b v2.1.Rng.Open], .dead]) ⟨⟨rfl, ⟨rfl, ⟨rfl, ⟨rfl, ⟨rfl, ⟨trivial, trivial⟩⟩⟩⟩⟩⟩, ⟨⟨rfl, ⟨rfl, ⟨rfl, ⟨rfl, ⟨rfl, ⟨trivial, trivial⟩⟩⟩⟩⟩⟩, ⟨⟨rfl, ⟨rfl, ⟨rfl, ⟨rfl, ⟨rfl, ⟨trivial, trivial⟩⟩⟩⟩⟩⟩, trivial⟩⟩⟩) rfl rfl (opv_load1 ti44 rfl (.lp _ _ _ rfl) rfl) ?_
        refine ev (sees_all (md := [.box [.i .i64 a0.Win.Base, .i .u64 (a0.Win.Bits.toNat : Int), .i .i64 a0.Next, .sl a0.Wait.length (a0.Wait.flatMap eGMsgReq), .sl a0.Past.length (a0.Past.flatMap eGMsgReply)], .box [.i .i64 v2.1.Kind, .i .i64 v2.1.Seq, .i .i64 a1.Code, .i .i64 a1.N, .b a1.Found, .sl a1.Val.length (a1.Val.flatMap eU8), .sl a1.List.length (a1.List.flatMap eGApiKV)], .box [.i .i64 0, .i .u64 ((0#64).toNat : Int), .i .i64 0, .raw (.slice none 0 0), .raw (.slice none 0 0)], .box [.i .i64 0, .i .i64 0, .i .i64 0, .i .i64 0, .b false, .raw (.slice none 0 0), .raw (.slice none 0 0)], .box [.i .i64 v2.1.Kind, .i .i64 v2.1.Seq, .i .i64 v2.1.Token, .i .i64 v2.1.Attempt, .b v2.1.RO, .sl v2.1.Key.length (v2.1.Key.flatMap eU8), .sl v2.1.Val.length (v2.1.Val.flatMap eU8), .sl v2.1.Rng.Lo.length (v2.1.Rng.Lo.flatMap eU8), .sl v2.1.Rng.Hi.length (v2.1.Rng.Hi.flatMap eU8), .b v2.1.Rng.Open], .dead]) ⟨⟨rfl, ⟨rfl, ⟨rfl, ⟨rfl, ⟨rfl, ⟨trivial, trivial⟩⟩⟩⟩⟩⟩, ⟨⟨rfl, ⟨rfl, ⟨rfl, ⟨rfl, ⟨rfl, ⟨trivial, trivial⟩⟩⟩⟩⟩⟩, ⟨⟨rfl, ⟨rfl, ⟨rfl, ⟨rfl, ⟨rfl, ⟨trivial, trivial⟩⟩⟩⟩⟩⟩, trivial⟩⟩⟩) rfl rfl (opv_loadN ti48 rfl (.lp _ _ _ rfl) (Nat.le_of_ble_eq_true rfl)) ?_
        refine ed (sees_all (md := [.box [.i .i64 a0.Win.Base, .i .u64 (a0.Win.Bits.toNat : Int), .i .i64 a0.Next, .sl a0.Wait.length (a0.Wait.flatMap eGMsgReq), .sl a0.Past.length (a0.Past.flatMap eGMsgReply)], .box [.i .i64 v2.1.Kind, .i .i64 v2.1.Seq, .i .i64 a1.Code, .i .i64 a1.N, .b a1.Found, .sl a1.Val.length (a1.Val.flatMap eU8), .sl a1.List.length (a1.List.flatMap eGApiKV)], .box [.i .i64 0, .i .u64 ((0#64).toNat : Int), .i .i64 0, .raw (.slice none 0 0), .raw (.slice none 0 0)], .box [.i .i64 0, .i .i64 0, .i .i64 0, .i .i64 0, .b false, .raw (.slice none 0 0), .raw (.slice none 0 0)], .box [.i .i64 v2.1.Kind, .i .i64 v2.1.Seq, .i .i64 v2.1.Token, .i .i64 v2.1.Attempt, .b v2.1.RO, .sl v2.1.Key.length (v2.1.Key.flatMap eU8), .sl v2.1.Val.length (v2.1.Val.flatMap eU8), .sl v2.1.Rng.Lo.length (v2.1.Rng.Lo.flatMap eU8), .sl v2.1.Rng.Hi.length (v2.1.Rng.Hi.flatMap eU8), .b v2.1.Rng.Open], .dead]) ⟨⟨rfl, ⟨rfl, ⟨rfl, ⟨rfl, ⟨rfl, ⟨trivial, trivial⟩⟩⟩⟩⟩⟩, ⟨⟨rfl, ⟨rfl, ⟨rfl, ⟨rfl, ⟨rfl, ⟨trivial, trivial⟩⟩⟩⟩⟩⟩, ⟨⟨rfl, ⟨rfl, ⟨rfl, ⟨rfl, ⟨rfl, ⟨trivial, trivial⟩⟩⟩⟩⟩⟩, trivial⟩⟩⟩) rfl rfl (opD_call fn40 (opnds_cons rfl (opnds_cons rfl opnds_nil)) rfl (m40_pipe_passed_c hv6)) ?_
        refine ev (sees_all (md := [.box [.i .i64 a0.Win.Base, .i .u64 (a0.Win.Bits.toNat : Int), .i .i64 a0.Next, .sl a0.Wait.length (a0.Wait.flatMap eGMsgReq), .sl a0.Past.length (a0.Past.flatMap eGMsgReply)], .box [.i .i64 v2.1.Kind, .i .i64 v2.1.Seq, .i .i64 a1.Code, .i .i64 a1.N, .b a1.Found, .sl a1.Val.length (a1.Val.flatMap eU8), .sl a1.List.length (a1.List.flatMap eGApiKV)], .box [.i .i64 0, .i .u64 ((0#64).toNat : Int), .i .i64 0, .raw (.slice none 0 0), .raw (.slice none 0 0)], .box [.i .i64 0, .i .i64 0, .i .i64 0, .i .i64 0, .b false, .raw (.slice none 0 0), .raw (.slice none 0 0)], .box [.i .i64 v2.1.Kind, .i .i64 v2.1.Seq, .i .i64 v2.1.Token, .i .i64 v2.1.Attempt, .b v2.1.RO, .sl v2.1.Key.length (v2.1.Key.flatMap eU8), .sl v2.1.Val.length (v2.1.Val.flatMap eU8), .sl v2.1.Rng.Lo.length (v2.1.Rng.Lo.flatMap eU8), .sl v2.1.Rng.Hi.length (v2.1.Rng.Hi.flatMap eU8), .b v2.1.Rng.Open], .dead]) ⟨⟨rfl, ⟨rfl, ⟨rfl, ⟨rfl, ⟨rfl, ⟨trivial, trivial⟩⟩⟩⟩⟩⟩, ⟨⟨rfl, ⟨rfl, ⟨rfl, ⟨rfl, ⟨rfl, ⟨trivial, trivial⟩⟩⟩⟩⟩⟩, ⟨⟨rfl, ⟨rfl, ⟨rfl, ⟨rfl, ⟨rfl, ⟨trivial, trivial⟩⟩⟩⟩⟩⟩, trivial⟩⟩⟩) rfl rfl (opv_build zi46 pi46 (parts_cons rfl (parts_cons rfl (parts_cons rfl (parts_cons rfl parts_nil)))) (.cons _ _ _ _ _ _ _ rfl rfl (Nat.le_of_ble_eq_true rfl) (.cons _ _ _ _ _ _ _ rfl rfl (Nat.le_of_ble_eq_true rfl) (.cons _ _ _ _ _ _ _ rfl rfl (Nat.le_of_ble_eq_true rfl) (.cons _ _ _ _ _ _ _ rfl rfl (Nat.le_of_ble_eq_true rfl) (.nil _)))))) ?_
        refine ee (x := .s (.one (.lp 5 0))) 0 rfl rfl rfl rfl rfl (fun ζ => ?_) ?_
        · refine salloc_at 5 rfl zi46 rfl ?_
          exact eend
        refine ee0 1 rfl rfl rfl rfl (fun ζ => ?_) ?_
        · refine sstore sz46 rfl rfl rfl rfl (Nat.le_of_ble_eq_true rfl) ?_
          refine smem [.box [.i .i64 a0.Win.Base, .i .u64 (a0.Win.Bits.toNat : Int), .i .i64 a0.Next, .sl a0.Wait.length (a0.Wait.flatMap eGMsgReq), .sl a0.Past.length (a0.Past.flatMap eGMsgReply)], .box [.i .i64 v2.1.Kind, .i .i64 v2.1.Seq, .i .i64 a1.Code, .i .i64 a1.N, .b a1.Found, .sl a1.Val.length (a1.Val.flatMap eU8), .sl a1.List.length (a1.List.flatMap eGApiKV)], .box [.i .i64 0, .i .u64 ((0#64).toNat : Int), .i .i64 0, .raw (.slice none 0 0), .raw (.slice none 0 0)], .box [.i .i64 0, .i .i64 0, .i .i64 0, .i .i64 0, .b false, .raw (.slice none 0 0), .raw (.slice none 0 0)], .box [.i .i64 v2.1.Kind, .i .i64 v2.1.Seq, .i .i64 v2.1.Token, .i .i64 v2.1.Attempt, .b v2.1.RO, .sl v2.1.Key.length (v2.1.Key.flatMap eU8), .sl v2.1.Val.length (v2.1.Val.flatMap eU8), .sl v2.1.Rng.Lo.length (v2.1.Rng.Lo.flatMap eU8), .sl v2.1.Rng.Hi.length (v2.1.Rng.Hi.flatMap eU8), .b v2.1.Rng.Open], .box [.i .i64 a0.Win.Base, .i .u64 (a0.Win.Bits.toNat : Int), .i .i64 (wI (a0.Next + 1)), .sl v5.length (v5.flatMap eGMsgReq), .sl v6.length (v6.flatMap eGMsgReply)]] rfl ?_
          exact eend
        refine enil ?_
        refine then_normal ?_
        refine cseq ?_
        refine cdraw_e [2, 3] [0, 0, 1, 7, 15] [[.box [.i .i64 a0.Win.Base, .i .u64 (a0.Win.Bits.toNat : Int), .i .i64 a0.Next, .sl a0.Wait.length (a0.Wait.flatMap eGMsgReq), .sl a0.Past.length (a0.Past.flatMap eGMsgReply)], .box [.i .i64 v2.1.Kind, .i .i64 v2.1.Seq, .i .i64 a1.Code, .i .i64 a1.N, .b a1.Found, .sl a1.Val.length (a1.Val.flatMap eU8), .sl a1.List.length (a1.List.flatMap eGApiKV)], .box [.i .i64 0, .i .u64 ((0#64).toNat : Int), .i .i64 0, .raw (.slice none 0 0), .raw (.slice none 0 0)], .box [.i .i64 0, .i .i64 0, .i .i64 0, .i .i64 0, .b false, .raw (.slice none 0 0), .raw (.slice none 0 0)], .box [.i .i64 v2.1.Kind, .i .i64 v2.1.Seq, .i .i64 v2.1.Token, .i .i64 v2.1.Attempt, .b v2.1.RO, .sl v2.1.Key.length (v2.1.Key.flatMap eU8), .sl v2.1.Val.length (v2.1.Val.flatMap eU8), .sl v2.1.Rng.Lo.length (v2.1.Rng.Lo.flatMap eU8), .sl v2.1.Rng.Hi.length (v2.1.Rng.Hi.flatMap eU8), .b v2.1.Rng.Open], .box [.i .i64 a0.Win.Base, .i .u64 (a0.Win.Bits.toNat : Int), .i .i64 (wI (a0.Next + 1)), .sl v5.length (v5.flatMap eGMsgReq), .sl v6.length (v6.flatMap eGMsgReply)]], [.box [.i .i64 a0.Win.Base, .i .u64 (a0.Win.Bits.toNat : Int), .i .i64 a0.Next, .sl a0.Wait.length (a0.Wait.flatMap eGMsgReq), .sl a0.Past.length (a0.Past.flatMap eGMsgReply)], .box [.i .i64 v2.1.Kind, .i .i64 v2.1.Seq, .i .i64 a1.Code, .i .i64 a1.N, .b a1.Found, .sl a1.Val.length (a1.Val.flatMap eU8), .sl a1.List.length (a1.List.flatMap eGApiKV)], .box [.i .i64 a0.Win.Base, .i .u64 (a0.Win.Bits.toNat : Int), .i .i64 (wI (a0.Next + 1)), .sl v5.length (v5.flatMap eGMsgReq), .sl v6.length (v6.flatMap eGMsgReply)], .box [.i .i64 0, .i .i64 0, .i .i64 0, .i .i64 0, .b false, .raw (.slice none 0 0), .raw (.slice none 0 0)], .box [.i .i64 v2.1.Kind, .i .i64 v2.1.Seq, .i .i64 v2.1.Token, .i .i64 v2.1.Attempt, .b v2.1.RO, .sl v2.1.Key.length (v2.1.Key.flatMap eU8), .sl v2.1.Val.length (v2.1.Val.flatMap eU8), .sl v2.1.Rng.Lo.length (v2.1.Rng.Lo.flatMap eU8), .sl v2.1.Rng.Hi.length (v2.1.Rng.Hi.flatMap eU8), .b v2.1.Rng.Open], .box [.i .i64 a0.Win.Base, .i .u64 (a0.Win.Bits.toNat : Int), .i .i64 (wI (a0.Next + 1)), .sl v5.length (v5.flatMap eGMsgReq), .sl v6.length (v6.flatMap eGMsgReply)]], [.box [.i .i64 a0.Win.Base, .i .u64 (a0.Win.Bits.toNat : Int), .i .i64 a0.Next, .sl a0.Wait.length (a0.Wait.flatMap eGMsgReq), .sl a0.Past.length (a0.Past.flatMap eGMsgReply)], .box [.i .i64 v2.1.Kind, .i .i64 v2.1.Seq, .i .i64 a1.Code, .i .i64 a1.N, .b a1.Found, .sl a1.Val.length (a1.Val.flatMap eU8), .sl a1.List.length (a1.List.flatMap eGApiKV)], .box [.i .i64 a0.Win.Base, .i .u64 (a0.Win.Bits.toNat : Int), .i .i64 (wI (a0.Next + 1)), .sl v5.length (v5.flatMap eGMsgReq), .sl v6.length (v6.flatMap eGMsgReply)], .box [.i .i64 v2.1.Kind, .i .i64 v2.1.Seq, .i .i64 a1.Code, .i .i64 a1.N, .b a1.Found, .sl a1.Val.length (a1.Val.flatMap eU8), .sl a1.List.length (a1.List.flatMap eGApiKV)], .box [.i .i64 v2.1.Kind, .i .i64 v2.1.Seq, .i .i64 v2.1.Token, .i .i64 v2.1.Attempt, .b v2.1.RO, .sl v2.1.Key.length (v2.1.Key.flatMap eU8), .sl v2.1.Val.length (v2.1.Val.flatMap eU8), .sl v2.1.Rng.Lo.length (v2.1.Rng.Lo.flatMap eU8), .sl v2.1.Rng.Hi.length (v2.1.Rng.Hi.flatMap eU8), .b v2.1.Rng.Open], .box [.i .i64 a0.Win.Base, .i .u64 (a0.Win.Bits.toNat : Int), .i .i64 (wI (a0.Next + 1)), .sl v5.length (v5.flatMap eGMsgReq), .sl v6.length (v6.flatMap eGMsgReply)]]] (by kernel_rfl) mixed (by kernel_rfl) (by decide) rfl rfl rfl rfl ?_
        refine ev (sees_at 0 rfl rfl) rfl rfl (opv_loadN ti46 rfl (.lp _ _ _ rfl) (Nat.le_of_ble_eq_true rfl)) ?_
        refine ev (sees_all (md := [.box [.i .i64 a0.Win.Base, .i .u64 (a0.Win.Bits.toNat : Int), .i .i64 a0.Next, .sl a0.Wait.length (a0.Wait.flatMap eGMsgReq), .sl a0.Past.length (a0.Past.flatMap eGMsgReply)], .box [.i .i64 v2.1.Kind, .i .i64 v2.1.Seq, .i .i64 a1.Code, .i .i64 a1.N, .b a1.Found, .sl a1.Val.length (a1.Val.flatMap eU8), .sl a1.List.length (a1.List.flatMap eGApiKV)], .dead, .dead, .box [.i .i64 v2.1.Kind, .i .i64 v2.1.Seq, .i .i64 v2.1.Token, .i .i64 v2.1.Attempt, .b v2.1.RO, .sl v2.1.Key.length (v2.1.Key.flatMap eU8), .sl v2.1.Val.length (v2.1.Val.flatMap eU8), .sl v2.1.Rng.Lo.length (v2.1.Rng.Lo.flatMap eU8), .sl v2.1.Rng.Hi.length (v2.1.Rng.Hi.flatMap eU8), .b v2.1.Rng.Open], .box [.i .i64 a0.Win.Base, .i .u64 (a0.Win.Bits.toNat : Int), .i .i64 (wI (a0.Next + 1)), .sl v5.length (v5.flatMap eGMsgReq), .sl v6.length (v6.flatMap eGMsgReply)]]) ⟨⟨rfl, ⟨rfl, ⟨trivial, ⟨trivial, ⟨rfl, ⟨rfl, trivial⟩⟩⟩⟩⟩⟩, ⟨⟨rfl, ⟨rfl, ⟨trivial, ⟨trivial, ⟨rfl, ⟨rfl, trivial⟩⟩⟩⟩⟩⟩, ⟨⟨rfl, ⟨rfl, ⟨trivial, ⟨trivial, ⟨rfl, ⟨rfl, trivial⟩⟩⟩⟩⟩⟩, trivial⟩⟩⟩) rfl rfl (opv_loadN ti48 rfl (.lp _ _ _ rfl) (Nat.le_of_ble_eq_true rfl)) ?_
        refine ee0 0 rfl rfl rfl rfl (fun ζ => ?_) ?_
        · refine sstore sz46 rfl rfl rfl rfl (Nat.le_of_ble_eq_true rfl) ?_
          refine smem [.box [.i .i64 a0.Win.Base, .i .u64 (a0.Win.Bits.toNat : Int), .i .i64 a0.Next, .sl a0.Wait.length (a0.Wait.flatMap eGMsgReq), .sl a0.Past.length (a0.Past.flatMap eGMsgReply)], .box [.i .i64 v2.1.Kind, .i .i64 v2.1.Seq, .i .i64 a1.Code, .i .i64 a1.N, .b a1.Found, .sl a1.Val.length (a1.Val.flatMap eU8), .sl a1.List.length (a1.List.flatMap eGApiKV)], .box [.i .i64 a0.Win.Base, .i .u64 (a0.Win.Bits.toNat : Int), .i .i64 (wI (a0.Next + 1)), .sl v5.length (v5.flatMap eGMsgReq), .sl v6.length (v6.flatMap eGMsgReply)], .box [.i .i64 0, .i .i64 0, .i .i64 0, .i .i64 0, .b false, .raw (.slice none 0 0), .raw (.slice none 0 0)], .box [.i .i64 v2.1.Kind, .i .i64 v2.1.Seq, .i .i64 v2.1.Token, .i .i64 v2.1.Attempt, .b v2.1.RO, .sl v2.1.Key.length (v2.1.Key.flatMap eU8), .sl v2.1.Val.length (v2.1.Val.flatMap eU8), .sl v2.1.Rng.Lo.length (v2.1.Rng.Lo.flatMap eU8), .sl v2.1.Rng.Hi.length (v2.1.Rng.Hi.flatMap eU8), .b v2.1.Rng.Open], .box [.i .i64 a0.Win.Base, .i .u64 (a0.Win.Bits.toNat : Int), .i .i64 (wI (a0.Next + 1)), .sl v5.length (v5.flatMap eGMsgReq), .sl v6.length (v6.flatMap eGMsgReply)]] rfl ?_
          exact eend
        refine ee0 1 rfl rfl rfl rfl (fun ζ => ?_) ?_
        · refine sstore sz48 rfl rfl rfl rfl (Nat.le_of_ble_eq_true rfl) ?_
          refine smem [.box [.i .i64 a0.Win.Base, .i .u64 (a0.Win.Bits.toNat : Int), .i .i64 a0.Next, .sl a0.Wait.length (a0.Wait.flatMap eGMsgReq), .sl a0.Past.length (a0.Past.flatMap eGMsgReply)], .box [.i .i64 v2.1.Kind, .i .i64 v2.1.Seq, .i .i64 a1.Code, .i .i64 a1.N, .b a1.Found, .sl a1.Val.length (a1.Val.flatMap eU8), .sl a1.List.length (a1.List.flatMap eGApiKV)], .box [.i .i64 a0.Win.Base, .i .u64 (a0.Win.Bits.toNat : Int), .i .i64 (wI (a0.Next + 1)), .sl v5.length (v5.flatMap eGMsgReq), .sl v6.length (v6.flatMap eGMsgReply)], .box [.i .i64 v2.1.Kind, .i .i64 v2.1.Seq, .i .i64 a1.Code, .i .i64 a1.N, .b a1.Found, .sl a1.Val.length (a1.Val.flatMap eU8), .sl a1.List.length (a1.List.flatMap eGApiKV)], .box [.i .i64 v2.1.Kind, .i .i64 v2.1.Seq, .i .i64 v2.1.Token, .i .i64 v2.1.Attempt, .b v2.1.RO, .sl v2.1.Key.length (v2.1.Key.flatMap eU8), .sl v2.1.Val.length (v2.1.Val.flatMap eU8), .sl v2.1.Rng.Lo.length (v2.1.Rng.Lo.flatMap eU8), .sl v2.1.Rng.Hi.length (v2.1.Rng.Hi.flatMap eU8), .b v2.1.Rng.Open], .box [.i .i64 a0.Win.Base, .i .u64 (a0.Win.Bits.toNat : Int), .i .i64 (wI (a0.Next + 1)), .sl v5.length (v5.flatMap eGMsgReq), .sl v6.length (v6.flatMap eGMsgReply)]] rfl ?_
          exact eend
        refine ev (sees_at 2 rfl rfl) rfl rfl (opv_as rfl) ?_
        refine enil ?_
        refine then_normal ?_
        refine cret ?_
        obtain rfl := Option.some.inj h
        refine ⟨Or.inr rfl, _, _, _, (resVs_cons (ResV.agg _ _ _ _ _ ti46 rfl (.lp _ _ _ rfl) (Nat.le_of_ble_eq_true rfl)) (resVs_cons (ResV.agg _ _ _ _ _ ti48 rfl (.lp _ _ _ rfl) (Nat.le_of_ble_eq_true rfl)) (resVs_cons (ResV.tmp _ _ rfl) resVs_nil))), (pubA_id rfl), ?_⟩
        rfl

def m8_l16_awake  : Option Bool :=
  (m13_pipe_Offer (GPipePipe.mk (GSeqsWindow.mk 0 (0#64)) 0 ([] : List GMsgReq) ([] : List GMsgReply)) (GMsgReq.mk 7 1 0 0 false ([] : List UInt8) ([] : List UInt8) (GApiRange.mk ([] : List UInt8) ([] : List UInt8) false))).bind fun v1 => (m19_pipe_Ready (GPipePipe.mk (GSeqsWindow.mk v1.1.Win.Base v1.1.Win.Bits) v1.1.Next v1.1.Wait v1.1.Past)).bind fun v2 => (m13_pipe_Offer (GPipePipe.mk (GSeqsWindow.mk v1.1.Win.Base v1.1.Win.Bits) v1.1.Next v1.1.Wait v1.1.Past) (GMsgReq.mk 8 0 0 0 false ([] : List UInt8) ([] : List UInt8) (GApiRange.mk ([] : List UInt8) ([] : List UInt8) false))).bind fun v3 => (m19_pipe_Ready (GPipePipe.mk (GSeqsWindow.mk v3.1.Win.Base v3.1.Win.Bits) v3.1.Next v3.1.Wait v3.1.Past)).bind fun v4 => (m16_pipe_Answer (GPipePipe.mk (GSeqsWindow.mk v3.1.Win.Base v3.1.Win.Bits) v3.1.Next v3.1.Wait v3.1.Past) (GMsgReply.mk 0 0 0 5 false ([] : List UInt8) ([] : List GApiKV))).bind fun v5 => (m19_pipe_Ready (GPipePipe.mk (GSeqsWindow.mk v5.1.Win.Base v5.1.Win.Bits) v5.1.Next v5.1.Wait v5.1.Past)).bind fun v6 => (m13_pipe_Offer (GPipePipe.mk (GSeqsWindow.mk v5.1.Win.Base v5.1.Win.Bits) v5.1.Next v5.1.Wait v5.1.Past) (GMsgReq.mk 8 0 0 0 false ([] : List UInt8) ([] : List UInt8) (GApiRange.mk ([] : List UInt8) ([] : List UInt8) false))).bind fun v7 => if (decide (v1.2.2.2 = 0)) then (if (decide (v3.2.2.2 = 0)) then (if (decide (v5.2.2 = 0)) then (if (decide (v7.2.2.2 = 0)) then (if (!v2.2) then (if v4.2 then (if (decide (v4.1.Kind = 8)) then (if v6.2 then (if (decide (v6.1.Seq = 1)) then (if v7.2.2.1 then (if (decide (v7.2.1.N = 5)) then (some (decide (v7.2.1.Kind = 8))) else (some false)) else (some false)) else (some false)) else (some false)) else (some false)) else (some false)) else (some false)) else (some false)) else (some false)) else (some false)) else (some false)

set_option maxRecDepth 100000 in
theorem m8_l16_awake_c  {r : Bool} (h : m8_l16_awake = some r) : CallsA Tryd.prog 8 [] (· = .s (.one (.b r))) := by
  unfold m8_l16_awake at h
  refine callsA_of Tryd.func8 rfl (nt := 113) rfl (Nat.le_of_ble_eq_true rfl) ?_
  intro w0 S0
  refine cseq ?_
  refine cregion ?_
  refine sv rfl (opv_as rfl) ?_
  refine snil ?_
  refine cseq ?_
  refine cregion ?_
  refine sv rfl (opv_build zi46 pi46 parts_nil (.nil _)) ?_
  refine sv rfl (opv_build zi51 pi51 (parts_cons rfl (parts_cons rfl parts_nil)) (.cons _ _ _ _ _ _ _ rfl rfl (Nat.le_of_ble_eq_true rfl) (.cons _ _ _ _ _ _ _ rfl rfl (Nat.le_of_ble_eq_true rfl) (.nil _)))) ?_
  obtain ⟨v1, hv1, h⟩ := bind_eq h
  refine scall1 rfl fn13 (opnds_cons rfl (opnds_cons rfl opnds_nil)) (pubC rfl) (m13_pipe_Offer_c hv1) ?_
  refine sv rfl (opv_mvt rfl) ?_
  refine sv rfl (opv_extract rfl rfl) ?_
  refine sv rfl (opv_extract rfl rfl) ?_
  refine sv rfl (opv_extract rfl rfl) ?_
  refine sv rfl (opv_extract rfl rfl) ?_
  refine salloc rfl zi46 ?_
  refine salloc rfl zi48 ?_
  refine sstore sz46 rfl rfl rfl rfl (Nat.le_of_ble_eq_true rfl) ?_
  refine smem [.box [.i .i64 v1.1.Win.Base, .i .u64 (v1.1.Win.Bits.toNat : Int), .i .i64 v1.1.Next, .sl v1.1.Wait.length (v1.1.Wait.flatMap eGMsgReq), .sl v1.1.Past.length (v1.1.Past.flatMap eGMsgReply)], .box [.i .i64 0, .i .i64 0, .i .i64 0, .i .i64 0, .b false, .raw (.slice none 0 0), .raw (.slice none 0 0)]] rfl ?_
  refine sstore sz48 rfl rfl rfl rfl (Nat.le_of_ble_eq_true rfl) ?_
  refine smem [.box [.i .i64 v1.1.Win.Base, .i .u64 (v1.1.Win.Bits.toNat : Int), .i .i64 v1.1.Next, .sl v1.1.Wait.length (v1.1.Wait.flatMap eGMsgReq), .sl v1.1.Past.length (v1.1.Past.flatMap eGMsgReply)], .box [.i .i64 v1.2.1.Kind, .i .i64 v1.2.1.Seq, .i .i64 v1.2.1.Code, .i .i64 v1.2.1.N, .b v1.2.1.Found, .sl v1.2.1.Val.length (v1.2.1.Val.flatMap eU8), .sl v1.2.1.List.length (v1.2.1.List.flatMap eGApiKV)]] rfl ?_
  refine sv rfl (opv_as rfl) ?_
  refine sv rfl (opv_as rfl) ?_
  refine snil ?_
  refine cseq ?_
  refine cregion ?_
  refine sv rfl (opv_loadN ti46 rfl (.lp _ _ _ rfl) (Nat.le_of_ble_eq_true rfl)) ?_
  obtain ⟨v2, hv2, h⟩ := bind_eq h
  refine scall1 rfl fn19 (opnds_cons rfl opnds_nil) (pubA_id rfl) (m19_pipe_Ready_c hv2) ?_
  refine sv rfl (opv_mvt rfl) ?_
  refine sv rfl (opv_extract rfl rfl) ?_
  refine sv rfl (opv_extract rfl rfl) ?_
  refine salloc rfl zi51 ?_
  refine sstore sz51 rfl rfl rfl rfl (Nat.le_of_ble_eq_true rfl) ?_
  refine smem [.box [.i .i64 v1.1.Win.Base, .i .u64 (v1.1.Win.Bits.toNat : Int), .i .i64 v1.1.Next, .sl v1.1.Wait.length (v1.1.Wait.flatMap eGMsgReq), .sl v1.1.Past.length (v1.1.Past.flatMap eGMsgReply)], .box [.i .i64 v1.2.1.Kind, .i .i64 v1.2.1.Seq, .i .i64 v1.2.1.Code, .i .i64 v1.2.1.N, .b v1.2.1.Found, .sl v1.2.1.Val.length (v1.2.1.Val.flatMap eU8), .sl v1.2.1.List.length (v1.2.1.List.flatMap eGApiKV)], .box [.i .i64 v2.1.Kind, .i .i64 v2.1.Seq, .i .i64 v2.1.Token, .i .i64 v2.1.Attempt, .b v2.1.RO, .sl v2.1.Key.length (v2.1.Key.flatMap eU8), .sl v2.1.Val.length (v2.1.Val.flatMap eU8), .sl v2.1.Rng.Lo.length (v2.1.Rng.Lo.flatMap eU8), .sl v2.1.Rng.Hi.length (v2.1.Rng.Hi.flatMap eU8), .b v2.1.Rng.Open]] rfl ?_
  refine sv rfl (opv_as rfl) ?_
  refine snil ?_
  refine cseq ?_
  refine cregion ?_
  refine sv rfl (opv_loadN ti46 rfl (.lp _ _ _ rfl) (Nat.le_of_ble_eq_true rfl)) ?_
  refine sv rfl (opv_build zi51 pi51 (parts_cons rfl parts_nil) (.cons _ _ _ _ _ _ _ rfl rfl (Nat.le_of_ble_eq_true rfl) (.nil _))) ?_
  obtain ⟨v3, hv3, h⟩ := bind_eq h
  refine scall1 rfl fn13 (opnds_cons rfl (opnds_cons rfl opnds_nil)) (pubC rfl) (m13_pipe_Offer_c hv3) ?_
  refine sv rfl (opv_mvt rfl) ?_
  refine sv rfl (opv_extract rfl rfl) ?_
  refine sv rfl (opv_extract rfl rfl) ?_
  refine sv rfl (opv_extract rfl rfl) ?_
  refine sv rfl (opv_extract rfl rfl) ?_
  refine salloc rfl zi48 ?_
  refine sstore sz46 rfl rfl rfl rfl (Nat.le_of_ble_eq_true rfl) ?_
  refine smem [.box [.i .i64 v3.1.Win.Base, .i .u64 (v3.1.Win.Bits.toNat : Int), .i .i64 v3.1.Next, .sl v3.1.Wait.length (v3.1.Wait.flatMap eGMsgReq), .sl v3.1.Past.length (v3.1.Past.flatMap eGMsgReply)], .box [.i .i64 v1.2.1.Kind, .i .i64 v1.2.1.Seq, .i .i64 v1.2.1.Code, .i .i64 v1.2.1.N, .b v1.2.1.Found, .sl v1.2.1.Val.length (v1.2.1.Val.flatMap eU8), .sl v1.2.1.List.length (v1.2.1.List.flatMap eGApiKV)], .box [.i .i64 v2.1.Kind, .i .i64 v2.1.Seq, .i .i64 v2.1.Token, .i .i64 v2.1.Attempt, .b v2.1.RO, .sl v2.1.Key.length (v2.1.Key.flatMap eU8), .sl v2.1.Val.length (v2.1.Val.flatMap eU8), .sl v2.1.Rng.Lo.length (v2.1.Rng.Lo.flatMap eU8), .sl v2.1.Rng.Hi.length (v2.1.Rng.Hi.flatMap eU8), .b v2.1.Rng.Open], .box [.i .i64 0, .i .i64 0, .i .i64 0, .i .i64 0, .b false, .raw (.slice none 0 0), .raw (.slice none 0 0)]] rfl ?_
  refine sstore sz48 rfl rfl rfl rfl (Nat.le_of_ble_eq_true rfl) ?_
  refine smem [.box [.i .i64 v3.1.Win.Base, .i .u64 (v3.1.Win.Bits.toNat : Int), .i .i64 v3.1.Next, .sl v3.1.Wait.length (v3.1.Wait.flatMap eGMsgReq), .sl v3.1.Past.length (v3.1.Past.flatMap eGMsgReply)], .box [.i .i64 v1.2.1.Kind, .i .i64 v1.2.1.Seq, .i .i64 v1.2.1.Code, .i .i64 v1.2.1.N, .b v1.2.1.Found, .sl v1.2.1.Val.length (v1.2.1.Val.flatMap eU8), .sl v1.2.1.List.length (v1.2.1.List.flatMap eGApiKV)], .box [.i .i64 v2.1.Kind, .i .i64 v2.1.Seq, .i .i64 v2.1.Token, .i .i64 v2.1.Attempt, .b v2.1.RO, .sl v2.1.Key.length (v2.1.Key.flatMap eU8), .sl v2.1.Val.length (v2.1.Val.flatMap eU8), .sl v2.1.Rng.Lo.length (v2.1.Rng.Lo.flatMap eU8), .sl v2.1.Rng.Hi.length (v2.1.Rng.Hi.flatMap eU8), .b v2.1.Rng.Open], .box [.i .i64 v3.2.1.Kind, .i .i64 v3.2.1.Seq, .i .i64 v3.2.1.Code, .i .i64 v3.2.1.N, .b v3.2.1.Found, .sl v3.2.1.Val.length (v3.2.1.Val.flatMap eU8), .sl v3.2.1.List.length (v3.2.1.List.flatMap eGApiKV)]] rfl ?_
  refine sv rfl (opv_as rfl) ?_
  refine sv rfl (opv_as rfl) ?_
  refine snil ?_
  refine cseq ?_
  refine cregion ?_
  refine sv rfl (opv_loadN ti46 rfl (.lp _ _ _ rfl) (Nat.le_of_ble_eq_true rfl)) ?_
  obtain ⟨v4, hv4, h⟩ := bind_eq h
  refine scall1 rfl fn19 (opnds_cons rfl opnds_nil) (pubA_id rfl) (m19_pipe_Ready_c hv4) ?_
  refine sv rfl (opv_mvt rfl) ?_
  refine sv rfl (opv_extract rfl rfl) ?_
  refine sv rfl (opv_extract rfl rfl) ?_
  refine salloc rfl zi51 ?_
  refine sstore sz51 rfl rfl rfl rfl (Nat.le_of_ble_eq_true rfl) ?_
  refine smem [.box [.i .i64 v3.1.Win.Base, .i .u64 (v3.1.Win.Bits.toNat : Int), .i .i64 v3.1.Next, .sl v3.1.Wait.length (v3.1.Wait.flatMap eGMsgReq), .sl v3.1.Past.length (v3.1.Past.flatMap eGMsgReply)], .box [.i .i64 v1.2.1.Kind, .i .i64 v1.2.1.Seq, .i .i64 v1.2.1.Code, .i .i64 v1.2.1.N, .b v1.2.1.Found, .sl v1.2.1.Val.length (v1.2.1.Val.flatMap eU8), .sl v1.2.1.List.length (v1.2.1.List.flatMap eGApiKV)], .box [.i .i64 v2.1.Kind, .i .i64 v2.1.Seq, .i .i64 v2.1.Token, .i .i64 v2.1.Attempt, .b v2.1.RO, .sl v2.1.Key.length (v2.1.Key.flatMap eU8), .sl v2.1.Val.length (v2.1.Val.flatMap eU8), .sl v2.1.Rng.Lo.length (v2.1.Rng.Lo.flatMap eU8), .sl v2.1.Rng.Hi.length (v2.1.Rng.Hi.flatMap eU8), .b v2.1.Rng.Open], .box [.i .i64 v3.2.1.Kind, .i .i64 v3.2.1.Seq, .i .i64 v3.2.1.Code, .i .i64 v3.2.1.N, .b v3.2.1.Found, .sl v3.2.1.Val.length (v3.2.1.Val.flatMap eU8), .sl v3.2.1.List.length (v3.2.1.List.flatMap eGApiKV)], .box [.i .i64 v4.1.Kind, .i .i64 v4.1.Seq, .i .i64 v4.1.Token, .i .i64 v4.1.Attempt, .b v4.1.RO, .sl v4.1.Key.length (v4.1.Key.flatMap eU8), .sl v4.1.Val.length (v4.1.Val.flatMap eU8), .sl v4.1.Rng.Lo.length (v4.1.Rng.Lo.flatMap eU8), .sl v4.1.Rng.Hi.length (v4.1.Rng.Hi.flatMap eU8), .b v4.1.Rng.Open]] rfl ?_
  refine sv rfl (opv_as rfl) ?_
  refine snil ?_
  refine cseq ?_
  refine cregion ?_
  refine sv rfl (opv_loadN ti46 rfl (.lp _ _ _ rfl) (Nat.le_of_ble_eq_true rfl)) ?_
  refine sv rfl (opv_build zi48 pi48 (parts_cons rfl parts_nil) (.cons _ _ _ _ _ _ _ rfl rfl (Nat.le_of_ble_eq_true rfl) (.nil _))) ?_
  obtain ⟨v5, hv5, h⟩ := bind_eq h
  refine scall1 rfl fn16 (opnds_cons rfl (opnds_cons rfl opnds_nil)) (pubC rfl) (m16_pipe_Answer_c hv5) ?_
  refine sv rfl (opv_mvt rfl) ?_
  refine sv rfl (opv_extract rfl rfl) ?_
  refine sv rfl (opv_extract rfl rfl) ?_
  refine sv rfl (opv_extract rfl rfl) ?_
  refine salloc rfl zi48 ?_
  refine sstore sz46 rfl rfl rfl rfl (Nat.le_of_ble_eq_true rfl) ?_
  refine smem [.box [.i .i64 v5.1.Win.Base, .i .u64 (v5.1.Win.Bits.toNat : Int), .i .i64 v5.1.Next, .sl v5.1.Wait.length (v5.1.Wait.flatMap eGMsgReq), .sl v5.1.Past.length (v5.1.Past.flatMap eGMsgReply)], .box [.i .i64 v1.2.1.Kind, .i .i64 v1.2.1.Seq, .i .i64 v1.2.1.Code, .i .i64 v1.2.1.N, .b v1.2.1.Found, .sl v1.2.1.Val.length (v1.2.1.Val.flatMap eU8), .sl v1.2.1.List.length (v1.2.1.List.flatMap eGApiKV)], .box [.i .i64 v2.1.Kind, .i .i64 v2.1.Seq, .i .i64 v2.1.Token, .i .i64 v2.1.Attempt, .b v2.1.RO, .sl v2.1.Key.length (v2.1.Key.flatMap eU8), .sl v2.1.Val.length (v2.1.Val.flatMap eU8), .sl v2.1.Rng.Lo.length (v2.1.Rng.Lo.flatMap eU8), .sl v2.1.Rng.Hi.length (v2.1.Rng.Hi.flatMap eU8), .b v2.1.Rng.Open], .box [.i .i64 v3.2.1.Kind, .i .i64 v3.2.1.Seq, .i .i64 v3.2.1.Code, .i .i64 v3.2.1.N, .b v3.2.1.Found, .sl v3.2.1.Val.length (v3.2.1.Val.flatMap eU8), .sl v3.2.1.List.length (v3.2.1.List.flatMap eGApiKV)], .box [.i .i64 v4.1.Kind, .i .i64 v4.1.Seq, .i .i64 v4.1.Token, .i .i64 v4.1.Attempt, .b v4.1.RO, .sl v4.1.Key.length (v4.1.Key.flatMap eU8), .sl v4.1.Val.length (v4.1.Val.flatMap eU8), .sl v4.1.Rng.Lo.length (v4.1.Rng.Lo.flatMap eU8), .sl v4.1.Rng.Hi.length (v4.1.Rng.Hi.flatMap eU8), .b v4.1.Rng.Open], .box [.i .i64 0, .i .i64 0, .i .i64 0, .i .i64 0, .b false, .raw (.slice none 0 0), .raw (.slice none 0 0)]] rfl ?_
  refine sstore sz48 rfl rfl rfl rfl (Nat.le_of_ble_eq_true rfl) ?_
  refine smem [.box [.i .i64 v5.1.Win.Base, .i .u64 (v5.1.Win.Bits.toNat : Int), .i .i64 v5.1.Next, .sl v5.1.Wait.length (v5.1.Wait.flatMap eGMsgReq), .sl v5.1.Past.length (v5.1.Past.flatMap eGMsgReply)], .box [.i .i64 v1.2.1.Kind, .i .i64 v1.2.1.Seq, .i .i64 v1.2.1.Code, .i .i64 v1.2.1.N, .b v1.2.1.Found, .sl v1.2.1.Val.length (v1.2.1.Val.flatMap eU8), .sl v1.2.1.List.length (v1.2.1.List.flatMap eGApiKV)], .box [.i .i64 v2.1.Kind, .i .i64 v2.1.Seq, .i .i64 v2.1.Token, .i .i64 v2.1.Attempt, .b v2.1.RO, .sl v2.1.Key.length (v2.1.Key.flatMap eU8), .sl v2.1.Val.length (v2.1.Val.flatMap eU8), .sl v2.1.Rng.Lo.length (v2.1.Rng.Lo.flatMap eU8), .sl v2.1.Rng.Hi.length (v2.1.Rng.Hi.flatMap eU8), .b v2.1.Rng.Open], .box [.i .i64 v3.2.1.Kind, .i .i64 v3.2.1.Seq, .i .i64 v3.2.1.Code, .i .i64 v3.2.1.N, .b v3.2.1.Found, .sl v3.2.1.Val.length (v3.2.1.Val.flatMap eU8), .sl v3.2.1.List.length (v3.2.1.List.flatMap eGApiKV)], .box [.i .i64 v4.1.Kind, .i .i64 v4.1.Seq, .i .i64 v4.1.Token, .i .i64 v4.1.Attempt, .b v4.1.RO, .sl v4.1.Key.length (v4.1.Key.flatMap eU8), .sl v4.1.Val.length (v4.1.Val.flatMap eU8), .sl v4.1.Rng.Lo.length (v4.1.Rng.Lo.flatMap eU8), .sl v4.1.Rng.Hi.length (v4.1.Rng.Hi.flatMap eU8), .b v4.1.Rng.Open], .box [.i .i64 v5.2.1.Kind, .i .i64 v5.2.1.Seq, .i .i64 v5.2.1.Code, .i .i64 v5.2.1.N, .b v5.2.1.Found, .sl v5.2.1.Val.length (v5.2.1.Val.flatMap eU8), .sl v5.2.1.List.length (v5.2.1.List.flatMap eGApiKV)]] rfl ?_
  refine sv rfl (opv_as rfl) ?_
  refine snil ?_
  refine cseq ?_
  refine cregion ?_
  refine sv rfl (opv_loadN ti46 rfl (.lp _ _ _ rfl) (Nat.le_of_ble_eq_true rfl)) ?_
  obtain ⟨v6, hv6, h⟩ := bind_eq h
  refine scall1 rfl fn19 (opnds_cons rfl opnds_nil) (pubA_id rfl) (m19_pipe_Ready_c hv6) ?_
  refine sv rfl (opv_mvt rfl) ?_
  refine sv rfl (opv_extract rfl rfl) ?_
  refine sv rfl (opv_extract rfl rfl) ?_
  refine salloc rfl zi51 ?_
  refine sstore sz51 rfl rfl rfl rfl (Nat.le_of_ble_eq_true rfl) ?_
  refine smem [.box [.i .i64 v5.1.Win.Base, .i .u64 (v5.1.Win.Bits.toNat : Int), .i .i64 v5.1.Next, .sl v5.1.Wait.length (v5.1.Wait.flatMap eGMsgReq), .sl v5.1.Past.length (v5.1.Past.flatMap eGMsgReply)], .box [.i .i64 v1.2.1.Kind, .i .i64 v1.2.1.Seq, .i .i64 v1.2.1.Code, .i .i64 v1.2.1.N, .b v1.2.1.Found, .sl v1.2.1.Val.length (v1.2.1.Val.flatMap eU8), .sl v1.2.1.List.length (v1.2.1.List.flatMap eGApiKV)], .box [.i .i64 v2.1.Kind, .i .i64 v2.1.Seq, .i .i64 v2.1.Token, .i .i64 v2.1.Attempt, .b v2.1.RO, .sl v2.1.Key.length (v2.1.Key.flatMap eU8), .sl v2.1.Val.length (v2.1.Val.flatMap eU8), .sl v2.1.Rng.Lo.length (v2.1.Rng.Lo.flatMap eU8), .sl v2.1.Rng.Hi.length (v2.1.Rng.Hi.flatMap eU8), .b v2.1.Rng.Open], .box [.i .i64 v3.2.1.Kind, .i .i64 v3.2.1.Seq, .i .i64 v3.2.1.Code, .i .i64 v3.2.1.N, .b v3.2.1.Found, .sl v3.2.1.Val.length (v3.2.1.Val.flatMap eU8), .sl v3.2.1.List.length (v3.2.1.List.flatMap eGApiKV)], .box [.i .i64 v4.1.Kind, .i .i64 v4.1.Seq, .i .i64 v4.1.Token, .i .i64 v4.1.Attempt, .b v4.1.RO, .sl v4.1.Key.length (v4.1.Key.flatMap eU8), .sl v4.1.Val.length (v4.1.Val.flatMap eU8), .sl v4.1.Rng.Lo.length (v4.1.Rng.Lo.flatMap eU8), .sl v4.1.Rng.Hi.length (v4.1.Rng.Hi.flatMap eU8), .b v4.1.Rng.Open], .box [.i .i64 v5.2.1.Kind, .i .i64 v5.2.1.Seq, .i .i64 v5.2.1.Code, .i .i64 v5.2.1.N, .b v5.2.1.Found, .sl v5.2.1.Val.length (v5.2.1.Val.flatMap eU8), .sl v5.2.1.List.length (v5.2.1.List.flatMap eGApiKV)], .box [.i .i64 v6.1.Kind, .i .i64 v6.1.Seq, .i .i64 v6.1.Token, .i .i64 v6.1.Attempt, .b v6.1.RO, .sl v6.1.Key.length (v6.1.Key.flatMap eU8), .sl v6.1.Val.length (v6.1.Val.flatMap eU8), .sl v6.1.Rng.Lo.length (v6.1.Rng.Lo.flatMap eU8), .sl v6.1.Rng.Hi.length (v6.1.Rng.Hi.flatMap eU8), .b v6.1.Rng.Open]] rfl ?_
  refine sv rfl (opv_as rfl) ?_
  refine snil ?_
  refine cseq ?_
  refine cregion ?_
  refine sv rfl (opv_loadN ti46 rfl (.lp _ _ _ rfl) (Nat.le_of_ble_eq_true rfl)) ?_
  refine sv rfl (opv_build zi51 pi51 (parts_cons rfl parts_nil) (.cons _ _ _ _ _ _ _ rfl rfl (Nat.le_of_ble_eq_true rfl) (.nil _))) ?_
  obtain ⟨v7, hv7, h⟩ := bind_eq h
  refine scall1 rfl fn13 (opnds_cons rfl (opnds_cons rfl opnds_nil)) (pubC rfl) (m13_pipe_Offer_c hv7) ?_
  refine sv rfl (opv_mvt rfl) ?_
  refine sv rfl (opv_extract rfl rfl) ?_
  refine sv rfl (opv_extract rfl rfl) ?_
  refine sv rfl (opv_extract rfl rfl) ?_
  refine sv rfl (opv_extract rfl rfl) ?_
  refine salloc rfl zi46 ?_
  refine salloc rfl zi48 ?_
  refine sstore sz46 rfl rfl rfl rfl (Nat.le_of_ble_eq_true rfl) ?_
  refine smem [.box [.i .i64 v5.1.Win.Base, .i .u64 (v5.1.Win.Bits.toNat : Int), .i .i64 v5.1.Next, .sl v5.1.Wait.length (v5.1.Wait.flatMap eGMsgReq), .sl v5.1.Past.length (v5.1.Past.flatMap eGMsgReply)], .box [.i .i64 v1.2.1.Kind, .i .i64 v1.2.1.Seq, .i .i64 v1.2.1.Code, .i .i64 v1.2.1.N, .b v1.2.1.Found, .sl v1.2.1.Val.length (v1.2.1.Val.flatMap eU8), .sl v1.2.1.List.length (v1.2.1.List.flatMap eGApiKV)], .box [.i .i64 v2.1.Kind, .i .i64 v2.1.Seq, .i .i64 v2.1.Token, .i .i64 v2.1.Attempt, .b v2.1.RO, .sl v2.1.Key.length (v2.1.Key.flatMap eU8), .sl v2.1.Val.length (v2.1.Val.flatMap eU8), .sl v2.1.Rng.Lo.length (v2.1.Rng.Lo.flatMap eU8), .sl v2.1.Rng.Hi.length (v2.1.Rng.Hi.flatMap eU8), .b v2.1.Rng.Open], .box [.i .i64 v3.2.1.Kind, .i .i64 v3.2.1.Seq, .i .i64 v3.2.1.Code, .i .i64 v3.2.1.N, .b v3.2.1.Found, .sl v3.2.1.Val.length (v3.2.1.Val.flatMap eU8), .sl v3.2.1.List.length (v3.2.1.List.flatMap eGApiKV)], .box [.i .i64 v4.1.Kind, .i .i64 v4.1.Seq, .i .i64 v4.1.Token, .i .i64 v4.1.Attempt, .b v4.1.RO, .sl v4.1.Key.length (v4.1.Key.flatMap eU8), .sl v4.1.Val.length (v4.1.Val.flatMap eU8), .sl v4.1.Rng.Lo.length (v4.1.Rng.Lo.flatMap eU8), .sl v4.1.Rng.Hi.length (v4.1.Rng.Hi.flatMap eU8), .b v4.1.Rng.Open], .box [.i .i64 v5.2.1.Kind, .i .i64 v5.2.1.Seq, .i .i64 v5.2.1.Code, .i .i64 v5.2.1.N, .b v5.2.1.Found, .sl v5.2.1.Val.length (v5.2.1.Val.flatMap eU8), .sl v5.2.1.List.length (v5.2.1.List.flatMap eGApiKV)], .box [.i .i64 v6.1.Kind, .i .i64 v6.1.Seq, .i .i64 v6.1.Token, .i .i64 v6.1.Attempt, .b v6.1.RO, .sl v6.1.Key.length (v6.1.Key.flatMap eU8), .sl v6.1.Val.length (v6.1.Val.flatMap eU8), .sl v6.1.Rng.Lo.length (v6.1.Rng.Lo.flatMap eU8), .sl v6.1.Rng.Hi.length (v6.1.Rng.Hi.flatMap eU8), .b v6.1.Rng.Open], .box [.i .i64 v7.1.Win.Base, .i .u64 (v7.1.Win.Bits.toNat : Int), .i .i64 v7.1.Next, .sl v7.1.Wait.length (v7.1.Wait.flatMap eGMsgReq), .sl v7.1.Past.length (v7.1.Past.flatMap eGMsgReply)], .box [.i .i64 0, .i .i64 0, .i .i64 0, .i .i64 0, .b false, .raw (.slice none 0 0), .raw (.slice none 0 0)]] rfl ?_
  refine sstore sz48 rfl rfl rfl rfl (Nat.le_of_ble_eq_true rfl) ?_
  refine smem [.box [.i .i64 v5.1.Win.Base, .i .u64 (v5.1.Win.Bits.toNat : Int), .i .i64 v5.1.Next, .sl v5.1.Wait.length (v5.1.Wait.flatMap eGMsgReq), .sl v5.1.Past.length (v5.1.Past.flatMap eGMsgReply)], .box [.i .i64 v1.2.1.Kind, .i .i64 v1.2.1.Seq, .i .i64 v1.2.1.Code, .i .i64 v1.2.1.N, .b v1.2.1.Found, .sl v1.2.1.Val.length (v1.2.1.Val.flatMap eU8), .sl v1.2.1.List.length (v1.2.1.List.flatMap eGApiKV)], .box [.i .i64 v2.1.Kind, .i .i64 v2.1.Seq, .i .i64 v2.1.Token, .i .i64 v2.1.Attempt, .b v2.1.RO, .sl v2.1.Key.length (v2.1.Key.flatMap eU8), .sl v2.1.Val.length (v2.1.Val.flatMap eU8), .sl v2.1.Rng.Lo.length (v2.1.Rng.Lo.flatMap eU8), .sl v2.1.Rng.Hi.length (v2.1.Rng.Hi.flatMap eU8), .b v2.1.Rng.Open], .box [.i .i64 v3.2.1.Kind, .i .i64 v3.2.1.Seq, .i .i64 v3.2.1.Code, .i .i64 v3.2.1.N, .b v3.2.1.Found, .sl v3.2.1.Val.length (v3.2.1.Val.flatMap eU8), .sl v3.2.1.List.length (v3.2.1.List.flatMap eGApiKV)], .box [.i .i64 v4.1.Kind, .i .i64 v4.1.Seq, .i .i64 v4.1.Token, .i .i64 v4.1.Attempt, .b v4.1.RO, .sl v4.1.Key.length (v4.1.Key.flatMap eU8), .sl v4.1.Val.length (v4.1.Val.flatMap eU8), .sl v4.1.Rng.Lo.length (v4.1.Rng.Lo.flatMap eU8), .sl v4.1.Rng.Hi.length (v4.1.Rng.Hi.flatMap eU8), .b v4.1.Rng.Open], .box [.i .i64 v5.2.1.Kind, .i .i64 v5.2.1.Seq, .i .i64 v5.2.1.Code, .i .i64 v5.2.1.N, .b v5.2.1.Found, .sl v5.2.1.Val.length (v5.2.1.Val.flatMap eU8), .sl v5.2.1.List.length (v5.2.1.List.flatMap eGApiKV)], .box [.i .i64 v6.1.Kind, .i .i64 v6.1.Seq, .i .i64 v6.1.Token, .i .i64 v6.1.Attempt, .b v6.1.RO, .sl v6.1.Key.length (v6.1.Key.flatMap eU8), .sl v6.1.Val.length (v6.1.Val.flatMap eU8), .sl v6.1.Rng.Lo.length (v6.1.Rng.Lo.flatMap eU8), .sl v6.1.Rng.Hi.length (v6.1.Rng.Hi.flatMap eU8), .b v6.1.Rng.Open], .box [.i .i64 v7.1.Win.Base, .i .u64 (v7.1.Win.Bits.toNat : Int), .i .i64 v7.1.Next, .sl v7.1.Wait.length (v7.1.Wait.flatMap eGMsgReq), .sl v7.1.Past.length (v7.1.Past.flatMap eGMsgReply)], .box [.i .i64 v7.2.1.Kind, .i .i64 v7.2.1.Seq, .i .i64 v7.2.1.Code, .i .i64 v7.2.1.N, .b v7.2.1.Found, .sl v7.2.1.Val.length (v7.2.1.Val.flatMap eU8), .sl v7.2.1.List.length (v7.2.1.List.flatMap eGApiKV)]] rfl ?_
  refine sv rfl (opv_as rfl) ?_
  refine sv rfl (opv_as rfl) ?_
  refine snil ?_
  refine cseq ?_
  refine cregion ?_
  refine sv rfl (opv_mv rfl) ?_
  refine sv rfl (opv_ieql rfl rfl) ?_
  refine sv rfl (opv_mv rfl) ?_
  refine ssplit 68 rfl (fun hc => ?_) (fun hc => ?_)
  · replace h := ite_t hc h
    clear hc
    refine son rfl rfl rfl ?_
    refine sv rfl (opv_mv rfl) ?_
    refine son rfl rfl rfl ?_
    refine sv rfl (opv_ieql rfl rfl) ?_
    refine sv rfl (opv_pick_t rfl rfl) ?_
    refine sv rfl (opv_mv rfl) ?_
    refine ssplit 72 rfl (fun hc => ?_) (fun hc => ?_)
    · replace h := ite_t hc h
      clear hc
      refine son rfl rfl rfl ?_
      refine sv rfl (opv_mv rfl) ?_
      refine son rfl rfl rfl ?_
      refine sv rfl (opv_ieql rfl rfl) ?_
      refine sv rfl (opv_pick_t rfl rfl) ?_
      refine sv rfl (opv_mv rfl) ?_
      refine ssplit 76 rfl (fun hc => ?_) (fun hc => ?_)
      · replace h := ite_t hc h
        clear hc
        refine son rfl rfl rfl ?_
        refine sv rfl (opv_mv rfl) ?_
        refine son rfl rfl rfl ?_
        refine sv rfl (opv_ieql rfl rfl) ?_
        refine sv rfl (opv_pick_t rfl rfl) ?_
        refine sv rfl (opv_mv rfl) ?_
        refine ssplit 80 rfl (fun hc => ?_) (fun hc => ?_)
        · replace h := ite_t hc h
          clear hc
          refine son rfl rfl rfl ?_
          refine sv rfl (opv_mv rfl) ?_
          refine son rfl rfl rfl ?_
          refine sv rfl (opv_not rfl) ?_
          refine sv rfl (opv_pick_t rfl rfl) ?_
          refine sv rfl (opv_mv rfl) ?_
          refine ssplit 84 rfl (fun hc => ?_) (fun hc => ?_)
          · replace h := ite_t hc h
            clear hc
            refine son rfl rfl rfl ?_
            refine sv rfl (opv_mv rfl) ?_
            refine sv rfl (opv_pick_t rfl rfl) ?_
            refine sv rfl (opv_mv rfl) ?_
            refine ssplit 87 rfl (fun hc => ?_) (fun hc => ?_)
            · replace h := ite_t hc h
              clear hc
              refine son rfl rfl rfl ?_
              refine sv rfl (opv_fieldAddr_lp fi51_0 rfl) ?_
              refine son rfl rfl rfl ?_
              refine sv rfl (opv_load1 ti3 rfl (.lp _ _ _ rfl) rfl) ?_
              refine son rfl rfl rfl ?_
              refine sv rfl (opv_ieql rfl rfl) ?_
              refine sv rfl (opv_pick_t rfl rfl) ?_
              refine sv rfl (opv_mv rfl) ?_
              refine ssplit 92 rfl (fun hc => ?_) (fun hc => ?_)
              · replace h := ite_t hc h
                clear hc
                refine son rfl rfl rfl ?_
                refine sv rfl (opv_mv rfl) ?_
                refine sv rfl (opv_pick_t rfl rfl) ?_
                refine sv rfl (opv_mv rfl) ?_
                refine ssplit 95 rfl (fun hc => ?_) (fun hc => ?_)
                · replace h := ite_t hc h
                  clear hc
                  refine son rfl rfl rfl ?_
                  refine sv rfl (opv_fieldAddr_lp fi51_1 rfl) ?_
                  refine son rfl rfl rfl ?_
                  refine sv rfl (opv_load1 ti3 rfl (.lp _ _ _ rfl) rfl) ?_
                  refine son rfl rfl rfl ?_
                  refine sv rfl (opv_ieql rfl rfl) ?_
                  refine sv rfl (opv_pick_t rfl rfl) ?_
                  refine sv rfl (opv_mv rfl) ?_
                  refine ssplit 100 rfl (fun hc => ?_) (fun hc => ?_)
                  · replace h := ite_t hc h
                    clear hc
                    refine son rfl rfl rfl ?_
                    refine sv rfl (opv_mv rfl) ?_
                    refine sv rfl (opv_pick_t rfl rfl) ?_
                    refine sv rfl (opv_mv rfl) ?_
                    refine ssplit 103 rfl (fun hc => ?_) (fun hc => ?_)
                    · replace h := ite_t hc h
                      clear hc
                      refine son rfl rfl rfl ?_
                      refine sv rfl (opv_fieldAddr_lp fi48_3 rfl) ?_
                      refine son rfl rfl rfl ?_
                      refine sv rfl (opv_load1 ti3 rfl (.lp _ _ _ rfl) rfl) ?_
                      refine son rfl rfl rfl ?_
                      refine sv rfl (opv_ieql rfl rfl) ?_
                      refine sv rfl (opv_pick_t rfl rfl) ?_
                      refine sv rfl (opv_mv rfl) ?_
                      refine ssplit 108 rfl (fun hc => ?_) (fun hc => ?_)
                      · replace h := ite_t hc h
                        clear hc
                        refine son rfl rfl rfl ?_
                        refine sv rfl (opv_fieldAddr_lp fi48_0 rfl) ?_
                        refine son rfl rfl rfl ?_
                        refine sv rfl (opv_load1 ti3 rfl (.lp _ _ _ rfl) rfl) ?_
                        refine son rfl rfl rfl ?_
                        refine sv rfl (opv_ieql rfl rfl) ?_
                        refine sv rfl (opv_pick_t rfl rfl) ?_
                        refine sv rfl (opv_as rfl) ?_
                        refine snil ?_
                        refine cret ?_
                        obtain rfl := Option.some.inj h
                        refine ⟨Or.inr rfl, _, _, _, (resVs_cons (ResV.tmp _ _ rfl) resVs_nil), (pubA_id rfl), ?_⟩
                        rfl
                      · replace h := ite_f hc h
                        clear hc
                        refine soff rfl rfl rfl rfl ?_
                        refine soff rfl rfl rfl rfl ?_
                        refine soff rfl rfl rfl rfl ?_
                        refine sv rfl (opv_pick_f rfl rfl) ?_
                        refine sv rfl (opv_as rfl) ?_
                        refine snil ?_
                        refine cret ?_
                        obtain rfl := Option.some.inj h
                        refine ⟨Or.inr rfl, _, _, _, (resVs_cons (ResV.tmp _ _ rfl) resVs_nil), (pubA_id rfl), ?_⟩
                        rfl
                    · replace h := ite_f hc h
                      clear hc
                      refine soff rfl rfl rfl rfl ?_
                      refine soff rfl rfl rfl rfl ?_
                      refine soff rfl rfl rfl rfl ?_
                      refine sv rfl (opv_pick_f rfl rfl) ?_
                      refine sv rfl (opv_mv rfl) ?_
                      refine soff rfl rfl rfl rfl ?_
                      refine soff rfl rfl rfl rfl ?_
                      refine soff rfl rfl rfl rfl ?_
                      refine sv rfl (opv_pick_f rfl rfl) ?_
                      refine sv rfl (opv_as rfl) ?_
                      refine snil ?_
                      refine cret ?_
                      obtain rfl := Option.some.inj h
                      refine ⟨Or.inr rfl, _, _, _, (resVs_cons (ResV.tmp _ _ rfl) resVs_nil), (pubA_id rfl), ?_⟩
                      rfl
                  · replace h := ite_f hc h
                    clear hc
                    refine soff rfl rfl rfl rfl ?_
                    refine sv rfl (opv_pick_f rfl rfl) ?_
                    refine sv rfl (opv_mv rfl) ?_
                    refine soff rfl rfl rfl rfl ?_
                    refine soff rfl rfl rfl rfl ?_
                    refine soff rfl rfl rfl rfl ?_
                    refine sv rfl (opv_pick_f rfl rfl) ?_
                    refine sv rfl (opv_mv rfl) ?_
                    refine soff rfl rfl rfl rfl ?_
                    refine soff rfl rfl rfl rfl ?_
                    refine soff rfl rfl rfl rfl ?_
                    refine sv rfl (opv_pick_f rfl rfl) ?_
                    refine sv rfl (opv_as rfl) ?_
                    refine snil ?_
                    refine cret ?_
                    obtain rfl := Option.some.inj h
                    refine ⟨Or.inr rfl, _, _, _, (resVs_cons (ResV.tmp _ _ rfl) resVs_nil), (pubA_id rfl), ?_⟩
                    rfl
                · replace h := ite_f hc h
                  clear hc
                  refine soff rfl rfl rfl rfl ?_
                  refine soff rfl rfl rfl rfl ?_
                  refine soff rfl rfl rfl rfl ?_
                  refine sv rfl (opv_pick_f rfl rfl) ?_
                  refine sv rfl (opv_mv rfl) ?_
                  refine soff rfl rfl rfl rfl ?_
                  refine sv rfl (opv_pick_f rfl rfl) ?_
                  refine sv rfl (opv_mv rfl) ?_
                  refine soff rfl rfl rfl rfl ?_
                  refine soff rfl rfl rfl rfl ?_
                  refine soff rfl rfl rfl rfl ?_
                  refine sv rfl (opv_pick_f rfl rfl) ?_
                  refine sv rfl (opv_mv rfl) ?_
                  refine soff rfl rfl rfl rfl ?_
                  refine soff rfl rfl rfl rfl ?_
                  refine soff rfl rfl rfl rfl ?_
                  refine sv rfl (opv_pick_f rfl rfl) ?_
                  refine sv rfl (opv_as rfl) ?_
                  refine snil ?_
                  refine cret ?_
                  obtain rfl := Option.some.inj h
                  refine ⟨Or.inr rfl, _, _, _, (resVs_cons (ResV.tmp _ _ rfl) resVs_nil), (pubA_id rfl), ?_⟩
                  rfl
              · replace h := ite_f hc h
                clear hc
                refine soff rfl rfl rfl rfl ?_
                refine sv rfl (opv_pick_f rfl rfl) ?_
                refine sv rfl (opv_mv rfl) ?_
                refine soff rfl rfl rfl rfl ?_
                refine soff rfl rfl rfl rfl ?_
                refine soff rfl rfl rfl rfl ?_
                refine sv rfl (opv_pick_f rfl rfl) ?_
                refine sv rfl (opv_mv rfl) ?_
                refine soff rfl rfl rfl rfl ?_
                refine sv rfl (opv_pick_f rfl rfl) ?_
                refine sv rfl (opv_mv rfl) ?_
                refine soff rfl rfl rfl rfl ?_
                refine soff rfl rfl rfl rfl ?_
                refine soff rfl rfl rfl rfl ?_
                refine sv rfl (opv_pick_f rfl rfl) ?_
                refine sv rfl (opv_mv rfl) ?_
                refine soff rfl rfl rfl rfl ?_
                refine soff rfl rfl rfl rfl ?_
                refine soff rfl rfl rfl rfl ?_
                refine sv rfl (opv_pick_f rfl rfl) ?_
                refine sv rfl (opv_as rfl) ?_
                refine snil ?_
                refine cret ?_
                obtain rfl := Option.some.inj h
                refine ⟨Or.inr rfl, _, _, _, (resVs_cons (ResV.tmp _ _ rfl) resVs_nil), (pubA_id rfl), ?_⟩
                rfl
            · replace h := ite_f hc h
              clear hc
              refine soff rfl rfl rfl rfl ?_
              refine soff rfl rfl rfl rfl ?_
              refine soff rfl rfl rfl rfl ?_
              refine sv rfl (opv_pick_f rfl rfl) ?_
              refine sv rfl (opv_mv rfl) ?_
              refine soff rfl rfl rfl rfl ?_
              refine sv rfl (opv_pick_f rfl rfl) ?_
              refine sv rfl (opv_mv rfl) ?_
              refine soff rfl rfl rfl rfl ?_
              refine soff rfl rfl rfl rfl ?_
              refine soff rfl rfl rfl rfl ?_
              refine sv rfl (opv_pick_f rfl rfl) ?_
              refine sv rfl (opv_mv rfl) ?_
              refine soff rfl rfl rfl rfl ?_
              refine sv rfl (opv_pick_f rfl rfl) ?_
              refine sv rfl (opv_mv rfl) ?_
              refine soff rfl rfl rfl rfl ?_
              refine soff rfl rfl rfl rfl ?_
              refine soff rfl rfl rfl rfl ?_
              refine sv rfl (opv_pick_f rfl rfl) ?_
              refine sv rfl (opv_mv rfl) ?_
              refine soff rfl rfl rfl rfl ?_
              refine soff rfl rfl rfl rfl ?_
              refine soff rfl rfl rfl rfl ?_
              refine sv rfl (opv_pick_f rfl rfl) ?_
              refine sv rfl (opv_as rfl) ?_
              refine snil ?_
              refine cret ?_
              obtain rfl := Option.some.inj h
              refine ⟨Or.inr rfl, _, _, _, (resVs_cons (ResV.tmp _ _ rfl) resVs_nil), (pubA_id rfl), ?_⟩
              rfl
          · replace h := ite_f hc h
            clear hc
            refine soff rfl rfl rfl rfl ?_
            refine sv rfl (opv_pick_f rfl rfl) ?_
            refine sv rfl (opv_mv rfl) ?_
            refine soff rfl rfl rfl rfl ?_
            refine soff rfl rfl rfl rfl ?_
            refine soff rfl rfl rfl rfl ?_
            refine sv rfl (opv_pick_f rfl rfl) ?_
            refine sv rfl (opv_mv rfl) ?_
            refine soff rfl rfl rfl rfl ?_
            refine sv rfl (opv_pick_f rfl rfl) ?_
            refine sv rfl (opv_mv rfl) ?_
            refine soff rfl rfl rfl rfl ?_
            refine soff rfl rfl rfl rfl ?_
            refine soff rfl rfl rfl rfl ?_
            refine sv rfl (opv_pick_f rfl rfl) ?_
            refine sv rfl (opv_mv rfl) ?_
            refine soff rfl rfl rfl rfl ?_
            refine sv rfl (opv_pick_f rfl rfl) ?_
            refine sv rfl (opv_mv rfl) ?_
            refine soff rfl rfl rfl rfl ?_
            refine soff rfl rfl rfl rfl ?_
            refine soff rfl rfl rfl rfl ?_
            refine sv rfl (opv_pick_f rfl rfl) ?_
            refine sv rfl (opv_mv rfl) ?_
            refine soff rfl rfl rfl rfl ?_
            refine soff rfl rfl rfl rfl ?_
            refine soff rfl rfl rfl rfl ?_
            refine sv rfl (opv_pick_f rfl rfl) ?_
            refine sv rfl (opv_as rfl) ?_
            refine snil ?_
            refine cret ?_
            obtain rfl := Option.some.inj h
            refine ⟨Or.inr rfl, _, _, _, (resVs_cons (ResV.tmp _ _ rfl) resVs_nil), (pubA_id rfl), ?_⟩
            rfl
        · replace h := ite_f hc h
          clear hc
          refine soff rfl rfl rfl rfl ?_
          refine soff rfl rfl rfl rfl ?_
          refine sv rfl (opv_pick_f rfl rfl) ?_
          refine sv rfl (opv_mv rfl) ?_
          refine soff rfl rfl rfl rfl ?_
          refine sv rfl (opv_pick_f rfl rfl) ?_
          refine sv rfl (opv_mv rfl) ?_
          refine soff rfl rfl rfl rfl ?_
          refine soff rfl rfl rfl rfl ?_
          refine soff rfl rfl rfl rfl ?_
          refine sv rfl (opv_pick_f rfl rfl) ?_
          refine sv rfl (opv_mv rfl) ?_
          refine soff rfl rfl rfl rfl ?_
          refine sv rfl (opv_pick_f rfl rfl) ?_
          refine sv rfl (opv_mv rfl) ?_
          refine soff rfl rfl rfl rfl ?_
          refine soff rfl rfl rfl rfl ?_
          refine soff rfl rfl rfl rfl ?_
          refine sv rfl (opv_pick_f rfl rfl) ?_
          refine sv rfl (opv_mv rfl) ?_
          refine soff rfl rfl rfl rfl ?_
          refine sv rfl (opv_pick_f rfl rfl) ?_
          refine sv rfl (opv_mv rfl) ?_
          refine soff rfl rfl rfl rfl ?_
          refine soff rfl rfl rfl rfl ?_
          refine soff rfl rfl rfl rfl ?_
          refine sv rfl (opv_pick_f rfl rfl) ?_
          refine sv rfl (opv_mv rfl) ?_
          refine soff rfl rfl rfl rfl ?_
          refine soff rfl rfl rfl rfl ?_
          refine soff rfl rfl rfl rfl ?_
          refine sv rfl (opv_pick_f rfl rfl) ?_
          refine sv rfl (opv_as rfl) ?_
          refine snil ?_
          refine cret ?_
          obtain rfl := Option.some.inj h
          refine ⟨Or.inr rfl, _, _, _, (resVs_cons (ResV.tmp _ _ rfl) resVs_nil), (pubA_id rfl), ?_⟩
          rfl
      · replace h := ite_f hc h
        clear hc
        refine soff rfl rfl rfl rfl ?_
        refine soff rfl rfl rfl rfl ?_
        refine sv rfl (opv_pick_f rfl rfl) ?_
        refine sv rfl (opv_mv rfl) ?_
        refine soff rfl rfl rfl rfl ?_
        refine soff rfl rfl rfl rfl ?_
        refine sv rfl (opv_pick_f rfl rfl) ?_
        refine sv rfl (opv_mv rfl) ?_
        refine soff rfl rfl rfl rfl ?_
        refine sv rfl (opv_pick_f rfl rfl) ?_
        refine sv rfl (opv_mv rfl) ?_
        refine soff rfl rfl rfl rfl ?_
        refine soff rfl rfl rfl rfl ?_
        refine soff rfl rfl rfl rfl ?_
        refine sv rfl (opv_pick_f rfl rfl) ?_
        refine sv rfl (opv_mv rfl) ?_
        refine soff rfl rfl rfl rfl ?_
        refine sv rfl (opv_pick_f rfl rfl) ?_
        refine sv rfl (opv_mv rfl) ?_
        refine soff rfl rfl rfl rfl ?_
        refine soff rfl rfl rfl rfl ?_
        refine soff rfl rfl rfl rfl ?_
        refine sv rfl (opv_pick_f rfl rfl) ?_
        refine sv rfl (opv_mv rfl) ?_
        refine soff rfl rfl rfl rfl ?_
        refine sv rfl (opv_pick_f rfl rfl) ?_
        refine sv rfl (opv_mv rfl) ?_
        refine soff rfl rfl rfl rfl ?_
        refine soff rfl rfl rfl rfl ?_
        refine soff rfl rfl rfl rfl ?_
        refine sv rfl (opv_pick_f rfl rfl) ?_
        refine sv rfl (opv_mv rfl) ?_
        refine soff rfl rfl rfl rfl ?_
        refine soff rfl rfl rfl rfl ?_
        refine soff rfl rfl rfl rfl ?_
        refine sv rfl (opv_pick_f rfl rfl) ?_
        refine sv rfl (opv_as rfl) ?_
        refine snil ?_
        refine cret ?_
        obtain rfl := Option.some.inj h
        refine ⟨Or.inr rfl, _, _, _, (resVs_cons (ResV.tmp _ _ rfl) resVs_nil), (pubA_id rfl), ?_⟩
        rfl
    · replace h := ite_f hc h
      clear hc
      refine soff rfl rfl rfl rfl ?_
      refine soff rfl rfl rfl rfl ?_
      refine sv rfl (opv_pick_f rfl rfl) ?_
      refine sv rfl (opv_mv rfl) ?_
      refine soff rfl rfl rfl rfl ?_
      refine soff rfl rfl rfl rfl ?_
      refine sv rfl (opv_pick_f rfl rfl) ?_
      refine sv rfl (opv_mv rfl) ?_
      refine soff rfl rfl rfl rfl ?_
      refine soff rfl rfl rfl rfl ?_
      refine sv rfl (opv_pick_f rfl rfl) ?_
      refine sv rfl (opv_mv rfl) ?_
      refine soff rfl rfl rfl rfl ?_
      refine sv rfl (opv_pick_f rfl rfl) ?_
      refine sv rfl (opv_mv rfl) ?_
      refine soff rfl rfl rfl rfl ?_
      refine soff rfl rfl rfl rfl ?_
      refine soff rfl rfl rfl rfl ?_
      refine sv rfl (opv_pick_f rfl rfl) ?_
      refine sv rfl (opv_mv rfl) ?_
      refine soff rfl rfl rfl rfl ?_
      refine sv rfl (opv_pick_f rfl rfl) ?_
      refine sv rfl (opv_mv rfl) ?_
      refine soff rfl rfl rfl rfl ?_
      refine soff rfl rfl rfl rfl ?_
      refine soff rfl rfl rfl rfl ?_
      refine sv rfl (opv_pick_f rfl rfl) ?_
      refine sv rfl (opv_mv rfl) ?_
      refine soff rfl rfl rfl rfl ?_
      refine sv rfl (opv_pick_f rfl rfl) ?_
      refine sv rfl (opv_mv rfl) ?_
      refine soff rfl rfl rfl rfl ?_
      refine soff rfl rfl rfl rfl ?_
      refine soff rfl rfl rfl rfl ?_
      refine sv rfl (opv_pick_f rfl rfl) ?_
      refine sv rfl (opv_mv rfl) ?_
      refine soff rfl rfl rfl rfl ?_
      refine soff rfl rfl rfl rfl ?_
      refine soff rfl rfl rfl rfl ?_
      refine sv rfl (opv_pick_f rfl rfl) ?_
      refine sv rfl (opv_as rfl) ?_
      refine snil ?_
      refine cret ?_
      obtain rfl := Option.some.inj h
      refine ⟨Or.inr rfl, _, _, _, (resVs_cons (ResV.tmp _ _ rfl) resVs_nil), (pubA_id rfl), ?_⟩
      rfl
  · replace h := ite_f hc h
    clear hc
    refine soff rfl rfl rfl rfl ?_
    refine soff rfl rfl rfl rfl ?_
    refine sv rfl (opv_pick_f rfl rfl) ?_
    refine sv rfl (opv_mv rfl) ?_
    refine soff rfl rfl rfl rfl ?_
    refine soff rfl rfl rfl rfl ?_
    refine sv rfl (opv_pick_f rfl rfl) ?_
    refine sv rfl (opv_mv rfl) ?_
    refine soff rfl rfl rfl rfl ?_
    refine soff rfl rfl rfl rfl ?_
    refine sv rfl (opv_pick_f rfl rfl) ?_
    refine sv rfl (opv_mv rfl) ?_
    refine soff rfl rfl rfl rfl ?_
    refine soff rfl rfl rfl rfl ?_
    refine sv rfl (opv_pick_f rfl rfl) ?_
    refine sv rfl (opv_mv rfl) ?_
    refine soff rfl rfl rfl rfl ?_
    refine sv rfl (opv_pick_f rfl rfl) ?_
    refine sv rfl (opv_mv rfl) ?_
    refine soff rfl rfl rfl rfl ?_
    refine soff rfl rfl rfl rfl ?_
    refine soff rfl rfl rfl rfl ?_
    refine sv rfl (opv_pick_f rfl rfl) ?_
    refine sv rfl (opv_mv rfl) ?_
    refine soff rfl rfl rfl rfl ?_
    refine sv rfl (opv_pick_f rfl rfl) ?_
    refine sv rfl (opv_mv rfl) ?_
    refine soff rfl rfl rfl rfl ?_
    refine soff rfl rfl rfl rfl ?_
    refine soff rfl rfl rfl rfl ?_
    refine sv rfl (opv_pick_f rfl rfl) ?_
    refine sv rfl (opv_mv rfl) ?_
    refine soff rfl rfl rfl rfl ?_
    refine sv rfl (opv_pick_f rfl rfl) ?_
    refine sv rfl (opv_mv rfl) ?_
    refine soff rfl rfl rfl rfl ?_
    refine soff rfl rfl rfl rfl ?_
    refine soff rfl rfl rfl rfl ?_
    refine sv rfl (opv_pick_f rfl rfl) ?_
    refine sv rfl (opv_mv rfl) ?_
    refine soff rfl rfl rfl rfl ?_
    refine soff rfl rfl rfl rfl ?_
    refine soff rfl rfl rfl rfl ?_
    refine sv rfl (opv_pick_f rfl rfl) ?_
    refine sv rfl (opv_as rfl) ?_
    refine snil ?_
    refine cret ?_
    obtain rfl := Option.some.inj h
    refine ⟨Or.inr rfl, _, _, _, (resVs_cons (ResV.tmp _ _ rfl) resVs_nil), (pubA_id rfl), ?_⟩
    rfl

def m5_l16_PipeOrder_k7 (a0 : Int) (v1 : Bool) (v6 : GPipePipe × GMsgReply × Bool × Int) (b7 : Int × (BitVec 64) × Int × (List GMsgReq) × (List GMsgReply)) : Option Bool :=
  (m19_pipe_Ready (GPipePipe.mk (GSeqsWindow.mk b7.1 b7.2.1) b7.2.2.1 b7.2.2.2.1 b7.2.2.2.2)).bind fun v8 => if v1 then (if (!v8.2) then (if (decide (v6.2.2.2 = 8)) then (if (decide (b7.2.2.1 = (wI (1 + (wI ((BitVec.ofInt 64 a0 &&& BitVec.ofInt 64 7).toNat : Int)))))) then (if (decide ((b7.2.2.2.2.length : Int) = (wI (1 + (wI ((BitVec.ofInt 64 a0 &&& BitVec.ofInt 64 7).toNat : Int)))))) then (some (decide ((b7.2.2.2.1.length : Int) = 0))) else (some false)) else (some false)) else (some false)) else (some false)) else (some false)

def m5_l16_PipeOrder_k12 (s9 : Int × Int × (BitVec 64) × Int × (List GMsgReq) × (List GMsgReply)) (v11 : GPipePipe × GMsgReply × Int) (b12 : Unit) : Option (LR (Int × Int × (BitVec 64) × Int × (List GMsgReq) × (List GMsgReply)) (Int × (BitVec 64) × Int × (List GMsgReq) × (List GMsgReply)) (Bool)) :=
  some (.cont ((wI (s9.1 + 1)), v11.1.Win.Base, v11.1.Win.Bits, v11.1.Next, v11.1.Wait, v11.1.Past))

def m5_l16_PipeOrder_s9 (a0 : Int) (s9 : Int × Int × (BitVec 64) × Int × (List GMsgReq) × (List GMsgReply)) : Option (LR (Int × Int × (BitVec 64) × Int × (List GMsgReq) × (List GMsgReply)) (Int × (BitVec 64) × Int × (List GMsgReq) × (List GMsgReply)) (Bool)) :=
  if (decide (s9.1 < (wI (1 + (wI ((BitVec.ofInt 64 a0 &&& BitVec.ofInt 64 7).toNat : Int)))))) then ((m19_pipe_Ready (GPipePipe.mk (GSeqsWindow.mk s9.2.1 s9.2.2.1) s9.2.2.2.1 s9.2.2.2.2.1 s9.2.2.2.2.2)).bind fun v10 => (m16_pipe_Answer (GPipePipe.mk (GSeqsWindow.mk s9.2.1 s9.2.2.1) s9.2.2.2.1 s9.2.2.2.2.1 s9.2.2.2.2.2) (GMsgReply.mk 0 0 0 s9.1 false ([] : List UInt8) ([] : List GApiKV))).bind fun v11 => if (!v10.2) then (some (.ret false)) else (if (!decide (v10.1.Token = s9.1)) then (some (.ret false)) else (if (!decide (v11.2.2 = 0)) then (some (.ret false)) else (if (!decide (v11.2.1.N = s9.1)) then (some (.ret false)) else (if (!decide (v11.2.1.Seq = s9.1)) then (some (.ret false)) else (m5_l16_PipeOrder_k12 s9 v11 ())))))) else (some (.brk (s9.2.1, s9.2.2.1, s9.2.2.2.1, s9.2.2.2.2.1, s9.2.2.2.2.2)))

def m5_l16_PipeOrder_k5 (a0 : Int) (v1 : Bool) (b5 : Int × (BitVec 64) × Int × (List GMsgReq) × (List GMsgReply)) : Option Bool :=
  (m13_pipe_Offer (GPipePipe.mk (GSeqsWindow.mk b5.1 b5.2.1) b5.2.2.1 b5.2.2.2.1 b5.2.2.2.2) (GMsgReq.mk 7 8 0 0 false ([] : List UInt8) ([] : List UInt8) (GApiRange.mk ([] : List UInt8) ([] : List UInt8) false))).bind fun v6 => (iter (m5_l16_PipeOrder_s9 a0) fuel (0, b5.1, b5.2.1, b5.2.2.1, b5.2.2.2.1, b5.2.2.2.2)).bind fun x => match x with | .inl r => some r | .inr e13 => m5_l16_PipeOrder_k7 a0 v1 v6 e13

def m5_l16_PipeOrder_k18 (s14 : Int × Int × (BitVec 64) × Int × (List GMsgReq) × (List GMsgReply)) (v17 : GPipePipe × GMsgReply × Bool × Int) (b18 : Unit) : Option (LR (Int × Int × (BitVec 64) × Int × (List GMsgReq) × (List GMsgReply)) (Int × (BitVec 64) × Int × (List GMsgReq) × (List GMsgReply)) (Bool)) :=
  some (.cont ((wI (s14.1 + 1)), v17.1.Win.Base, v17.1.Win.Bits, v17.1.Next, v17.1.Wait, v17.1.Past))

def m5_l16_PipeOrder_s14 (a0 : Int) (b4 : (List Int)) (s14 : Int × Int × (BitVec 64) × Int × (List GMsgReq) × (List GMsgReply)) : Option (LR (Int × Int × (BitVec 64) × Int × (List GMsgReq) × (List GMsgReply)) (Int × (BitVec 64) × Int × (List GMsgReq) × (List GMsgReply)) (Bool)) :=
  if (decide (s14.1 < (wI (1 + (wI ((BitVec.ofInt 64 a0 &&& BitVec.ofInt 64 7).toNat : Int)))))) then ((idx b4 s14.1).bind fun u15 => (idx b4 s14.1).bind fun u16 => (m13_pipe_Offer (GPipePipe.mk (GSeqsWindow.mk s14.2.1 s14.2.2.1) s14.2.2.2.1 s14.2.2.2.2.1 s14.2.2.2.2.2) (GMsgReq.mk 9 u15 u16 0 false ([] : List UInt8) ([] : List UInt8) (GApiRange.mk ([] : List UInt8) ([] : List UInt8) false))).bind fun v17 => if v17.2.2.1 then (some (.ret false)) else (if (!decide (v17.2.2.2 = 0)) then (some (.ret false)) else (m5_l16_PipeOrder_k18 s14 v17 ()))) else (some (.brk (s14.2.1, s14.2.2.1, s14.2.2.2.1, s14.2.2.2.2.1, s14.2.2.2.2.2)))

def m5_l16_PipeOrder_k4 (a0 : Int) (v1 : Bool) (b4 : (List Int)) : Option Bool :=
  (iter (m5_l16_PipeOrder_s14 a0 b4) fuel (0, 0, 0#64, 0, ([] : List GMsgReq), ([] : List GMsgReply))).bind fun x => match x with | .inl r => some r | .inr e19 => m5_l16_PipeOrder_k5 a0 v1 e19

def m5_l16_PipeOrder_s20 (a0 : Int) (a1 : List Int) (s20 : Int × (List Int)) : Option (LB (Int × (List Int)) ((List Int))) :=
  if (decide (s20.1 < (a1.length : Int))) then ((idx a1 s20.1).bind fun u21 => if (wI (1 + (wI ((BitVec.ofInt 64 a0 &&& BitVec.ofInt 64 7).toNat : Int)))) ≠ 0 then ((idx a1 s20.1).bind fun u23 => if (wI (1 + (wI ((BitVec.ofInt 64 a0 &&& BitVec.ofInt 64 7).toNat : Int)))) ≠ 0 then ((idx s20.2 ((wI ((BitVec.ofInt 64 u21 &&& BitVec.ofInt 64 255).toNat : Int)).tmod (wI (1 + (wI ((BitVec.ofInt 64 a0 &&& BitVec.ofInt 64 7).toNat : Int)))))).bind fun u25 => (idx s20.2 ((wI ((BitVec.ofInt 64 (u23.fdiv (2 ^ (min ((8#64).toNat : Int).toNat 64))) &&& BitVec.ofInt 64 255).toNat : Int)).tmod (wI (1 + (wI ((BitVec.ofInt 64 a0 &&& BitVec.ofInt 64 7).toNat : Int)))))).bind fun u26 => (idx s20.2 ((wI ((BitVec.ofInt 64 u21 &&& BitVec.ofInt 64 255).toNat : Int)).tmod (wI (1 + (wI ((BitVec.ofInt 64 a0 &&& BitVec.ofInt 64 7).toNat : Int)))))).bind fun u27 => (idx (s20.2.set (((wI ((BitVec.ofInt 64 u21 &&& BitVec.ofInt 64 255).toNat : Int)).tmod (wI (1 + (wI ((BitVec.ofInt 64 a0 &&& BitVec.ofInt 64 7).toNat : Int))))).toNat) u26) ((wI ((BitVec.ofInt 64 (u23.fdiv (2 ^ (min ((8#64).toNat : Int).toNat 64))) &&& BitVec.ofInt 64 255).toNat : Int)).tmod (wI (1 + (wI ((BitVec.ofInt 64 a0 &&& BitVec.ofInt 64 7).toNat : Int)))))).bind fun u28 => some (.cont ((wI (s20.1 + 1)), ((s20.2.set (((wI ((BitVec.ofInt 64 u21 &&& BitVec.ofInt 64 255).toNat : Int)).tmod (wI (1 + (wI ((BitVec.ofInt 64 a0 &&& BitVec.ofInt 64 7).toNat : Int))))).toNat) u26).set (((wI ((BitVec.ofInt 64 (u23.fdiv (2 ^ (min ((8#64).toNat : Int).toNat 64))) &&& BitVec.ofInt 64 255).toNat : Int)).tmod (wI (1 + (wI ((BitVec.ofInt 64 a0 &&& BitVec.ofInt 64 7).toNat : Int))))).toNat) u25)))) else none) else none) else (some (.brk s20.2))

def m5_l16_PipeOrder_k3 (a0 : Int) (a1 : List Int) (v1 : Bool) (b3 : (List Int)) : Option Bool :=
  (iterB (m5_l16_PipeOrder_s20 a0 a1) fuel (0, b3)).bind fun e29 => m5_l16_PipeOrder_k4 a0 v1 e29

def m5_l16_PipeOrder_s30 (a0 : Int) (s30 : Int × (List Int)) : Option (LB (Int × (List Int)) ((List Int))) :=
  if (decide (s30.1 < (wI (1 + (wI ((BitVec.ofInt 64 a0 &&& BitVec.ofInt 64 7).toNat : Int)))))) then ((idx s30.2 s30.1).bind fun u31 => some (.cont ((wI (s30.1 + 1)), (s30.2.set s30.1.toNat s30.1)))) else (some (.brk s30.2))
def m5_l16_PipeOrder (a0 : Int) (a1 : List Int) : Option Bool :=
  (m8_l16_awake).bind fun v1 => if (decide (60 < (a1.length : Int))) then (some v1) else (if (0 : Int) ≤ (wI (1 + (wI ((BitVec.ofInt 64 a0 &&& BitVec.ofInt 64 7).toNat : Int)))) ∧ (wI (1 + (wI ((BitVec.ofInt 64 a0 &&& BitVec.ofInt 64 7).toNat : Int)))) ≤ (wI (1 + (wI ((BitVec.ofInt 64 a0 &&& BitVec.ofInt 64 7).toNat : Int)))) ∧ ((8 : Nat) : Int) * (wI (1 + (wI ((BitVec.ofInt 64 a0 &&& BitVec.ofInt 64 7).toNat : Int)))) ≤ 281474976710656 then ((iterB (m5_l16_PipeOrder_s30 a0) fuel (0, (List.replicate (wI (1 + (wI ((BitVec.ofInt 64 a0 &&& BitVec.ofInt 64 7).toNat : Int)))).toNat 0))).bind fun e32 => m5_l16_PipeOrder_k3 a0 a1 v1 e32) else none)

set_option maxRecDepth 100000 in
theorem m5_l16_PipeOrder_c {a0 : Int} {a1 : List Int} {r : Bool} (h : m5_l16_PipeOrder a0 a1 = some r) : CallsA Tryd.prog 5 [.one (.i .i64 a0), .one (.sl a1.length (a1.flatMap eI))] (· = .s (.one (.b r))) := by
  unfold m5_l16_PipeOrder at h
  refine callsA_of Tryd.func5 rfl (nt := 198) rfl (Nat.le_of_ble_eq_true rfl) ?_
  intro w0 S0
  refine cseq ?_
  refine cregion ?_
  refine sv rfl (opv_as rfl) ?_
  refine snil ?_
  refine cseq ?_
  refine cregion ?_
  obtain ⟨v1, hv1, h⟩ := bind_eq h
  refine scall1 rfl fn8 opnds_nil (pubA_id rfl) (m8_l16_awake_c hv1) ?_
  refine sv rfl (opv_as rfl) ?_
  refine snil ?_
  refine cseq ?_
  refine cseq ?_
  refine cregion ?_
  refine sv rfl (opv_mv rfl) ?_
  refine sv rfl (opv_len_sl si77 rfl) ?_
  refine sv rfl (opv_gtr rfl rfl) ?_
  refine snil ?_
  refine ccond rfl (fun hc => ?_) (fun hc => ?_)
  · replace h := ite_t hc h
    clear hc
    refine cseq ?_
    refine cregion ?_
    refine sv rfl (opv_mv rfl) ?_
    refine sv rfl (opv_as rfl) ?_
    refine snil ?_
    refine cret ?_
    refine then_ret ?_
    obtain rfl := Option.some.inj h
    refine ⟨Or.inr rfl, _, _, _, (resVs_cons (ResV.tmp _ _ rfl) resVs_nil), (pubA_id rfl), ?_⟩
    rfl
  · replace h := ite_f hc h
    clear hc
    refine cskip ?_
    refine then_normal ?_
    refine cseq ?_
    refine cregion ?_
    refine sv rfl (opv_mv rfl) ?_
    refine sv rfl (opv_and rfl rfl) ?_
    refine sv rfl (opv_add rfl rfl) ?_
    refine sv rfl (opv_as rfl) ?_
    refine snil ?_
    refine cseq ?_
    refine cregion ?_
    refine sv rfl (opv_mv rfl) ?_
    obtain ⟨hm2, h⟩ := chk_eq h
    refine smk (f := eI) (z := 0) rfl Tryd.underlying77 ei3 (fun _ => rfl) rfl rfl rfl hm2 (by decide) ?_
    refine sv rfl (opv_as rfl) ?_
    refine snil ?_
    refine cseq ?_
    refine cseq ?_
    refine cregion ?_
    refine sv rfl (opv_as rfl) ?_
    refine snil ?_
    refine cjoin ((List Int)) (fun b3 => [(1, .s (.one (.sl a1.length (a1.flatMap eI)))), (5, .s (.one (.b v1))), (6, .s (.one (.i .i64 (wI (1 + (wI ((BitVec.ofInt 64 a0 &&& BitVec.ofInt 64 7).toNat : Int))))))), (7, .s (.one (.ls 0 b3.length)))]) (fun b3 => [.arr 3 1 0 (b3.flatMap eI)]) (fun b3 => m5_l16_PipeOrder_k3 a0 a1 v1 b3 = some r) (fun _ _ => inbL_of rfl) (fun _ _ => blkinb_of rfl) (fun _ _ => Nat.le_of_ble_eq_true rfl) (fun b3 h => ?_) ?_
    · unfold m5_l16_PipeOrder_k3 at h
      refine cseq ?_
      refine cseq ?_
      refine cregion ?_
      refine sv rfl (opv_as rfl) ?_
      refine snil ?_
      refine cjoin ((List Int)) (fun b4 => [(5, .s (.one (.b v1))), (6, .s (.one (.i .i64 (wI (1 + (wI ((BitVec.ofInt 64 a0 &&& BitVec.ofInt 64 7).toNat : Int))))))), (7, .s (.one (.ls 0 b4.length)))]) (fun b4 => [.arr 3 1 0 (b4.flatMap eI)]) (fun b4 => m5_l16_PipeOrder_k4 a0 v1 b4 = some r) (fun _ _ => inbL_of rfl) (fun _ _ => blkinb_of rfl) (fun _ _ => Nat.le_of_ble_eq_true rfl) (fun b4 h => ?_) ?_
      · unfold m5_l16_PipeOrder_k4 at h
        refine cseq ?_
        refine cregion ?_
        refine sv rfl (opv_build zi46 pi46 parts_nil (.nil _)) ?_
        refine salloc rfl zi46 ?_
        refine sstore sz46 rfl rfl rfl rfl (Nat.le_of_ble_eq_true rfl) ?_
        refine smem [.arr 3 1 0 (b4.flatMap eI), .box [.i .i64 0, .i .u64 ((0#64).toNat : Int), .i .i64 0, .raw (.slice none 0 0), .raw (.slice none 0 0)]] rfl ?_
        refine snil ?_
        refine cseq ?_
        refine cseq ?_
        refine cregion ?_
        refine sv rfl (opv_as rfl) ?_
        refine snil ?_
        refine cjoin (Int × (BitVec 64) × Int × (List GMsgReq) × (List GMsgReply)) (fun b5 => [(5, .s (.one (.b v1))), (6, .s (.one (.i .i64 (wI (1 + (wI ((BitVec.ofInt 64 a0 &&& BitVec.ofInt 64 7).toNat : Int))))))), (13, .s (.one (.lp 1 0)))]) (fun b5 => [.arr 3 1 0 (b4.flatMap eI), .box [.i .i64 b5.1, .i .u64 (b5.2.1.toNat : Int), .i .i64 b5.2.2.1, .sl b5.2.2.2.1.length (b5.2.2.2.1.flatMap eGMsgReq), .sl b5.2.2.2.2.length (b5.2.2.2.2.flatMap eGMsgReply)]]) (fun b5 => m5_l16_PipeOrder_k5 a0 v1 b5 = some r) (fun _ _ => inbL_of rfl) (fun _ _ => blkinb_of rfl) (fun _ _ => Nat.le_of_ble_eq_true rfl) (fun b5 h => ?_) ?_
        · unfold m5_l16_PipeOrder_k5 at h
          refine cseq ?_
          refine cregion ?_
          refine sv rfl (opv_loadN ti46 rfl (.lp _ _ _ rfl) (Nat.le_of_ble_eq_true rfl)) ?_
          refine sv rfl (opv_build zi51 pi51 (parts_cons rfl (parts_cons rfl parts_nil)) (.cons _ _ _ _ _ _ _ rfl rfl (Nat.le_of_ble_eq_true rfl) (.cons _ _ _ _ _ _ _ rfl rfl (Nat.le_of_ble_eq_true rfl) (.nil _)))) ?_
          obtain ⟨v6, hv6, h⟩ := bind_eq h
          refine scall1 rfl fn13 (opnds_cons rfl (opnds_cons rfl opnds_nil)) (pubC rfl) (m13_pipe_Offer_c hv6) ?_
          refine sv rfl (opv_mvt rfl) ?_
          refine sv rfl (opv_extract rfl rfl) ?_
          refine sv rfl (opv_extract rfl rfl) ?_
          refine sv rfl (opv_extract rfl rfl) ?_
          refine sv rfl (opv_extract rfl rfl) ?_
          refine salloc rfl zi46 ?_
          refine salloc rfl zi48 ?_
          refine sstore sz46 rfl rfl rfl rfl (Nat.le_of_ble_eq_true rfl) ?_
          refine smem [.arr 3 1 0 (b4.flatMap eI), .box [.i .i64 b5.1, .i .u64 (b5.2.1.toNat : Int), .i .i64 b5.2.2.1, .sl b5.2.2.2.1.length (b5.2.2.2.1.flatMap eGMsgReq), .sl b5.2.2.2.2.length (b5.2.2.2.2.flatMap eGMsgReply)], .box [.i .i64 v6.1.Win.Base, .i .u64 (v6.1.Win.Bits.toNat : Int), .i .i64 v6.1.Next, .sl v6.1.Wait.length (v6.1.Wait.flatMap eGMsgReq), .sl v6.1.Past.length (v6.1.Past.flatMap eGMsgReply)], .box [.i .i64 0, .i .i64 0, .i .i64 0, .i .i64 0, .b false, .raw (.slice none 0 0), .raw (.slice none 0 0)]] rfl ?_
          refine sstore sz48 rfl rfl rfl rfl (Nat.le_of_ble_eq_true rfl) ?_
          refine smem [.arr 3 1 0 (b4.flatMap eI), .box [.i .i64 b5.1, .i .u64 (b5.2.1.toNat : Int), .i .i64 b5.2.2.1, .sl b5.2.2.2.1.length (b5.2.2.2.1.flatMap eGMsgReq), .sl b5.2.2.2.2.length (b5.2.2.2.2.flatMap eGMsgReply)], .box [.i .i64 v6.1.Win.Base, .i .u64 (v6.1.Win.Bits.toNat : Int), .i .i64 v6.1.Next, .sl v6.1.Wait.length (v6.1.Wait.flatMap eGMsgReq), .sl v6.1.Past.length (v6.1.Past.flatMap eGMsgReply)], .box [.i .i64 v6.2.1.Kind, .i .i64 v6.2.1.Seq, .i .i64 v6.2.1.Code, .i .i64 v6.2.1.N, .b v6.2.1.Found, .sl v6.2.1.Val.length (v6.2.1.Val.flatMap eU8), .sl v6.2.1.List.length (v6.2.1.List.flatMap eGApiKV)]] rfl ?_
          refine sv rfl (opv_as rfl) ?_
          refine sv rfl (opv_as rfl) ?_
          refine snil ?_
          refine cseq ?_
          refine cseq ?_
          refine cregion ?_
          refine sv rfl (opv_as rfl) ?_
          refine snil ?_
          refine cjoin (Int × (BitVec 64) × Int × (List GMsgReq) × (List GMsgReply)) (fun b7 => [(5, .s (.one (.b v1))), (6, .s (.one (.i .i64 (wI (1 + (wI ((BitVec.ofInt 64 a0 &&& BitVec.ofInt 64 7).toNat : Int))))))), (13, .s (.one (.lp 1 0))), (22, .s (.one (.i .i64 v6.2.2.2)))]) (fun b7 => [.arr 3 1 0 (b4.flatMap eI), .box [.i .i64 b7.1, .i .u64 (b7.2.1.toNat : Int), .i .i64 b7.2.2.1, .sl b7.2.2.2.1.length (b7.2.2.2.1.flatMap eGMsgReq), .sl b7.2.2.2.2.length (b7.2.2.2.2.flatMap eGMsgReply)], .box [.i .i64 v6.1.Win.Base, .i .u64 (v6.1.Win.Bits.toNat : Int), .i .i64 v6.1.Next, .sl v6.1.Wait.length (v6.1.Wait.flatMap eGMsgReq), .sl v6.1.Past.length (v6.1.Past.flatMap eGMsgReply)], .box [.i .i64 v6.2.1.Kind, .i .i64 v6.2.1.Seq, .i .i64 v6.2.1.Code, .i .i64 v6.2.1.N, .b v6.2.1.Found, .sl v6.2.1.Val.length (v6.2.1.Val.flatMap eU8), .sl v6.2.1.List.length (v6.2.1.List.flatMap eGApiKV)]]) (fun b7 => m5_l16_PipeOrder_k7 a0 v1 v6 b7 = some r) (fun _ _ => inbL_of rfl) (fun _ _ => blkinb_of rfl) (fun _ _ => Nat.le_of_ble_eq_true rfl) (fun b7 h => ?_) ?_
          · unfold m5_l16_PipeOrder_k7 at h
            refine cseq ?_
            refine cregion ?_
            refine sv rfl (opv_loadN ti46 rfl (.lp _ _ _ rfl) (Nat.le_of_ble_eq_true rfl)) ?_
            obtain ⟨v8, hv8, h⟩ := bind_eq h
            refine scall1 rfl fn19 (opnds_cons rfl opnds_nil) (pubA_id rfl) (m19_pipe_Ready_c hv8) ?_
            refine sv rfl (opv_mvt rfl) ?_
            refine sv rfl (opv_extract rfl rfl) ?_
            refine sv rfl (opv_extract rfl rfl) ?_
            refine salloc rfl zi51 ?_
            refine sstore sz51 rfl rfl rfl rfl (Nat.le_of_ble_eq_true rfl) ?_
            refine smem [.arr 3 1 0 (b4.flatMap eI), .box [.i .i64 b7.1, .i .u64 (b7.2.1.toNat : Int), .i .i64 b7.2.2.1, .sl b7.2.2.2.1.length (b7.2.2.2.1.flatMap eGMsgReq), .sl b7.2.2.2.2.length (b7.2.2.2.2.flatMap eGMsgReply)], .box [.i .i64 v6.1.Win.Base, .i .u64 (v6.1.Win.Bits.toNat : Int), .i .i64 v6.1.Next, .sl v6.1.Wait.length (v6.1.Wait.flatMap eGMsgReq), .sl v6.1.Past.length (v6.1.Past.flatMap eGMsgReply)], .box [.i .i64 v6.2.1.Kind, .i .i64 v6.2.1.Seq, .i .i64 v6.2.1.Code, .i .i64 v6.2.1.N, .b v6.2.1.Found, .sl v6.2.1.Val.length (v6.2.1.Val.flatMap eU8), .sl v6.2.1.List.length (v6.2.1.List.flatMap eGApiKV)], .box [.i .i64 v8.1.Kind, .i .i64 v8.1.Seq, .i .i64 v8.1.Token, .i .i64 v8.1.Attempt, .b v8.1.RO, .sl v8.1.Key.length (v8.1.Key.flatMap eU8), .sl v8.1.Val.length (v8.1.Val.flatMap eU8), .sl v8.1.Rng.Lo.length (v8.1.Rng.Lo.flatMap eU8), .sl v8.1.Rng.Hi.length (v8.1.Rng.Hi.flatMap eU8), .b v8.1.Rng.Open]] rfl ?_
            refine sv rfl (opv_as rfl) ?_
            refine snil ?_
            refine cseq ?_
            refine cregion ?_
            refine sv rfl (opv_mv rfl) ?_
            refine sv rfl (opv_mv rfl) ?_
            refine ssplit 171 rfl (fun hc => ?_) (fun hc => ?_)
            · replace h := ite_t hc h
              clear hc
              refine son rfl rfl rfl ?_
              refine sv rfl (opv_mv rfl) ?_
              refine son rfl rfl rfl ?_
              refine sv rfl (opv_not rfl) ?_
              refine sv rfl (opv_pick_t rfl rfl) ?_
              refine sv rfl (opv_mv rfl) ?_
              refine ssplit 175 rfl (fun hc => ?_) (fun hc => ?_)
              · replace h := ite_t hc h
                clear hc
                refine son rfl rfl rfl ?_
                refine sv rfl (opv_mv rfl) ?_
                refine son rfl rfl rfl ?_
                refine sv rfl (opv_ieql rfl rfl) ?_
                refine sv rfl (opv_pick_t rfl rfl) ?_
                refine sv rfl (opv_mv rfl) ?_
                refine ssplit 179 rfl (fun hc => ?_) (fun hc => ?_)
                · replace h := ite_t hc h
                  clear hc
                  refine son rfl rfl rfl ?_
                  refine sv rfl (opv_fieldAddr_lp fi46_1 rfl) ?_
                  refine son rfl rfl rfl ?_
                  refine sv rfl (opv_load1 ti3 rfl (.lp _ _ _ rfl) rfl) ?_
                  refine son rfl rfl rfl ?_
                  refine sv rfl (opv_mv rfl) ?_
                  refine son rfl rfl rfl ?_
                  refine sv rfl (opv_ieql rfl rfl) ?_
                  refine sv rfl (opv_pick_t rfl rfl) ?_
                  refine sv rfl (opv_mv rfl) ?_
                  refine ssplit 185 rfl (fun hc => ?_) (fun hc => ?_)
                  · replace h := ite_t hc h
                    clear hc
                    refine son rfl rfl rfl ?_
                    refine sv rfl (opv_fieldAddr_lp fi46_3 rfl) ?_
                    refine son rfl rfl rfl ?_
                    refine sv rfl (opv_load1 ti44 rfl (.lp _ _ _ rfl) rfl) ?_
                    refine son rfl rfl rfl ?_
                    refine sv rfl (opv_len_sl si44 rfl) ?_
                    refine son rfl rfl rfl ?_
                    refine sv rfl (opv_mv rfl) ?_
                    refine son rfl rfl rfl ?_
                    refine sv rfl (opv_ieql rfl rfl) ?_
                    refine sv rfl (opv_pick_t rfl rfl) ?_
                    refine sv rfl (opv_mv rfl) ?_
                    refine ssplit 192 rfl (fun hc => ?_) (fun hc => ?_)
                    · replace h := ite_t hc h
                      clear hc
                      refine son rfl rfl rfl ?_
                      refine sv rfl (opv_fieldAddr_lp fi46_2 rfl) ?_
                      refine son rfl rfl rfl ?_
                      refine sv rfl (opv_load1 ti43 rfl (.lp _ _ _ rfl) rfl) ?_
                      refine son rfl rfl rfl ?_
                      refine sv rfl (opv_len_sl si43 rfl) ?_
                      refine son rfl rfl rfl ?_
                      refine sv rfl (opv_ieql rfl rfl) ?_
                      refine sv rfl (opv_pick_t rfl rfl) ?_
                      refine sv rfl (opv_as rfl) ?_
                      refine snil ?_
                      refine cret ?_
                      obtain rfl := Option.some.inj h
                      refine ⟨Or.inr rfl, _, _, _, (resVs_cons (ResV.tmp _ _ rfl) resVs_nil), (pubA_id rfl), ?_⟩
                      rfl
                    · replace h := ite_f hc h
                      clear hc
                      refine soff rfl rfl rfl rfl ?_
                      refine soff rfl rfl rfl rfl ?_
                      refine soff rfl rfl rfl rfl ?_
                      refine soff rfl rfl rfl rfl ?_
                      refine sv rfl (opv_pick_f rfl rfl) ?_
                      refine sv rfl (opv_as rfl) ?_
                      refine snil ?_
                      refine cret ?_
                      obtain rfl := Option.some.inj h
                      refine ⟨Or.inr rfl, _, _, _, (resVs_cons (ResV.tmp _ _ rfl) resVs_nil), (pubA_id rfl), ?_⟩
                      rfl
                  · replace h := ite_f hc h
                    clear hc
                    refine soff rfl rfl rfl rfl ?_
                    refine soff rfl rfl rfl rfl ?_
                    refine soff rfl rfl rfl rfl ?_
                    refine soff rfl rfl rfl rfl ?_
                    refine soff rfl rfl rfl rfl ?_
                    refine sv rfl (opv_pick_f rfl rfl) ?_
                    refine sv rfl (opv_mv rfl) ?_
                    refine soff rfl rfl rfl rfl ?_
                    refine soff rfl rfl rfl rfl ?_
                    refine soff rfl rfl rfl rfl ?_
                    refine soff rfl rfl rfl rfl ?_
                    refine sv rfl (opv_pick_f rfl rfl) ?_
                    refine sv rfl (opv_as rfl) ?_
                    refine snil ?_
                    refine cret ?_
                    obtain rfl := Option.some.inj h
                    refine ⟨Or.inr rfl, _, _, _, (resVs_cons (ResV.tmp _ _ rfl) resVs_nil), (pubA_id rfl), ?_⟩
                    rfl
                · replace h := ite_f hc h
                  clear hc
                  refine soff rfl rfl rfl rfl ?_
                  refine soff rfl rfl rfl rfl ?_
                  refine soff rfl rfl rfl rfl ?_
                  refine soff rfl rfl rfl rfl ?_
                  refine sv rfl (opv_pick_f rfl rfl) ?_
                  refine sv rfl (opv_mv rfl) ?_
                  refine soff rfl rfl rfl rfl ?_
                  refine soff rfl rfl rfl rfl ?_
                  refine soff rfl rfl rfl rfl ?_
                  refine soff rfl rfl rfl rfl ?_
                  refine soff rfl rfl rfl rfl ?_
                  refine sv rfl (opv_pick_f rfl rfl) ?_
                  refine sv rfl (opv_mv rfl) ?_
                  refine soff rfl rfl rfl rfl ?_
                  refine soff rfl rfl rfl rfl ?_
                  refine soff rfl rfl rfl rfl ?_
                  refine soff rfl rfl rfl rfl ?_
                  refine sv rfl (opv_pick_f rfl rfl) ?_
                  refine sv rfl (opv_as rfl) ?_
                  refine snil ?_
                  refine cret ?_
                  obtain rfl := Option.some.inj h
                  refine ⟨Or.inr rfl, _, _, _, (resVs_cons (ResV.tmp _ _ rfl) resVs_nil), (pubA_id rfl), ?_⟩
                  rfl
              · replace h := ite_f hc h
                clear hc
                refine soff rfl rfl rfl rfl ?_
                refine soff rfl rfl rfl rfl ?_
                refine sv rfl (opv_pick_f rfl rfl) ?_
                refine sv rfl (opv_mv rfl) ?_
                refine soff rfl rfl rfl rfl ?_
                refine soff rfl rfl rfl rfl ?_
                refine soff rfl rfl rfl rfl ?_
                refine soff rfl rfl rfl rfl ?_
                refine sv rfl (opv_pick_f rfl rfl) ?_
                refine sv rfl (opv_mv rfl) ?_
                refine soff rfl rfl rfl rfl ?_
                refine soff rfl rfl rfl rfl ?_
                refine soff rfl rfl rfl rfl ?_
                refine soff rfl rfl rfl rfl ?_
                refine soff rfl rfl rfl rfl ?_
                refine sv rfl (opv_pick_f rfl rfl) ?_
                refine sv rfl (opv_mv rfl) ?_
                refine soff rfl rfl rfl rfl ?_
                refine soff rfl rfl rfl rfl ?_
                refine soff rfl rfl rfl rfl ?_
                refine soff rfl rfl rfl rfl ?_
                refine sv rfl (opv_pick_f rfl rfl) ?_
                refine sv rfl (opv_as rfl) ?_
                refine snil ?_
                refine cret ?_
                obtain rfl := Option.some.inj h
                refine ⟨Or.inr rfl, _, _, _, (resVs_cons (ResV.tmp _ _ rfl) resVs_nil), (pubA_id rfl), ?_⟩
                rfl
            · replace h := ite_f hc h
              clear hc
              refine soff rfl rfl rfl rfl ?_
              refine soff rfl rfl rfl rfl ?_
              refine sv rfl (opv_pick_f rfl rfl) ?_
              refine sv rfl (opv_mv rfl) ?_
              refine soff rfl rfl rfl rfl ?_
              refine soff rfl rfl rfl rfl ?_
              refine sv rfl (opv_pick_f rfl rfl) ?_
              refine sv rfl (opv_mv rfl) ?_
              refine soff rfl rfl rfl rfl ?_
              refine soff rfl rfl rfl rfl ?_
              refine soff rfl rfl rfl rfl ?_
              refine soff rfl rfl rfl rfl ?_
              refine sv rfl (opv_pick_f rfl rfl) ?_
              refine sv rfl (opv_mv rfl) ?_
              refine soff rfl rfl rfl rfl ?_
              refine soff rfl rfl rfl rfl ?_
              refine soff rfl rfl rfl rfl ?_
              refine soff rfl rfl rfl rfl ?_
              refine soff rfl rfl rfl rfl ?_
              refine sv rfl (opv_pick_f rfl rfl) ?_
              refine sv rfl (opv_mv rfl) ?_
              refine soff rfl rfl rfl rfl ?_
              refine soff rfl rfl rfl rfl ?_
              refine soff rfl rfl rfl rfl ?_
              refine soff rfl rfl rfl rfl ?_
              refine sv rfl (opv_pick_f rfl rfl) ?_
              refine sv rfl (opv_as rfl) ?_
              refine snil ?_
              refine cret ?_
              obtain rfl := Option.some.inj h
              refine ⟨Or.inr rfl, _, _, _, (resVs_cons (ResV.tmp _ _ rfl) resVs_nil), (pubA_id rfl), ?_⟩
              rfl
          · skip
            refine cblock ?_
            obtain ⟨x9, hx9, ho9⟩ := bind_eq h
            refine awc_loop (G := Nat × (Int × Int × (BitVec 64) × Int × (List GMsgReq) × (List GMsgReply))) (fun g => [(5, .s (.one (.b v1))), (6, .s (.one (.i .i64 (wI (1 + (wI ((BitVec.ofInt 64 a0 &&& BitVec.ofInt 64 7).toNat : Int))))))), (13, .s (.one (.lp 1 0))), (22, .s (.one (.i .i64 v6.2.2.2))), (23, .s (.one (.i .i64 g.2.1)))]) (fun g => [.arr 3 1 0 (b4.flatMap eI), .box [.i .i64 g.2.2.1, .i .u64 (g.2.2.2.1.toNat : Int), .i .i64 g.2.2.2.2.1, .sl g.2.2.2.2.2.1.length (g.2.2.2.2.2.1.flatMap eGMsgReq), .sl g.2.2.2.2.2.2.length (g.2.2.2.2.2.2.flatMap eGMsgReply)], .box [.i .i64 v6.1.Win.Base, .i .u64 (v6.1.Win.Bits.toNat : Int), .i .i64 v6.1.Next, .sl v6.1.Wait.length (v6.1.Wait.flatMap eGMsgReq), .sl v6.1.Past.length (v6.1.Past.flatMap eGMsgReply)], .box [.i .i64 v6.2.1.Kind, .i .i64 v6.2.1.Seq, .i .i64 v6.2.1.Code, .i .i64 v6.2.1.N, .b v6.2.1.Found, .sl v6.2.1.Val.length (v6.2.1.Val.flatMap eU8), .sl v6.2.1.List.length (v6.2.1.List.flatMap eGApiKV)]]) (fun g => iter (m5_l16_PipeOrder_s9 a0) g.1 g.2 = some x9) (fun g => g.1) (fuel, (0, b5.1, b5.2.1, b5.2.2.1, b5.2.2.2.1, b5.2.2.2.2)) hx9 ⟨rfl, rfl, rfl, rfl, rfl, trivial⟩ [] rfl (fun _ _ => inbL_of rfl) (fun _ _ => blkinb_of rfl) (fun _ _ => Nat.le_of_ble_eq_true rfl) ?_
            clear hx9 h
            rintro ⟨n9, s9⟩ h
            obtain ⟨n9, y9, rfl, h, hk9⟩ := iter_eq h
            unfold m5_l16_PipeOrder_s9 at h
            refine cseq ?_
            refine cseq ?_
            refine cregion ?_
            refine sv rfl (opv_mv rfl) ?_
            refine sv rfl (opv_mv rfl) ?_
            refine sv rfl (opv_lss rfl rfl) ?_
            refine snil ?_
            refine ccond rfl (fun hc => ?_) (fun hc => ?_)
            · replace h := ite_t hc h
              clear hc
              refine cskip ?_
              refine then_normal ?_
              refine cseq ?_
              refine cblock ?_
              refine cseq ?_
              refine cregion ?_
              refine sv rfl (opv_loadN ti46 rfl (.lp _ _ _ rfl) (Nat.le_of_ble_eq_true rfl)) ?_
              obtain ⟨v10, hv10, h⟩ := bind_eq h
              refine scall1 rfl fn19 (opnds_cons rfl opnds_nil) (pubA_id rfl) (m19_pipe_Ready_c hv10) ?_
              refine sv rfl (opv_mvt rfl) ?_
              refine sv rfl (opv_extract rfl rfl) ?_
              refine sv rfl (opv_extract rfl rfl) ?_
              refine salloc rfl zi51 ?_
              refine sstore sz51 rfl rfl rfl rfl (Nat.le_of_ble_eq_true rfl) ?_
              refine smem [.arr 3 1 0 (b4.flatMap eI), .box [.i .i64 s9.2.1, .i .u64 (s9.2.2.1.toNat : Int), .i .i64 s9.2.2.2.1, .sl s9.2.2.2.2.1.length (s9.2.2.2.2.1.flatMap eGMsgReq), .sl s9.2.2.2.2.2.length (s9.2.2.2.2.2.flatMap eGMsgReply)], .box [.i .i64 v6.1.Win.Base, .i .u64 (v6.1.Win.Bits.toNat : Int), .i .i64 v6.1.Next, .sl v6.1.Wait.length (v6.1.Wait.flatMap eGMsgReq), .sl v6.1.Past.length (v6.1.Past.flatMap eGMsgReply)], .box [.i .i64 v6.2.1.Kind, .i .i64 v6.2.1.Seq, .i .i64 v6.2.1.Code, .i .i64 v6.2.1.N, .b v6.2.1.Found, .sl v6.2.1.Val.length (v6.2.1.Val.flatMap eU8), .sl v6.2.1.List.length (v6.2.1.List.flatMap eGApiKV)], .box [.i .i64 v10.1.Kind, .i .i64 v10.1.Seq, .i .i64 v10.1.Token, .i .i64 v10.1.Attempt, .b v10.1.RO, .sl v10.1.Key.length (v10.1.Key.flatMap eU8), .sl v10.1.Val.length (v10.1.Val.flatMap eU8), .sl v10.1.Rng.Lo.length (v10.1.Rng.Lo.flatMap eU8), .sl v10.1.Rng.Hi.length (v10.1.Rng.Hi.flatMap eU8), .b v10.1.Rng.Open]] rfl ?_
              refine sv rfl (opv_as rfl) ?_
              refine snil ?_
              refine cseq ?_
              refine cregion ?_
              refine sv rfl (opv_loadN ti46 rfl (.lp _ _ _ rfl) (Nat.le_of_ble_eq_true rfl)) ?_
              refine sv rfl (opv_mv rfl) ?_
              refine sv rfl (opv_build zi48 pi48 (parts_cons rfl parts_nil) (.cons _ _ _ _ _ _ _ rfl rfl (Nat.le_of_ble_eq_true rfl) (.nil _))) ?_
              obtain ⟨v11, hv11, h⟩ := bind_eq h
              refine scall1 rfl fn16 (opnds_cons rfl (opnds_cons rfl opnds_nil)) (pubC rfl) (m16_pipe_Answer_c hv11) ?_
              refine sv rfl (opv_mvt rfl) ?_
              refine sv rfl (opv_extract rfl rfl) ?_
              refine sv rfl (opv_extract rfl rfl) ?_
              refine sv rfl (opv_extract rfl rfl) ?_
              refine salloc rfl zi46 ?_
              refine salloc rfl zi48 ?_
              refine sstore sz46 rfl rfl rfl rfl (Nat.le_of_ble_eq_true rfl) ?_
              refine smem [.arr 3 1 0 (b4.flatMap eI), .box [.i .i64 s9.2.1, .i .u64 (s9.2.2.1.toNat : Int), .i .i64 s9.2.2.2.1, .sl s9.2.2.2.2.1.length (s9.2.2.2.2.1.flatMap eGMsgReq), .sl s9.2.2.2.2.2.length (s9.2.2.2.2.2.flatMap eGMsgReply)], .box [.i .i64 v6.1.Win.Base, .i .u64 (v6.1.Win.Bits.toNat : Int), .i .i64 v6.1.Next, .sl v6.1.Wait.length (v6.1.Wait.flatMap eGMsgReq), .sl v6.1.Past.length (v6.1.Past.flatMap eGMsgReply)], .box [.i .i64 v6.2.1.Kind, .i .i64 v6.2.1.Seq, .i .i64 v6.2.1.Code, .i .i64 v6.2.1.N, .b v6.2.1.Found, .sl v6.2.1.Val.length (v6.2.1.Val.flatMap eU8), .sl v6.2.1.List.length (v6.2.1.List.flatMap eGApiKV)], .box [.i .i64 v10.1.Kind, .i .i64 v10.1.Seq, .i .i64 v10.1.Token, .i .i64 v10.1.Attempt, .b v10.1.RO, .sl v10.1.Key.length (v10.1.Key.flatMap eU8), .sl v10.1.Val.length (v10.1.Val.flatMap eU8), .sl v10.1.Rng.Lo.length (v10.1.Rng.Lo.flatMap eU8), .sl v10.1.Rng.Hi.length (v10.1.Rng.Hi.flatMap eU8), .b v10.1.Rng.Open], .box [.i .i64 v11.1.Win.Base, .i .u64 (v11.1.Win.Bits.toNat : Int), .i .i64 v11.1.Next, .sl v11.1.Wait.length (v11.1.Wait.flatMap eGMsgReq), .sl v11.1.Past.length (v11.1.Past.flatMap eGMsgReply)], .box [.i .i64 0, .i .i64 0, .i .i64 0, .i .i64 0, .b false, .raw (.slice none 0 0), .raw (.slice none 0 0)]] rfl ?_
              refine sstore sz48 rfl rfl rfl rfl (Nat.le_of_ble_eq_true rfl) ?_
              refine smem [.arr 3 1 0 (b4.flatMap eI), .box [.i .i64 s9.2.1, .i .u64 (s9.2.2.1.toNat : Int), .i .i64 s9.2.2.2.1, .sl s9.2.2.2.2.1.length (s9.2.2.2.2.1.flatMap eGMsgReq), .sl s9.2.2.2.2.2.length (s9.2.2.2.2.2.flatMap eGMsgReply)], .box [.i .i64 v6.1.Win.Base, .i .u64 (v6.1.Win.Bits.toNat : Int), .i .i64 v6.1.Next, .sl v6.1.Wait.length (v6.1.Wait.flatMap eGMsgReq), .sl v6.1.Past.length (v6.1.Past.flatMap eGMsgReply)], .box [.i .i64 v6.2.1.Kind, .i .i64 v6.2.1.Seq, .i .i64 v6.2.1.Code, .i .i64 v6.2.1.N, .b v6.2.1.Found, .sl v6.2.1.Val.length (v6.2.1.Val.flatMap eU8), .sl v6.2.1.List.length (v6.2.1.List.flatMap eGApiKV)], .box [.i .i64 v10.1.Kind, .i .i64 v10.1.Seq, .i .i64 v10.1.Token, .i .i64 v10.1.Attempt, .b v10.1.RO, .sl v10.1.Key.length (v10.1.Key.flatMap eU8), .sl v10.1.Val.length (v10.1.Val.flatMap eU8), .sl v10.1.Rng.Lo.length (v10.1.Rng.Lo.flatMap eU8), .sl v10.1.Rng.Hi.length (v10.1.Rng.Hi.flatMap eU8), .b v10.1.Rng.Open], .box [.i .i64 v11.1.Win.Base, .i .u64 (v11.1.Win.Bits.toNat : Int), .i .i64 v11.1.Next, .sl v11.1.Wait.length (v11.1.Wait.flatMap eGMsgReq), .sl v11.1.Past.length (v11.1.Past.flatMap eGMsgReply)], .box [.i .i64 v11.2.1.Kind, .i .i64 v11.2.1.Seq, .i .i64 v11.2.1.Code, .i .i64 v11.2.1.N, .b v11.2.1.Found, .sl v11.2.1.Val.length (v11.2.1.Val.flatMap eU8), .sl v11.2.1.List.length (v11.2.1.List.flatMap eGApiKV)]] rfl ?_
              refine sv rfl (opv_as rfl) ?_
              refine snil ?_
              refine cseq ?_
              refine cseq ?_
              refine cjoin3 (Unit) (fun b12 => [(5, .s (.one (.b v1))), (6, .s (.one (.i .i64 (wI (1 + (wI ((BitVec.ofInt 64 a0 &&& BitVec.ofInt 64 7).toNat : Int))))))), (13, .s (.one (.lp 1 0))), (22, .s (.one (.i .i64 v6.2.2.2))), (23, .s (.one (.i .i64 s9.1))), (26, .s (.one (.lp 5 0)))]) (fun b12 => [.arr 3 1 0 (b4.flatMap eI), .box [.i .i64 s9.2.1, .i .u64 (s9.2.2.1.toNat : Int), .i .i64 s9.2.2.2.1, .sl s9.2.2.2.2.1.length (s9.2.2.2.2.1.flatMap eGMsgReq), .sl s9.2.2.2.2.2.length (s9.2.2.2.2.2.flatMap eGMsgReply)], .box [.i .i64 v6.1.Win.Base, .i .u64 (v6.1.Win.Bits.toNat : Int), .i .i64 v6.1.Next, .sl v6.1.Wait.length (v6.1.Wait.flatMap eGMsgReq), .sl v6.1.Past.length (v6.1.Past.flatMap eGMsgReply)], .box [.i .i64 v6.2.1.Kind, .i .i64 v6.2.1.Seq, .i .i64 v6.2.1.Code, .i .i64 v6.2.1.N, .b v6.2.1.Found, .sl v6.2.1.Val.length (v6.2.1.Val.flatMap eU8), .sl v6.2.1.List.length (v6.2.1.List.flatMap eGApiKV)], .box [.i .i64 v10.1.Kind, .i .i64 v10.1.Seq, .i .i64 v10.1.Token, .i .i64 v10.1.Attempt, .b v10.1.RO, .sl v10.1.Key.length (v10.1.Key.flatMap eU8), .sl v10.1.Val.length (v10.1.Val.flatMap eU8), .sl v10.1.Rng.Lo.length (v10.1.Rng.Lo.flatMap eU8), .sl v10.1.Rng.Hi.length (v10.1.Rng.Hi.flatMap eU8), .b v10.1.Rng.Open], .box [.i .i64 v11.1.Win.Base, .i .u64 (v11.1.Win.Bits.toNat : Int), .i .i64 v11.1.Next, .sl v11.1.Wait.length (v11.1.Wait.flatMap eGMsgReq), .sl v11.1.Past.length (v11.1.Past.flatMap eGMsgReply)], .box [.i .i64 v11.2.1.Kind, .i .i64 v11.2.1.Seq, .i .i64 v11.2.1.Code, .i .i64 v11.2.1.N, .b v11.2.1.Found, .sl v11.2.1.Val.length (v11.2.1.Val.flatMap eU8), .sl v11.2.1.List.length (v11.2.1.List.flatMap eGApiKV)]]) (fun b12 => m5_l16_PipeOrder_k12 s9 v11 b12 = some y9) (fun _ _ => inbL_of rfl) (fun _ _ => blkinb_of rfl) (fun _ _ => Nat.le_of_ble_eq_true rfl) (fun b12 h => ?_) ?_
              · unfold m5_l16_PipeOrder_k12 at h
                refine cregion ?_
                refine sv rfl (opv_loadN ti46 rfl (.lp _ _ _ rfl) (Nat.le_of_ble_eq_true rfl)) ?_
                refine sstore sz46 rfl rfl rfl rfl (Nat.le_of_ble_eq_true rfl) ?_
                refine smem [.arr 3 1 0 (b4.flatMap eI), .box [.i .i64 v11.1.Win.Base, .i .u64 (v11.1.Win.Bits.toNat : Int), .i .i64 v11.1.Next, .sl v11.1.Wait.length (v11.1.Wait.flatMap eGMsgReq), .sl v11.1.Past.length (v11.1.Past.flatMap eGMsgReply)], .box [.i .i64 v6.1.Win.Base, .i .u64 (v6.1.Win.Bits.toNat : Int), .i .i64 v6.1.Next, .sl v6.1.Wait.length (v6.1.Wait.flatMap eGMsgReq), .sl v6.1.Past.length (v6.1.Past.flatMap eGMsgReply)], .box [.i .i64 v6.2.1.Kind, .i .i64 v6.2.1.Seq, .i .i64 v6.2.1.Code, .i .i64 v6.2.1.N, .b v6.2.1.Found, .sl v6.2.1.Val.length (v6.2.1.Val.flatMap eU8), .sl v6.2.1.List.length (v6.2.1.List.flatMap eGApiKV)], .box [.i .i64 v10.1.Kind, .i .i64 v10.1.Seq, .i .i64 v10.1.Token, .i .i64 v10.1.Attempt, .b v10.1.RO, .sl v10.1.Key.length (v10.1.Key.flatMap eU8), .sl v10.1.Val.length (v10.1.Val.flatMap eU8), .sl v10.1.Rng.Lo.length (v10.1.Rng.Lo.flatMap eU8), .sl v10.1.Rng.Hi.length (v10.1.Rng.Hi.flatMap eU8), .b v10.1.Rng.Open], .box [.i .i64 v11.1.Win.Base, .i .u64 (v11.1.Win.Bits.toNat : Int), .i .i64 v11.1.Next, .sl v11.1.Wait.length (v11.1.Wait.flatMap eGMsgReq), .sl v11.1.Past.length (v11.1.Past.flatMap eGMsgReply)], .box [.i .i64 v11.2.1.Kind, .i .i64 v11.2.1.Seq, .i .i64 v11.2.1.Code, .i .i64 v11.2.1.N, .b v11.2.1.Found, .sl v11.2.1.Val.length (v11.2.1.Val.flatMap eU8), .sl v11.2.1.List.length (v11.2.1.List.flatMap eGApiKV)]] rfl ?_
                refine snil0 ?_
                refine block_normal ?_
                refine then_normal ?_
                refine cregion ?_
                refine sv rfl (opv_mv rfl) ?_
                refine sv rfl (opv_add rfl rfl) ?_
                refine sv rfl (opv_as rfl) ?_
                refine snil ?_
                obtain rfl := Option.some.inj h
                exact ⟨(n9, ((wI (s9.1 + 1)), v11.1.Win.Base, v11.1.Win.Bits, v11.1.Next, v11.1.Wait, v11.1.Past)), _, hk9, ⟨rfl, rfl, rfl, rfl, rfl, trivial⟩, rfl, Nat.lt_succ_self _⟩
              · skip
                refine cregion ?_
                refine sv rfl (opv_mv rfl) ?_
                refine sv rfl (opv_not rfl) ?_
                refine sv rfl (opv_mv rfl) ?_
                refine ssplit 142 rfl (fun hc => ?_) (fun hc => ?_)
                · replace h := ite_t hc h
                  clear hc
                  refine soff rfl rfl rfl rfl ?_
                  refine soff rfl rfl rfl rfl ?_
                  refine soff rfl rfl rfl rfl ?_
                  refine soff rfl rfl rfl rfl ?_
                  refine sv rfl (opv_pick_t rfl rfl) ?_
                  refine sv rfl (opv_mv rfl) ?_
                  refine soff rfl rfl rfl rfl ?_
                  refine soff rfl rfl rfl rfl ?_
                  refine sv rfl (opv_pick_t rfl rfl) ?_
                  refine sv rfl (opv_mv rfl) ?_
                  refine soff rfl rfl rfl rfl ?_
                  refine soff rfl rfl rfl rfl ?_
                  refine soff rfl rfl rfl rfl ?_
                  refine soff rfl rfl rfl rfl ?_
                  refine sv rfl (opv_pick_t rfl rfl) ?_
                  refine sv rfl (opv_mv rfl) ?_
                  refine soff rfl rfl rfl rfl ?_
                  refine soff rfl rfl rfl rfl ?_
                  refine soff rfl rfl rfl rfl ?_
                  refine soff rfl rfl rfl rfl ?_
                  refine sv rfl (opv_pick_t rfl rfl) ?_
                  refine snil ?_
                  refine ccond rfl (fun _ => ?_) (fun hx => Bool.noConfusion hx)
                  refine cseq ?_
                  refine cregion ?_
                  refine sv rfl (opv_as rfl) ?_
                  refine snil ?_
                  refine cret ?_
                  refine then_ret ?_
                  refine block_ret ?_
                  refine then_ret ?_
                  refine then_ret ?_
                  refine block_ret ?_
                  refine then_ret ?_
                  obtain rfl := Option.some.inj h
                  obtain rfl : Sum.inl _ = x9 := hk9
                  replace ho9 : some _ = some _ := ho9
                  obtain rfl := Option.some.inj ho9
                  refine ⟨Or.inr rfl, _, _, _, (resVs_cons (ResV.tmp _ _ rfl) resVs_nil), (pubA_id rfl), ?_⟩
                  rfl
                · replace h := ite_f hc h
                  clear hc
                  refine son rfl rfl rfl ?_
                  refine sv rfl (opv_fieldAddr_lp fi51_2 rfl) ?_
                  refine son rfl rfl rfl ?_
                  refine sv rfl (opv_load1 ti3 rfl (.lp _ _ _ rfl) rfl) ?_
                  refine son rfl rfl rfl ?_
                  refine sv rfl (opv_mv rfl) ?_
                  refine son rfl rfl rfl ?_
                  refine sv rfl (opv_ineq rfl rfl) ?_
                  refine sv rfl (opv_pick_f rfl rfl) ?_
                  refine sv rfl (opv_mv rfl) ?_
                  refine ssplit 148 rfl (fun hc => ?_) (fun hc => ?_)
                  · replace h := ite_t hc h
                    clear hc
                    refine soff rfl rfl rfl rfl ?_
                    refine soff rfl rfl rfl rfl ?_
                    refine sv rfl (opv_pick_t rfl rfl) ?_
                    refine sv rfl (opv_mv rfl) ?_
                    refine soff rfl rfl rfl rfl ?_
                    refine soff rfl rfl rfl rfl ?_
                    refine soff rfl rfl rfl rfl ?_
                    refine soff rfl rfl rfl rfl ?_
                    refine sv rfl (opv_pick_t rfl rfl) ?_
                    refine sv rfl (opv_mv rfl) ?_
                    refine soff rfl rfl rfl rfl ?_
                    refine soff rfl rfl rfl rfl ?_
                    refine soff rfl rfl rfl rfl ?_
                    refine soff rfl rfl rfl rfl ?_
                    refine sv rfl (opv_pick_t rfl rfl) ?_
                    refine snil ?_
                    refine ccond rfl (fun _ => ?_) (fun hx => Bool.noConfusion hx)
                    refine cseq ?_
                    refine cregion ?_
                    refine sv rfl (opv_as rfl) ?_
                    refine snil ?_
                    refine cret ?_
                    refine then_ret ?_
                    refine block_ret ?_
                    refine then_ret ?_
                    refine then_ret ?_
                    refine block_ret ?_
                    refine then_ret ?_
                    obtain rfl := Option.some.inj h
                    obtain rfl : Sum.inl _ = x9 := hk9
                    replace ho9 : some _ = some _ := ho9
                    obtain rfl := Option.some.inj ho9
                    refine ⟨Or.inr rfl, _, _, _, (resVs_cons (ResV.tmp _ _ rfl) resVs_nil), (pubA_id rfl), ?_⟩
                    rfl
                  · replace h := ite_f hc h
                    clear hc
                    refine son rfl rfl rfl ?_
                    refine sv rfl (opv_mv rfl) ?_
                    refine son rfl rfl rfl ?_
                    refine sv rfl (opv_ineq rfl rfl) ?_
                    refine sv rfl (opv_pick_f rfl rfl) ?_
                    refine sv rfl (opv_mv rfl) ?_
                    refine ssplit 152 rfl (fun hc => ?_) (fun hc => ?_)
                    · replace h := ite_t hc h
                      clear hc
                      refine soff rfl rfl rfl rfl ?_
                      refine soff rfl rfl rfl rfl ?_
                      refine soff rfl rfl rfl rfl ?_
                      refine soff rfl rfl rfl rfl ?_
                      refine sv rfl (opv_pick_t rfl rfl) ?_
                      refine sv rfl (opv_mv rfl) ?_
                      refine soff rfl rfl rfl rfl ?_
                      refine soff rfl rfl rfl rfl ?_
                      refine soff rfl rfl rfl rfl ?_
                      refine soff rfl rfl rfl rfl ?_
                      refine sv rfl (opv_pick_t rfl rfl) ?_
                      refine snil ?_
                      refine ccond rfl (fun _ => ?_) (fun hx => Bool.noConfusion hx)
                      refine cseq ?_
                      refine cregion ?_
                      refine sv rfl (opv_as rfl) ?_
                      refine snil ?_
                      refine cret ?_
                      refine then_ret ?_
                      refine block_ret ?_
                      refine then_ret ?_
                      refine then_ret ?_
                      refine block_ret ?_
                      refine then_ret ?_
                      obtain rfl := Option.some.inj h
                      obtain rfl : Sum.inl _ = x9 := hk9
                      replace ho9 : some _ = some _ := ho9
                      obtain rfl := Option.some.inj ho9
                      refine ⟨Or.inr rfl, _, _, _, (resVs_cons (ResV.tmp _ _ rfl) resVs_nil), (pubA_id rfl), ?_⟩
                      rfl
                    · replace h := ite_f hc h
                      clear hc
                      refine son rfl rfl rfl ?_
                      refine sv rfl (opv_fieldAddr_lp fi48_3 rfl) ?_
                      refine son rfl rfl rfl ?_
                      refine sv rfl (opv_load1 ti3 rfl (.lp _ _ _ rfl) rfl) ?_
                      refine son rfl rfl rfl ?_
                      refine sv rfl (opv_mv rfl) ?_
                      refine son rfl rfl rfl ?_
                      refine sv rfl (opv_ineq rfl rfl) ?_
                      refine sv rfl (opv_pick_f rfl rfl) ?_
                      refine sv rfl (opv_mv rfl) ?_
                      refine ssplit 158 rfl (fun hc => ?_) (fun hc => ?_)
                      · replace h := ite_t hc h
                        clear hc
                        refine soff rfl rfl rfl rfl ?_
                        refine soff rfl rfl rfl rfl ?_
                        refine soff rfl rfl rfl rfl ?_
                        refine soff rfl rfl rfl rfl ?_
                        refine sv rfl (opv_pick_t rfl rfl) ?_
                        refine snil ?_
                        refine ccond rfl (fun _ => ?_) (fun hx => Bool.noConfusion hx)
                        refine cseq ?_
                        refine cregion ?_
                        refine sv rfl (opv_as rfl) ?_
                        refine snil ?_
                        refine cret ?_
                        refine then_ret ?_
                        refine block_ret ?_
                        refine then_ret ?_
                        refine then_ret ?_
                        refine block_ret ?_
                        refine then_ret ?_
                        obtain rfl := Option.some.inj h
                        obtain rfl : Sum.inl _ = x9 := hk9
                        replace ho9 : some _ = some _ := ho9
                        obtain rfl := Option.some.inj ho9
                        refine ⟨Or.inr rfl, _, _, _, (resVs_cons (ResV.tmp _ _ rfl) resVs_nil), (pubA_id rfl), ?_⟩
                        rfl
                      · replace h := ite_f hc h
                        clear hc
                        refine son rfl rfl rfl ?_
                        refine sv rfl (opv_fieldAddr_lp fi48_1 rfl) ?_
                        refine son rfl rfl rfl ?_
                        refine sv rfl (opv_load1 ti3 rfl (.lp _ _ _ rfl) rfl) ?_
                        refine son rfl rfl rfl ?_
                        refine sv rfl (opv_mv rfl) ?_
                        refine son rfl rfl rfl ?_
                        refine sv rfl (opv_ineq rfl rfl) ?_
                        refine sv rfl (opv_pick_f rfl rfl) ?_
                        refine snil ?_
                        refine ccond rfl (fun hc => ?_) (fun hc => ?_)
                        · replace h := ite_t hc h
                          clear hc
                          refine cseq ?_
                          refine cregion ?_
                          refine sv rfl (opv_as rfl) ?_
                          refine snil ?_
                          refine cret ?_
                          refine then_ret ?_
                          refine block_ret ?_
                          refine then_ret ?_
                          refine then_ret ?_
                          refine block_ret ?_
                          refine then_ret ?_
                          obtain rfl := Option.some.inj h
                          obtain rfl : Sum.inl _ = x9 := hk9
                          replace ho9 : some _ = some _ := ho9
                          obtain rfl := Option.some.inj ho9
                          refine ⟨Or.inr rfl, _, _, _, (resVs_cons (ResV.tmp _ _ rfl) resVs_nil), (pubA_id rfl), ?_⟩
                          rfl
                        · replace h := ite_f hc h
                          clear hc
                          refine cskip ?_
                          refine then_normal ?_
                          exact ⟨(), _, h, ⟨rfl, rfl, rfl, rfl, rfl, rfl, trivial⟩, rfl⟩
            · replace h := ite_f hc h
              clear hc
              refine cexit ?_
              refine then_exit ?_
              refine then_exit ?_
              refine block_hit ?_
              refine then_normal ?_
              obtain rfl := Option.some.inj h
              obtain rfl : _ = x9 := hk9
              exact ⟨(s9.2.1, s9.2.2.1, s9.2.2.2.1, s9.2.2.2.2.1, s9.2.2.2.2.2), _, ho9, ⟨rfl, rfl, rfl, rfl, trivial⟩, rfl⟩
        · skip
          refine cblock ?_
          refine cpubbox 1 3 rfl rfl PubL.nil rfl ?_
          refine cpubbox 1 4 rfl rfl PubL.nil rfl ?_
          obtain ⟨x14, hx14, ho14⟩ := bind_eq h
          refine awc_loop (G := Nat × (Int × Int × (BitVec 64) × Int × (List GMsgReq) × (List GMsgReply))) (fun g => [(5, .s (.one (.b v1))), (6, .s (.one (.i .i64 (wI (1 + (wI ((BitVec.ofInt 64 a0 &&& BitVec.ofInt 64 7).toNat : Int))))))), (7, .s (.one (.ls 0 b4.length))), (13, .s (.one (.lp 1 0))), (14, .s (.one (.i .i64 g.2.1)))]) (fun g => [.arr 3 1 0 (b4.flatMap eI), .box [.i .i64 g.2.2.1, .i .u64 (g.2.2.2.1.toNat : Int), .i .i64 g.2.2.2.2.1, .sl g.2.2.2.2.2.1.length (g.2.2.2.2.2.1.flatMap eGMsgReq), .sl g.2.2.2.2.2.2.length (g.2.2.2.2.2.2.flatMap eGMsgReply)]]) (fun g => iter (m5_l16_PipeOrder_s14 a0 b4) g.1 g.2 = some x14) (fun g => g.1) (fuel, (0, 0, 0#64, 0, ([] : List GMsgReq), ([] : List GMsgReply))) hx14 ⟨rfl, rfl, rfl, rfl, rfl, trivial⟩ [] rfl (fun _ _ => inbL_of rfl) (fun _ _ => blkinb_of rfl) (fun _ _ => Nat.le_of_ble_eq_true rfl) ?_
          clear hx14 h
          rintro ⟨n14, s14⟩ h
          obtain ⟨n14, y14, rfl, h, hk14⟩ := iter_eq h
          unfold m5_l16_PipeOrder_s14 at h
          refine cseq ?_
          refine cseq ?_
          refine cregion ?_
          refine sv rfl (opv_mv rfl) ?_
          refine sv rfl (opv_mv rfl) ?_
          refine sv rfl (opv_lss rfl rfl) ?_
          refine snil ?_
          refine ccond rfl (fun hc => ?_) (fun hc => ?_)
          · replace h := ite_t hc h
            clear hc
            refine cskip ?_
            refine then_normal ?_
            refine cseq ?_
            refine cblock ?_
            refine cseq ?_
            refine chole ?_
            refine chole ?_
            obtain ⟨u15, hu15, h⟩ := bind_eq h
            obtain ⟨u16, hu16, h⟩ := bind_eq h
            obtain ⟨v17, hv17, h⟩ := bind_eq h
            refine cdraw_m [16, 17, 18, 19] [0, 0, 0, 6, 14, 0, 0, 96, 224, 510, 1023, 2047, 4095, 4095, 4095, 4095, 0, 0, 204799, 475135, 1015807, 2097151] [([false, false, false, false], [.arr 3 1 0 (b4.flatMap eI), .box [.i .i64 s14.2.1, .i .u64 (s14.2.2.1.toNat : Int), .i .i64 s14.2.2.2.1, .sl s14.2.2.2.2.1.length (s14.2.2.2.2.1.flatMap eGMsgReq), .sl s14.2.2.2.2.2.length (s14.2.2.2.2.2.flatMap eGMsgReply)], .hole, .hole]), ([false, true, false, false], [.arr 3 1 0 (b4.flatMap eI), .box [.i .i64 s14.2.1, .i .u64 (s14.2.2.1.toNat : Int), .i .i64 s14.2.2.2.1, .sl s14.2.2.2.2.1.length (s14.2.2.2.2.1.flatMap eGMsgReq), .sl s14.2.2.2.2.2.length (s14.2.2.2.2.2.flatMap eGMsgReply)], .hole, .box [.i .i64 0, .i .i64 0, .i .i64 0, .i .i64 0, .b false, .raw (.slice none 0 0), .raw (.slice none 0 0)]]), ([true, false, false, false], [.arr 3 1 0 (b4.flatMap eI), .box [.i .i64 s14.2.1, .i .u64 (s14.2.2.1.toNat : Int), .i .i64 s14.2.2.2.1, .sl s14.2.2.2.2.1.length (s14.2.2.2.2.1.flatMap eGMsgReq), .sl s14.2.2.2.2.2.length (s14.2.2.2.2.2.flatMap eGMsgReply)], .box [.i .i64 0, .i .u64 ((0#64).toNat : Int), .i .i64 0, .raw (.slice none 0 0), .raw (.slice none 0 0)], .hole]), ([true, true, false, false], [.arr 3 1 0 (b4.flatMap eI), .box [.i .i64 s14.2.1, .i .u64 (s14.2.2.1.toNat : Int), .i .i64 s14.2.2.2.1, .sl s14.2.2.2.2.1.length (s14.2.2.2.2.1.flatMap eGMsgReq), .sl s14.2.2.2.2.2.length (s14.2.2.2.2.2.flatMap eGMsgReply)], .box [.i .i64 0, .i .u64 ((0#64).toNat : Int), .i .i64 0, .raw (.slice none 0 0), .raw (.slice none 0 0)], .box [.i .i64 0, .i .i64 0, .i .i64 0, .i .i64 0, .b false, .raw (.slice none 0 0), .raw (.slice none 0 0)]]), ([true, true, true, false], [.arr 3 1 0 (b4.flatMap eI), .box [.i .i64 s14.2.1, .i .u64 (s14.2.2.1.toNat : Int), .i .i64 s14.2.2.2.1, .sl s14.2.2.2.2.1.length (s14.2.2.2.2.1.flatMap eGMsgReq), .sl s14.2.2.2.2.2.length (s14.2.2.2.2.2.flatMap eGMsgReply)], .box [.i .i64 v17.1.Win.Base, .i .u64 (v17.1.Win.Bits.toNat : Int), .i .i64 v17.1.Next, .sl v17.1.Wait.length (v17.1.Wait.flatMap eGMsgReq), .sl v17.1.Past.length (v17.1.Past.flatMap eGMsgReply)], .box [.i .i64 0, .i .i64 0, .i .i64 0, .i .i64 0, .b false, .raw (.slice none 0 0), .raw (.slice none 0 0)]]), ([true, true, true, true], [.arr 3 1 0 (b4.flatMap eI), .box [.i .i64 s14.2.1, .i .u64 (s14.2.2.1.toNat : Int), .i .i64 s14.2.2.2.1, .sl s14.2.2.2.2.1.length (s14.2.2.2.2.1.flatMap eGMsgReq), .sl s14.2.2.2.2.2.length (s14.2.2.2.2.2.flatMap eGMsgReply)], .box [.i .i64 v17.1.Win.Base, .i .u64 (v17.1.Win.Bits.toNat : Int), .i .i64 v17.1.Next, .sl v17.1.Wait.length (v17.1.Wait.flatMap eGMsgReq), .sl v17.1.Past.length (v17.1.Past.flatMap eGMsgReply)], .box [.i .i64 v17.2.1.Kind, .i .i64 v17.2.1.Seq, .i .i64 v17.2.1.Code, .i .i64 v17.2.1.N, .b v17.2.1.Found, .sl v17.2.1.Val.length (v17.2.1.Val.flatMap eU8), .sl v17.2.1.List.length (v17.2.1.List.flatMap eGApiKV)]])] (by kernel_rfl) mixed (by kernel_rfl) (by decide) rfl (by kernel_rfl) rfl rfl ?_
            refine mev (md := [.arr 3 1 0 (b4.flatMap eI), .box [.i .i64 s14.2.1, .i .u64 (s14.2.2.1.toNat : Int), .i .i64 s14.2.2.2.1, .sl s14.2.2.2.2.1.length (s14.2.2.2.2.1.flatMap eGMsgReq), .sl s14.2.2.2.2.2.length (s14.2.2.2.2.2.flatMap eGMsgReply)], .dead, .dead]) (alle_t rfl ⟨rfl, ⟨rfl, ⟨trivial, ⟨trivial, trivial⟩⟩⟩⟩ (alle_t rfl ⟨rfl, ⟨rfl, ⟨trivial, ⟨trivial, trivial⟩⟩⟩⟩ (alle_t rfl ⟨rfl, ⟨rfl, ⟨trivial, ⟨trivial, trivial⟩⟩⟩⟩ (alle_t rfl ⟨rfl, ⟨rfl, ⟨trivial, ⟨trivial, trivial⟩⟩⟩⟩ (alle_f rfl (alle_f rfl alle_nil)))))) rfl rfl (opv_loadN ti46 rfl (.lp _ _ _ rfl) (Nat.le_of_ble_eq_true rfl)) ?_
            refine mem2 rfl rfl (fun _ => opv_mv rfl) ?_
            refine mem2 rfl rfl (fun _ => opv_mv rfl) ?_
            refine mev (md := [.arr 3 1 0 (b4.flatMap eI), .box [.i .i64 s14.2.1, .i .u64 (s14.2.2.1.toNat : Int), .i .i64 s14.2.2.2.1, .sl s14.2.2.2.2.1.length (s14.2.2.2.2.1.flatMap eGMsgReq), .sl s14.2.2.2.2.2.length (s14.2.2.2.2.2.flatMap eGMsgReply)], .dead, .dead]) (alle_t rfl ⟨rfl, ⟨rfl, ⟨trivial, ⟨trivial, trivial⟩⟩⟩⟩ (alle_t rfl ⟨rfl, ⟨rfl, ⟨trivial, ⟨trivial, trivial⟩⟩⟩⟩ (alle_t rfl ⟨rfl, ⟨rfl, ⟨trivial, ⟨trivial, trivial⟩⟩⟩⟩ (alle_t rfl ⟨rfl, ⟨rfl, ⟨trivial, ⟨trivial, trivial⟩⟩⟩⟩ (alle_f rfl (alle_f rfl alle_nil)))))) rfl rfl (opv_ixo (f := eI) si77 (fun _ => rfl) rfl rfl rfl (by first | rfl | exact List.length_set.symm) rfl hu15) ?_
            refine mev (md := [.arr 3 1 0 (b4.flatMap eI), .box [.i .i64 s14.2.1, .i .u64 (s14.2.2.1.toNat : Int), .i .i64 s14.2.2.2.1, .sl s14.2.2.2.2.1.length (s14.2.2.2.2.1.flatMap eGMsgReq), .sl s14.2.2.2.2.2.length (s14.2.2.2.2.2.flatMap eGMsgReply)], .dead, .dead]) (alle_t rfl ⟨rfl, ⟨rfl, ⟨trivial, ⟨trivial, trivial⟩⟩⟩⟩ (alle_t rfl ⟨rfl, ⟨rfl, ⟨trivial, ⟨trivial, trivial⟩⟩⟩⟩ (alle_t rfl ⟨rfl, ⟨rfl, ⟨trivial, ⟨trivial, trivial⟩⟩⟩⟩ (alle_t rfl ⟨rfl, ⟨rfl, ⟨trivial, ⟨trivial, trivial⟩⟩⟩⟩ (alle_f rfl (alle_f rfl alle_nil)))))) rfl rfl (opv_ld1o (f := eI) 0 ti3 (fun _ => rfl) rfl rfl rfl rfl (idx_eq hu15).2 rfl) ?_
            refine mem2 rfl rfl (fun _ => opv_mv rfl) ?_
            refine mem2 rfl rfl (fun _ => opv_mv rfl) ?_
            refine mev (md := [.arr 3 1 0 (b4.flatMap eI), .box [.i .i64 s14.2.1, .i .u64 (s14.2.2.1.toNat : Int), .i .i64 s14.2.2.2.1, .sl s14.2.2.2.2.1.length (s14.2.2.2.2.1.flatMap eGMsgReq), .sl s14.2.2.2.2.2.length (s14.2.2.2.2.2.flatMap eGMsgReply)], .dead, .dead]) (alle_t rfl ⟨rfl, ⟨rfl, ⟨trivial, ⟨trivial, trivial⟩⟩⟩⟩ (alle_t rfl ⟨rfl, ⟨rfl, ⟨trivial, ⟨trivial, trivial⟩⟩⟩⟩ (alle_t rfl ⟨rfl, ⟨rfl, ⟨trivial, ⟨trivial, trivial⟩⟩⟩⟩ (alle_t rfl ⟨rfl, ⟨rfl, ⟨trivial, ⟨trivial, trivial⟩⟩⟩⟩ (alle_f rfl (alle_f rfl alle_nil)))))) rfl rfl (opv_ixo (f := eI) si77 (fun _ => rfl) rfl rfl rfl (by first | rfl | exact List.length_set.symm) rfl hu16) ?_
            refine mev (md := [.arr 3 1 0 (b4.flatMap eI), .box [.i .i64 s14.2.1, .i .u64 (s14.2.2.1.toNat : Int), .i .i64 s14.2.2.2.1, .sl s14.2.2.2.2.1.length (s14.2.2.2.2.1.flatMap eGMsgReq), .sl s14.2.2.2.2.2.length (s14.2.2.2.2.2.flatMap eGMsgReply)], .dead, .dead]) (alle_t rfl ⟨rfl, ⟨rfl, ⟨trivial, ⟨trivial, trivial⟩⟩⟩⟩ (alle_t rfl ⟨rfl, ⟨rfl, ⟨trivial, ⟨trivial, trivial⟩⟩⟩⟩ (alle_t rfl ⟨rfl, ⟨rfl, ⟨trivial, ⟨trivial, trivial⟩⟩⟩⟩ (alle_t rfl ⟨rfl, ⟨rfl, ⟨trivial, ⟨trivial, trivial⟩⟩⟩⟩ (alle_f rfl (alle_f rfl alle_nil)))))) rfl rfl (opv_ld1o (f := eI) 0 ti3 (fun _ => rfl) rfl rfl rfl rfl (idx_eq hu16).2 rfl) ?_
            refine mev (md := [.arr 3 1 0 (b4.flatMap eI), .box [.i .i64 s14.2.1, .i .u64 (s14.2.2.1.toNat : Int), .i .i64 s14.2.2.2.1, .sl s14.2.2.2.2.1.length (s14.2.2.2.2.1.flatMap eGMsgReq), .sl s14.2.2.2.2.2.length (s14.2.2.2.2.2.flatMap eGMsgReply)], .dead, .dead]) (alle_t rfl ⟨rfl, ⟨rfl, ⟨trivial, ⟨trivial, trivial⟩⟩⟩⟩ (alle_t rfl ⟨rfl, ⟨rfl, ⟨trivial, ⟨trivial, trivial⟩⟩⟩⟩ (alle_t rfl ⟨rfl, ⟨rfl, ⟨trivial, ⟨trivial, trivial⟩⟩⟩⟩ (alle_t rfl ⟨rfl, ⟨rfl, ⟨trivial, ⟨trivial, trivial⟩⟩⟩⟩ (alle_f rfl (alle_f rfl alle_nil)))))) rfl rfl (opv_build zi51 pi51 (parts_cons rfl (parts_cons rfl (parts_cons rfl parts_nil))) (.cons _ _ _ _ _ _ _ rfl rfl (Nat.le_of_ble_eq_true rfl) (.cons _ _ _ _ _ _ _ rfl rfl (Nat.le_of_ble_eq_true rfl) (.cons _ _ _ _ _ _ _ rfl rfl (Nat.le_of_ble_eq_true rfl) (.nil _))))) ?_
            refine med (md := [.arr 3 1 0 (b4.flatMap eI), .box [.i .i64 s14.2.1, .i .u64 (s14.2.2.1.toNat : Int), .i .i64 s14.2.2.2.1, .sl s14.2.2.2.2.1.length (s14.2.2.2.2.1.flatMap eGMsgReq), .sl s14.2.2.2.2.2.length (s14.2.2.2.2.2.flatMap eGMsgReply)], .dead, .dead]) (alle_t rfl ⟨rfl, ⟨rfl, ⟨trivial, ⟨trivial, trivial⟩⟩⟩⟩ (alle_t rfl ⟨rfl, ⟨rfl, ⟨trivial, ⟨trivial, trivial⟩⟩⟩⟩ (alle_t rfl ⟨rfl, ⟨rfl, ⟨trivial, ⟨trivial, trivial⟩⟩⟩⟩ (alle_t rfl ⟨rfl, ⟨rfl, ⟨trivial, ⟨trivial, trivial⟩⟩⟩⟩ (alle_f rfl (alle_f rfl alle_nil)))))) rfl rfl (opD_callN fn13 (opnds_cons rfl (opnds_cons rfl opnds_nil)) rfl (m13_pipe_Offer_c hv17)) ?_
            refine mem2 rfl rfl (fun _ => opv_mvt rfl) ?_
            refine mev (md := [.arr 3 1 0 (b4.flatMap eI), .box [.i .i64 s14.2.1, .i .u64 (s14.2.2.1.toNat : Int), .i .i64 s14.2.2.2.1, .sl s14.2.2.2.2.1.length (s14.2.2.2.2.1.flatMap eGMsgReq), .sl s14.2.2.2.2.2.length (s14.2.2.2.2.2.flatMap eGMsgReply)], .dead, .dead]) (alle_t rfl ⟨rfl, ⟨rfl, ⟨trivial, ⟨trivial, trivial⟩⟩⟩⟩ (alle_t rfl ⟨rfl, ⟨rfl, ⟨trivial, ⟨trivial, trivial⟩⟩⟩⟩ (alle_t rfl ⟨rfl, ⟨rfl, ⟨trivial, ⟨trivial, trivial⟩⟩⟩⟩ (alle_t rfl ⟨rfl, ⟨rfl, ⟨trivial, ⟨trivial, trivial⟩⟩⟩⟩ (alle_f rfl (alle_f rfl alle_nil)))))) rfl rfl (opv_extract rfl rfl) ?_
            refine mev (md := [.arr 3 1 0 (b4.flatMap eI), .box [.i .i64 s14.2.1, .i .u64 (s14.2.2.1.toNat : Int), .i .i64 s14.2.2.2.1, .sl s14.2.2.2.2.1.length (s14.2.2.2.2.1.flatMap eGMsgReq), .sl s14.2.2.2.2.2.length (s14.2.2.2.2.2.flatMap eGMsgReply)], .dead, .dead]) (alle_t rfl ⟨rfl, ⟨rfl, ⟨trivial, ⟨trivial, trivial⟩⟩⟩⟩ (alle_t rfl ⟨rfl, ⟨rfl, ⟨trivial, ⟨trivial, trivial⟩⟩⟩⟩ (alle_t rfl ⟨rfl, ⟨rfl, ⟨trivial, ⟨trivial, trivial⟩⟩⟩⟩ (alle_t rfl ⟨rfl, ⟨rfl, ⟨trivial, ⟨trivial, trivial⟩⟩⟩⟩ (alle_t rfl ⟨rfl, ⟨rfl, ⟨trivial, ⟨trivial, trivial⟩⟩⟩⟩ (alle_f rfl alle_nil)))))) rfl rfl (opv_extract rfl rfl) ?_
            refine mev (md := [.arr 3 1 0 (b4.flatMap eI), .box [.i .i64 s14.2.1, .i .u64 (s14.2.2.1.toNat : Int), .i .i64 s14.2.2.2.1, .sl s14.2.2.2.2.1.length (s14.2.2.2.2.1.flatMap eGMsgReq), .sl s14.2.2.2.2.2.length (s14.2.2.2.2.2.flatMap eGMsgReply)], .dead, .dead]) (alle_t rfl ⟨rfl, ⟨rfl, ⟨trivial, ⟨trivial, trivial⟩⟩⟩⟩ (alle_t rfl ⟨rfl, ⟨rfl, ⟨trivial, ⟨trivial, trivial⟩⟩⟩⟩ (alle_t rfl ⟨rfl, ⟨rfl, ⟨trivial, ⟨trivial, trivial⟩⟩⟩⟩ (alle_t rfl ⟨rfl, ⟨rfl, ⟨trivial, ⟨trivial, trivial⟩⟩⟩⟩ (alle_t rfl ⟨rfl, ⟨rfl, ⟨trivial, ⟨trivial, trivial⟩⟩⟩⟩ (alle_t rfl ⟨rfl, ⟨rfl, ⟨trivial, ⟨trivial, trivial⟩⟩⟩⟩ alle_nil)))))) rfl rfl (opv_extract rfl rfl) ?_
            refine mev (md := [.arr 3 1 0 (b4.flatMap eI), .box [.i .i64 s14.2.1, .i .u64 (s14.2.2.1.toNat : Int), .i .i64 s14.2.2.2.1, .sl s14.2.2.2.2.1.length (s14.2.2.2.2.1.flatMap eGMsgReq), .sl s14.2.2.2.2.2.length (s14.2.2.2.2.2.flatMap eGMsgReply)], .dead, .dead]) (alle_t rfl ⟨rfl, ⟨rfl, ⟨trivial, ⟨trivial, trivial⟩⟩⟩⟩ (alle_t rfl ⟨rfl, ⟨rfl, ⟨trivial, ⟨trivial, trivial⟩⟩⟩⟩ (alle_t rfl ⟨rfl, ⟨rfl, ⟨trivial, ⟨trivial, trivial⟩⟩⟩⟩ (alle_t rfl ⟨rfl, ⟨rfl, ⟨trivial, ⟨trivial, trivial⟩⟩⟩⟩ (alle_t rfl ⟨rfl, ⟨rfl, ⟨trivial, ⟨trivial, trivial⟩⟩⟩⟩ (alle_t rfl ⟨rfl, ⟨rfl, ⟨trivial, ⟨trivial, trivial⟩⟩⟩⟩ alle_nil)))))) rfl rfl (opv_extract rfl rfl) ?_
            refine mee (x := .s (.one (.lp 2 0))) 0 rfl rfl ?_ ?_
            · refine alle_t rfl ⟨_, rfl, fun ζ => ?_⟩ ?_
              · refine salloc_at 2 rfl zi46 rfl ?_
                exact eend
              refine alle_t rfl ⟨_, rfl, fun ζ => ?_⟩ ?_
              · refine salloc_at 2 rfl zi46 rfl ?_
                exact eend
              refine alle_f rfl ?_
              refine alle_f rfl ?_
              refine alle_f rfl ?_
              refine alle_f rfl ?_
              exact alle_nil
            refine mee (x := .s (.one (.lp 3 0))) 1 rfl rfl ?_ ?_
            · refine alle_t rfl ⟨_, rfl, fun ζ => ?_⟩ ?_
              · refine salloc_at 3 rfl zi48 rfl ?_
                exact eend
              refine alle_f rfl ?_
              refine alle_t rfl ⟨_, rfl, fun ζ => ?_⟩ ?_
              · refine salloc_at 3 rfl zi48 rfl ?_
                exact eend
              refine alle_f rfl ?_
              refine alle_f rfl ?_
              refine alle_f rfl ?_
              exact alle_nil
            refine mee0 2 rfl ?_ ?_
            · refine alle_f rfl ?_
              refine alle_f rfl ?_
              refine alle_f rfl ?_
              refine alle_t rfl ⟨_, rfl, fun ζ => ?_⟩ ?_
              · refine sstore sz46 rfl rfl rfl rfl (Nat.le_of_ble_eq_true rfl) ?_
                refine smem [.arr 3 1 0 (b4.flatMap eI), .box [.i .i64 s14.2.1, .i .u64 (s14.2.2.1.toNat : Int), .i .i64 s14.2.2.2.1, .sl s14.2.2.2.2.1.length (s14.2.2.2.2.1.flatMap eGMsgReq), .sl s14.2.2.2.2.2.length (s14.2.2.2.2.2.flatMap eGMsgReply)], .box [.i .i64 v17.1.Win.Base, .i .u64 (v17.1.Win.Bits.toNat : Int), .i .i64 v17.1.Next, .sl v17.1.Wait.length (v17.1.Wait.flatMap eGMsgReq), .sl v17.1.Past.length (v17.1.Past.flatMap eGMsgReply)], .box [.i .i64 0, .i .i64 0, .i .i64 0, .i .i64 0, .b false, .raw (.slice none 0 0), .raw (.slice none 0 0)]] rfl ?_
                exact eend
              refine alle_f rfl ?_
              refine alle_f rfl ?_
              exact alle_nil
            refine mee0 3 rfl ?_ ?_
            · refine alle_f rfl ?_
              refine alle_f rfl ?_
              refine alle_f rfl ?_
              refine alle_f rfl ?_
              refine alle_t rfl ⟨_, rfl, fun ζ => ?_⟩ ?_
              · refine sstore sz48 rfl rfl rfl rfl (Nat.le_of_ble_eq_true rfl) ?_
                refine smem [.arr 3 1 0 (b4.flatMap eI), .box [.i .i64 s14.2.1, .i .u64 (s14.2.2.1.toNat : Int), .i .i64 s14.2.2.2.1, .sl s14.2.2.2.2.1.length (s14.2.2.2.2.1.flatMap eGMsgReq), .sl s14.2.2.2.2.2.length (s14.2.2.2.2.2.flatMap eGMsgReply)], .box [.i .i64 v17.1.Win.Base, .i .u64 (v17.1.Win.Bits.toNat : Int), .i .i64 v17.1.Next, .sl v17.1.Wait.length (v17.1.Wait.flatMap eGMsgReq), .sl v17.1.Past.length (v17.1.Past.flatMap eGMsgReply)], .box [.i .i64 v17.2.1.Kind, .i .i64 v17.2.1.Seq, .i .i64 v17.2.1.Code, .i .i64 v17.2.1.N, .b v17.2.1.Found, .sl v17.2.1.Val.length (v17.2.1.Val.flatMap eU8), .sl v17.2.1.List.length (v17.2.1.List.flatMap eGApiKV)]] rfl ?_
                exact eend
              refine alle_f rfl ?_
              exact alle_nil
            refine mem2 rfl rfl (fun _ => opv_as rfl) ?_
            refine mem2 rfl rfl (fun _ => opv_as rfl) ?_
            refine mnil2 ?_
            refine then_normal ?_
            refine cseq ?_
            refine cseq ?_
            refine cjoin3 (Unit) (fun b18 => [(5, .s (.one (.b v1))), (6, .s (.one (.i .i64 (wI (1 + (wI ((BitVec.ofInt 64 a0 &&& BitVec.ofInt 64 7).toNat : Int))))))), (7, .s (.one (.ls 0 b4.length))), (13, .s (.one (.lp 1 0))), (14, .s (.one (.i .i64 s14.1))), (15, .s (.one (.lp 2 0)))]) (fun b18 => [.arr 3 1 0 (b4.flatMap eI), .box [.i .i64 s14.2.1, .i .u64 (s14.2.2.1.toNat : Int), .i .i64 s14.2.2.2.1, .sl s14.2.2.2.2.1.length (s14.2.2.2.2.1.flatMap eGMsgReq), .sl s14.2.2.2.2.2.length (s14.2.2.2.2.2.flatMap eGMsgReply)], .box [.i .i64 v17.1.Win.Base, .i .u64 (v17.1.Win.Bits.toNat : Int), .i .i64 v17.1.Next, .sl v17.1.Wait.length (v17.1.Wait.flatMap eGMsgReq), .sl v17.1.Past.length (v17.1.Past.flatMap eGMsgReply)], .box [.i .i64 v17.2.1.Kind, .i .i64 v17.2.1.Seq, .i .i64 v17.2.1.Code, .i .i64 v17.2.1.N, .b v17.2.1.Found, .sl v17.2.1.Val.length (v17.2.1.Val.flatMap eU8), .sl v17.2.1.List.length (v17.2.1.List.flatMap eGApiKV)]]) (fun b18 => m5_l16_PipeOrder_k18 s14 v17 b18 = some y14) (fun _ _ => inbL_of rfl) (fun _ _ => blkinb_of rfl) (fun _ _ => Nat.le_of_ble_eq_true rfl) (fun b18 h => ?_) ?_
            · unfold m5_l16_PipeOrder_k18 at h
              refine cregion ?_
              refine sv rfl (opv_loadN ti46 rfl (.lp _ _ _ rfl) (Nat.le_of_ble_eq_true rfl)) ?_
              refine sstore sz46 rfl rfl rfl rfl (Nat.le_of_ble_eq_true rfl) ?_
              refine smem [.arr 3 1 0 (b4.flatMap eI), .box [.i .i64 v17.1.Win.Base, .i .u64 (v17.1.Win.Bits.toNat : Int), .i .i64 v17.1.Next, .sl v17.1.Wait.length (v17.1.Wait.flatMap eGMsgReq), .sl v17.1.Past.length (v17.1.Past.flatMap eGMsgReply)], .box [.i .i64 v17.1.Win.Base, .i .u64 (v17.1.Win.Bits.toNat : Int), .i .i64 v17.1.Next, .sl v17.1.Wait.length (v17.1.Wait.flatMap eGMsgReq), .sl v17.1.Past.length (v17.1.Past.flatMap eGMsgReply)], .box [.i .i64 v17.2.1.Kind, .i .i64 v17.2.1.Seq, .i .i64 v17.2.1.Code, .i .i64 v17.2.1.N, .b v17.2.1.Found, .sl v17.2.1.Val.length (v17.2.1.Val.flatMap eU8), .sl v17.2.1.List.length (v17.2.1.List.flatMap eGApiKV)]] rfl ?_
              refine snil0 ?_
              refine block_normal ?_
              refine then_normal ?_
              refine cregion ?_
              refine sv rfl (opv_mv rfl) ?_
              refine sv rfl (opv_add rfl rfl) ?_
              refine sv rfl (opv_as rfl) ?_
              refine snil ?_
              obtain rfl := Option.some.inj h
              exact ⟨(n14, ((wI (s14.1 + 1)), v17.1.Win.Base, v17.1.Win.Bits, v17.1.Next, v17.1.Wait, v17.1.Past)), _, hk14, ⟨rfl, rfl, rfl, rfl, rfl, trivial⟩, rfl, Nat.lt_succ_self _⟩
            · skip
              refine cregion ?_
              refine sv rfl (opv_mv rfl) ?_
              refine sv rfl (opv_mv rfl) ?_
              refine ssplit 109 rfl (fun hc => ?_) (fun hc => ?_)
              · replace h := ite_t hc h
                clear hc
                refine soff rfl rfl rfl rfl ?_
                refine soff rfl rfl rfl rfl ?_
                refine sv rfl (opv_pick_t rfl rfl) ?_
                refine snil ?_
                refine ccond rfl (fun _ => ?_) (fun hx => Bool.noConfusion hx)
                refine cseq ?_
                refine cregion ?_
                refine sv rfl (opv_as rfl) ?_
                refine snil ?_
                refine cret ?_
                refine then_ret ?_
                refine block_ret ?_
                refine then_ret ?_
                refine then_ret ?_
                refine block_ret ?_
                refine then_ret ?_
                obtain rfl := Option.some.inj h
                obtain rfl : Sum.inl _ = x14 := hk14
                replace ho14 : some _ = some _ := ho14
                obtain rfl := Option.some.inj ho14
                refine ⟨Or.inr rfl, _, _, _, (resVs_cons (ResV.tmp _ _ rfl) resVs_nil), (pubA_id rfl), ?_⟩
                rfl
              · replace h := ite_f hc h
                clear hc
                refine son rfl rfl rfl ?_
                refine sv rfl (opv_mv rfl) ?_
                refine son rfl rfl rfl ?_
                refine sv rfl (opv_ineq rfl rfl) ?_
                refine sv rfl (opv_pick_f rfl rfl) ?_
                refine snil ?_
                refine ccond rfl (fun hc => ?_) (fun hc => ?_)
                · replace h := ite_t hc h
                  clear hc
                  refine cseq ?_
                  refine cregion ?_
                  refine sv rfl (opv_as rfl) ?_
                  refine snil ?_
                  refine cret ?_
                  refine then_ret ?_
                  refine block_ret ?_
                  refine then_ret ?_
                  refine then_ret ?_
                  refine block_ret ?_
                  refine then_ret ?_
                  obtain rfl := Option.some.inj h
                  obtain rfl : Sum.inl _ = x14 := hk14
                  replace ho14 : some _ = some _ := ho14
                  obtain rfl := Option.some.inj ho14
                  refine ⟨Or.inr rfl, _, _, _, (resVs_cons (ResV.tmp _ _ rfl) resVs_nil), (pubA_id rfl), ?_⟩
                  rfl
                · replace h := ite_f hc h
                  clear hc
                  refine cskip ?_
                  refine then_normal ?_
                  exact ⟨(), _, h, ⟨rfl, rfl, rfl, rfl, rfl, rfl, trivial⟩, rfl⟩
          · replace h := ite_f hc h
            clear hc
            refine cexit ?_
            refine then_exit ?_
            refine then_exit ?_
            refine block_hit ?_
            refine then_normal ?_
            obtain rfl := Option.some.inj h
            obtain rfl : _ = x14 := hk14
            exact ⟨(s14.2.1, s14.2.2.1, s14.2.2.2.1, s14.2.2.2.2.1, s14.2.2.2.2.2), _, ho14, ⟨rfl, rfl, rfl, trivial⟩, rfl⟩
      · skip
        refine cblock ?_
        obtain ⟨x20, hx20, ho20⟩ := bind_eq h
        refine awc_loop (G := Nat × (Int × (List Int))) (fun g => [(1, .s (.one (.sl a1.length (a1.flatMap eI)))), (5, .s (.one (.b v1))), (6, .s (.one (.i .i64 (wI (1 + (wI ((BitVec.ofInt 64 a0 &&& BitVec.ofInt 64 7).toNat : Int))))))), (7, .s (.one (.ls 0 g.2.2.length))), (9, .s (.one (.i .i64 g.2.1)))]) (fun g => [.arr 3 1 0 (g.2.2.flatMap eI)]) (fun g => iterB (m5_l16_PipeOrder_s20 a0 a1) g.1 g.2 = some x20) (fun g => g.1) (fuel, (0, b3)) hx20 ⟨rfl, rfl, rfl, rfl, rfl, trivial⟩ [] rfl (fun _ _ => inbL_of rfl) (fun _ _ => blkinb_of rfl) (fun _ _ => Nat.le_of_ble_eq_true rfl) ?_
        clear hx20 h
        rintro ⟨n20, s20⟩ h
        obtain ⟨n20, y20, rfl, h, hk20⟩ := iterB_eq h
        unfold m5_l16_PipeOrder_s20 at h
        refine cseq ?_
        refine cseq ?_
        refine cregion ?_
        refine sv rfl (opv_mv rfl) ?_
        refine sv rfl (opv_mv rfl) ?_
        refine sv rfl (opv_len_sl si77 rfl) ?_
        refine sv rfl (opv_lss rfl rfl) ?_
        refine snil ?_
        refine ccond rfl (fun hc => ?_) (fun hc => ?_)
        · replace h := ite_t hc h
          clear hc
          refine cskip ?_
          refine then_normal ?_
          refine cseq ?_
          refine cblock ?_
          refine cseq ?_
          refine cregion ?_
          refine sv rfl (opv_mv rfl) ?_
          refine sv rfl (opv_mv rfl) ?_
          obtain ⟨u21, hu21, h⟩ := bind_eq h
          refine sv rfl (opv_ix (f := eI) si77 (fun _ => rfl) rfl rfl rfl rfl hu21) ?_
          refine sv rfl (opv_load1 ti3 rfl (.cp _) rfl) ?_
          refine sv rfl (opv_and rfl rfl) ?_
          refine sv rfl (opv_mv rfl) ?_
          obtain ⟨hz22, h⟩ := chk_eq h
          refine sv rfl (opv_rem rfl rfl hz22) ?_
          refine sv rfl (opv_as rfl) ?_
          refine snil ?_
          refine cseq ?_
          refine cregion ?_
          refine sv rfl (opv_mv rfl) ?_
          refine sv rfl (opv_mv rfl) ?_
          obtain ⟨u23, hu23, h⟩ := bind_eq h
          refine sv rfl (opv_ix (f := eI) si77 (fun _ => rfl) rfl rfl rfl rfl hu23) ?_
          refine sv rfl (opv_load1 ti3 rfl (.cp _) rfl) ?_
          refine sv rfl (opv_shr rfl rfl (Int.natCast_nonneg _)) ?_
          refine sv rfl (opv_and rfl rfl) ?_
          refine sv rfl (opv_mv rfl) ?_
          obtain ⟨hz24, h⟩ := chk_eq h
          refine sv rfl (opv_rem rfl rfl hz24) ?_
          refine sv rfl (opv_as rfl) ?_
          refine snil ?_
          refine cseq ?_
          refine cregion ?_
          refine sv rfl (opv_mv rfl) ?_
          refine sv rfl (opv_mv rfl) ?_
          obtain ⟨u25, hu25, h⟩ := bind_eq h
          refine sv rfl (opv_ixo (f := eI) si77 (fun _ => rfl) rfl rfl rfl rfl rfl hu25) ?_
          refine sv rfl (opv_ld1o (f := eI) 0 ti3 (fun _ => rfl) rfl rfl rfl rfl (idx_eq hu25).2 rfl) ?_
          refine sv rfl (opv_as rfl) ?_
          refine snil ?_
          refine cseq ?_
          refine cregion ?_
          refine sv rfl (opv_mv rfl) ?_
          refine sv rfl (opv_mv rfl) ?_
          refine sv rfl (opv_mv rfl) ?_
          refine sv rfl (opv_mv rfl) ?_
          obtain ⟨u26, hu26, h⟩ := bind_eq h
          refine sv rfl (opv_ixo (f := eI) si77 (fun _ => rfl) rfl rfl rfl rfl rfl hu26) ?_
          refine sv rfl (opv_ld1o (f := eI) 0 ti3 (fun _ => rfl) rfl rfl rfl rfl (idx_eq hu26).2 rfl) ?_
          obtain ⟨u27, hu27, h⟩ := bind_eq h
          refine sv rfl (opv_ixo (f := eI) si77 (fun _ => rfl) rfl rfl rfl rfl rfl hu27) ?_
          refine sseto (f := eI) (u' := u26) (sz := 1) 0 sz3 (fun _ => rfl) rfl rfl rfl rfl rfl rfl rfl (List.all_eq_true.1 rfl) (idx_eq hu27).2 (Nat.le_of_ble_eq_true rfl) rfl ?_
          refine stell 7 (y := .s (.one (.ls 0 s20.2.length))) (.s (.one (.ls 0 (s20.2.set (((wI ((BitVec.ofInt 64 u21 &&& BitVec.ofInt 64 255).toNat : Int)).tmod (wI (1 + (wI ((BitVec.ofInt 64 a0 &&& BitVec.ofInt 64 7).toNat : Int))))).toNat) u26).length))) rfl (congrArg (fun n => AV.s (.one (.ls 0 n))) List.length_set.symm) ?_
          refine stell 71 (y := .s (.one (.ls 0 s20.2.length))) (.s (.one (.ls 0 (s20.2.set (((wI ((BitVec.ofInt 64 u21 &&& BitVec.ofInt 64 255).toNat : Int)).tmod (wI (1 + (wI ((BitVec.ofInt 64 a0 &&& BitVec.ofInt 64 7).toNat : Int))))).toNat) u26).length))) rfl (congrArg (fun n => AV.s (.one (.ls 0 n))) List.length_set.symm) ?_
          refine stell 75 (y := .s (.one (.ls 0 s20.2.length))) (.s (.one (.ls 0 (s20.2.set (((wI ((BitVec.ofInt 64 u21 &&& BitVec.ofInt 64 255).toNat : Int)).tmod (wI (1 + (wI ((BitVec.ofInt 64 a0 &&& BitVec.ofInt 64 7).toNat : Int))))).toNat) u26).length))) rfl (congrArg (fun n => AV.s (.one (.ls 0 n))) List.length_set.symm) ?_
          refine stell 77 (y := .s (.one (.ls 0 s20.2.length))) (.s (.one (.ls 0 (s20.2.set (((wI ((BitVec.ofInt 64 u21 &&& BitVec.ofInt 64 255).toNat : Int)).tmod (wI (1 + (wI ((BitVec.ofInt 64 a0 &&& BitVec.ofInt 64 7).toNat : Int))))).toNat) u26).length))) rfl (congrArg (fun n => AV.s (.one (.ls 0 n))) List.length_set.symm) ?_
          refine snil ?_
          refine cregion ?_
          refine sv rfl (opv_mv rfl) ?_
          refine sv rfl (opv_mv rfl) ?_
          refine sv rfl (opv_mv rfl) ?_
          obtain ⟨u28, hu28, h⟩ := bind_eq h
          refine sv rfl (opv_ixo (f := eI) si77 (fun _ => rfl) rfl rfl rfl rfl rfl hu28) ?_
          refine sseto (f := eI) (u' := u25) (sz := 1) 0 sz3 (fun _ => rfl) rfl rfl rfl rfl rfl rfl rfl (List.all_eq_true.1 rfl) (idx_eq hu28).2 (Nat.le_of_ble_eq_true rfl) rfl ?_
          refine stell 7 (y := .s (.one (.ls 0 (s20.2.set (((wI ((BitVec.ofInt 64 u21 &&& BitVec.ofInt 64 255).toNat : Int)).tmod (wI (1 + (wI ((BitVec.ofInt 64 a0 &&& BitVec.ofInt 64 7).toNat : Int))))).toNat) u26).length))) (.s (.one (.ls 0 ((s20.2.set (((wI ((BitVec.ofInt 64 u21 &&& BitVec.ofInt 64 255).toNat : Int)).tmod (wI (1 + (wI ((BitVec.ofInt 64 a0 &&& BitVec.ofInt 64 7).toNat : Int))))).toNat) u26).set (((wI ((BitVec.ofInt 64 (u23.fdiv (2 ^ (min ((8#64).toNat : Int).toNat 64))) &&& BitVec.ofInt 64 255).toNat : Int)).tmod (wI (1 + (wI ((BitVec.ofInt 64 a0 &&& BitVec.ofInt 64 7).toNat : Int))))).toNat) u25).length))) rfl (congrArg (fun n => AV.s (.one (.ls 0 n))) List.length_set.symm) ?_
          refine stell 71 (y := .s (.one (.ls 0 (s20.2.set (((wI ((BitVec.ofInt 64 u21 &&& BitVec.ofInt 64 255).toNat : Int)).tmod (wI (1 + (wI ((BitVec.ofInt 64 a0 &&& BitVec.ofInt 64 7).toNat : Int))))).toNat) u26).length))) (.s (.one (.ls 0 ((s20.2.set (((wI ((BitVec.ofInt 64 u21 &&& BitVec.ofInt 64 255).toNat : Int)).tmod (wI (1 + (wI ((BitVec.ofInt 64 a0 &&& BitVec.ofInt 64 7).toNat : Int))))).toNat) u26).set (((wI ((BitVec.ofInt 64 (u23.fdiv (2 ^ (min ((8#64).toNat : Int).toNat 64))) &&& BitVec.ofInt 64 255).toNat : Int)).tmod (wI (1 + (wI ((BitVec.ofInt 64 a0 &&& BitVec.ofInt 64 7).toNat : Int))))).toNat) u25).length))) rfl (congrArg (fun n => AV.s (.one (.ls 0 n))) List.length_set.symm) ?_
          refine stell 75 (y := .s (.one (.ls 0 (s20.2.set (((wI ((BitVec.ofInt 64 u21 &&& BitVec.ofInt 64 255).toNat : Int)).tmod (wI (1 + (wI ((BitVec.ofInt 64 a0 &&& BitVec.ofInt 64 7).toNat : Int))))).toNat) u26).length))) (.s (.one (.ls 0 ((s20.2.set (((wI ((BitVec.ofInt 64 u21 &&& BitVec.ofInt 64 255).toNat : Int)).tmod (wI (1 + (wI ((BitVec.ofInt 64 a0 &&& BitVec.ofInt 64 7).toNat : Int))))).toNat) u26).set (((wI ((BitVec.ofInt 64 (u23.fdiv (2 ^ (min ((8#64).toNat : Int).toNat 64))) &&& BitVec.ofInt 64 255).toNat : Int)).tmod (wI (1 + (wI ((BitVec.ofInt 64 a0 &&& BitVec.ofInt 64 7).toNat : Int))))).toNat) u25).length))) rfl (congrArg (fun n => AV.s (.one (.ls 0 n))) List.length_set.symm) ?_
          refine stell 77 (y := .s (.one (.ls 0 (s20.2.set (((wI ((BitVec.ofInt 64 u21 &&& BitVec.ofInt 64 255).toNat : Int)).tmod (wI (1 + (wI ((BitVec.ofInt 64 a0 &&& BitVec.ofInt 64 7).toNat : Int))))).toNat) u26).length))) (.s (.one (.ls 0 ((s20.2.set (((wI ((BitVec.ofInt 64 u21 &&& BitVec.ofInt 64 255).toNat : Int)).tmod (wI (1 + (wI ((BitVec.ofInt 64 a0 &&& BitVec.ofInt 64 7).toNat : Int))))).toNat) u26).set (((wI ((BitVec.ofInt 64 (u23.fdiv (2 ^ (min ((8#64).toNat : Int).toNat 64))) &&& BitVec.ofInt 64 255).toNat : Int)).tmod (wI (1 + (wI ((BitVec.ofInt 64 a0 &&& BitVec.ofInt 64 7).toNat : Int))))).toNat) u25).length))) rfl (congrArg (fun n => AV.s (.one (.ls 0 n))) List.length_set.symm) ?_
          refine stell 82 (y := .s (.one (.ls 0 (s20.2.set (((wI ((BitVec.ofInt 64 u21 &&& BitVec.ofInt 64 255).toNat : Int)).tmod (wI (1 + (wI ((BitVec.ofInt 64 a0 &&& BitVec.ofInt 64 7).toNat : Int))))).toNat) u26).length))) (.s (.one (.ls 0 ((s20.2.set (((wI ((BitVec.ofInt 64 u21 &&& BitVec.ofInt 64 255).toNat : Int)).tmod (wI (1 + (wI ((BitVec.ofInt 64 a0 &&& BitVec.ofInt 64 7).toNat : Int))))).toNat) u26).set (((wI ((BitVec.ofInt 64 (u23.fdiv (2 ^ (min ((8#64).toNat : Int).toNat 64))) &&& BitVec.ofInt 64 255).toNat : Int)).tmod (wI (1 + (wI ((BitVec.ofInt 64 a0 &&& BitVec.ofInt 64 7).toNat : Int))))).toNat) u25).length))) rfl (congrArg (fun n => AV.s (.one (.ls 0 n))) List.length_set.symm) ?_
          refine snil0 ?_
          refine block_normal ?_
          refine then_normal ?_
          refine cregion ?_
          refine sv rfl (opv_mv rfl) ?_
          refine sv rfl (opv_add rfl rfl) ?_
          refine sv rfl (opv_as rfl) ?_
          refine snil ?_
          obtain rfl := Option.some.inj h
          exact ⟨(n20, ((wI (s20.1 + 1)), ((s20.2.set (((wI ((BitVec.ofInt 64 u21 &&& BitVec.ofInt 64 255).toNat : Int)).tmod (wI (1 + (wI ((BitVec.ofInt 64 a0 &&& BitVec.ofInt 64 7).toNat : Int))))).toNat) u26).set (((wI ((BitVec.ofInt 64 (u23.fdiv (2 ^ (min ((8#64).toNat : Int).toNat 64))) &&& BitVec.ofInt 64 255).toNat : Int)).tmod (wI (1 + (wI ((BitVec.ofInt 64 a0 &&& BitVec.ofInt 64 7).toNat : Int))))).toNat) u25))), _, hk20, ⟨rfl, rfl, rfl, rfl, rfl, trivial⟩, rfl, Nat.lt_succ_self _⟩
        · replace h := ite_f hc h
          clear hc
          refine cexit ?_
          refine then_exit ?_
          refine then_exit ?_
          refine block_hit ?_
          refine then_normal ?_
          obtain rfl := Option.some.inj h
          obtain rfl : _ = x20 := hk20
          exact ⟨s20.2, _, ho20, ⟨rfl, rfl, rfl, trivial⟩, rfl⟩
    · skip
      refine cblock ?_
      obtain ⟨x30, hx30, ho30⟩ := bind_eq h
      refine awc_loop (G := Nat × (Int × (List Int))) (fun g => [(1, .s (.one (.sl a1.length (a1.flatMap eI)))), (5, .s (.one (.b v1))), (6, .s (.one (.i .i64 (wI (1 + (wI ((BitVec.ofInt 64 a0 &&& BitVec.ofInt 64 7).toNat : Int))))))), (7, .s (.one (.ls 0 g.2.2.length))), (8, .s (.one (.i .i64 g.2.1)))]) (fun g => [.arr 3 1 0 (g.2.2.flatMap eI)]) (fun g => iterB (m5_l16_PipeOrder_s30 a0) g.1 g.2 = some x30) (fun g => g.1) (fuel, (0, (List.replicate (wI (1 + (wI ((BitVec.ofInt 64 a0 &&& BitVec.ofInt 64 7).toNat : Int)))).toNat 0))) hx30 ⟨rfl, rfl, rfl, rfl, rfl, trivial⟩ [] rfl (fun _ _ => inbL_of rfl) (fun _ _ => blkinb_of rfl) (fun _ _ => Nat.le_of_ble_eq_true rfl) ?_
      clear hx30 h
      rintro ⟨n30, s30⟩ h
      obtain ⟨n30, y30, rfl, h, hk30⟩ := iterB_eq h
      unfold m5_l16_PipeOrder_s30 at h
      refine cseq ?_
      refine cseq ?_
      refine cregion ?_
      refine sv rfl (opv_mv rfl) ?_
      refine sv rfl (opv_mv rfl) ?_
      refine sv rfl (opv_lss rfl rfl) ?_
      refine snil ?_
      refine ccond rfl (fun hc => ?_) (fun hc => ?_)
      · replace h := ite_t hc h
        clear hc
        refine cskip ?_
        refine then_normal ?_
        refine cseq ?_
        refine cblock ?_
        refine cregion ?_
        refine sv rfl (opv_mv rfl) ?_
        refine sv rfl (opv_mv rfl) ?_
        refine sv rfl (opv_mv rfl) ?_
        obtain ⟨u31, hu31, h⟩ := bind_eq h
        refine sv rfl (opv_ixo (f := eI) si77 (fun _ => rfl) rfl rfl rfl rfl rfl hu31) ?_
        refine sseto (f := eI) (u' := s30.1) (sz := 1) 0 sz3 (fun _ => rfl) rfl rfl rfl rfl rfl rfl rfl (List.all_eq_true.1 rfl) (idx_eq hu31).2 (Nat.le_of_ble_eq_true rfl) rfl ?_
        refine stell 7 (y := .s (.one (.ls 0 s30.2.length))) (.s (.one (.ls 0 (s30.2.set s30.1.toNat s30.1).length))) rfl (congrArg (fun n => AV.s (.one (.ls 0 n))) List.length_set.symm) ?_
        refine stell 46 (y := .s (.one (.ls 0 s30.2.length))) (.s (.one (.ls 0 (s30.2.set s30.1.toNat s30.1).length))) rfl (congrArg (fun n => AV.s (.one (.ls 0 n))) List.length_set.symm) ?_
        refine snil0 ?_
        refine block_normal ?_
        refine then_normal ?_
        refine cregion ?_
        refine sv rfl (opv_mv rfl) ?_
        refine sv rfl (opv_add rfl rfl) ?_
        refine sv rfl (opv_as rfl) ?_
        refine snil ?_
        obtain rfl := Option.some.inj h
        exact ⟨(n30, ((wI (s30.1 + 1)), (s30.2.set s30.1.toNat s30.1))), _, hk30, ⟨rfl, rfl, rfl, rfl, rfl, trivial⟩, rfl, Nat.lt_succ_self _⟩
      · replace h := ite_f hc h
        clear hc
        refine cexit ?_
        refine then_exit ?_
        refine then_exit ?_
        refine block_hit ?_
        refine then_normal ?_
        obtain rfl := Option.some.inj h
        obtain rfl : _ = x30 := hk30
        exact ⟨s30.2, _, ho30, ⟨rfl, rfl, rfl, rfl, trivial⟩, rfl⟩


end Go.Proofs.YtlpanhfojeaamaaDoor.Abs
