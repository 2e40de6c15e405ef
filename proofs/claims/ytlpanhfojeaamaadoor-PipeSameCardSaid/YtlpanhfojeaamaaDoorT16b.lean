/-
  t
-/
import Derived.Test.YtlpanhfojeaamaaDoorT16a
namespace Go.Proofs.YtlpanhfojeaamaaDoor.Abs
open Go.RowKit Go.Proofs
def m16_pipe_Answer (a0 : GPipePipe) (a1 : GMsgReply) : Option (GPipePipe × GMsgReply × Int) :=
  (m27_pipe_Sane (GPipePipe.mk (GSeqsWindow.mk a0.Win.Base a0.Win.Bits) a0.Next a0.Wait a0.Past)).bind fun v1 => if (!v1) then (some ((GPipePipe.mk (GSeqsWindow.mk 0 (0#64)) 0 ([] : List GMsgReq) ([] : List GMsgReply)), (GMsgReply.mk 0 0 0 0 false ([] : List UInt8) ([] : List GApiKV)), 1)) else ((m19_pipe_Ready (GPipePipe.mk (GSeqsWindow.mk a0.Win.Base a0.Win.Bits) a0.Next a0.Wait a0.Past)).bind fun v2 => if (!v2.2) then (some ((GPipePipe.mk (GSeqsWindow.mk 0 (0#64)) 0 ([] : List GMsgReq) ([] : List GMsgReply)), (GMsgReply.mk 0 0 0 0 false ([] : List UInt8) ([] : List GApiKV)), 7)) else ((m38_msg_SaneReply (GMsgReply.mk v2.1.Kind v2.1.Seq a1.Code a1.N a1.Found a1.Val a1.List)).bind fun v3 => if (!v3) then (some ((GPipePipe.mk (GSeqsWindow.mk 0 (0#64)) 0 ([] : List GMsgReq) ([] : List GMsgReply)), (GMsgReply.mk 0 0 0 0 false ([] : List UInt8) ([] : List GApiKV)), 1)) else ((cut a0.Wait 1 (a0.Wait.length : Int)).bind fun c4 => (m39_slices_Clone c4).bind fun v5 => (m40_pipe_passed a0.Past (GMsgReply.mk v2.1.Kind v2.1.Seq a1.Code a1.N a1.Found a1.Val a1.List)).bind fun v6 => some ((GPipePipe.mk (GSeqsWindow.mk a0.Win.Base a0.Win.Bits) (wI (a0.Next + 1)) v5 v6), (GMsgReply.mk v2.1.Kind v2.1.Seq a1.Code a1.N a1.Found a1.Val a1.List), 0))))

set_option maxRecDepth 100000 in
theorem m16_pipe_Answer_c {a0 : GPipePipe} {a1 : GMsgReply} {r : GPipePipe × GMsgReply × Int} (h : m16_pipe_Answer a0 a1 = some r) : CallsA Tryd.prog 16 [.agg [.i .i64 a0.Win.Base, .i .u64 (a0.Win.Bits.toNat : Int), .i .i64 a0.Next, .sl a0.Wait.length (a0.Wait.flatMap eGMsgReq), .sl a0.Past.length (a0.Past.flatMap eGMsgReply)], .agg [.i .i64 a1.Kind, .i .i64 a1.Seq, .i .i64 a1.Code, .i .i64 a1.N, .b a1.Found, .sl a1.Val.length (a1.Val.flatMap eU8), .sl a1.List.length (a1.List.flatMap eGApiKV)]] (· = .tup [.agg [.i .i64 r.1.Win.Base, .i .u64 (r.1.Win.Bits.toNat : Int), .i .i64 r.1.Next, .sl r.1.Wait.length (r.1.Wait.flatMap eGMsgReq), .sl r.1.Past.length (r.1.Past.flatMap eGMsgReply)], .agg [.i .i64 r.2.1.Kind, .i .i64 r.2.1.Seq, .i .i64 r.2.1.Code, .i .i64 r.2.1.N, .b r.2.1.Found, .sl r.2.1.Val.length (r.2.1.Val.flatMap eU8), .sl r.2.1.List.length (r.2.1.List.flatMap eGApiKV)], .one (.i .i64 r.2.2)]) := by
  unfold m16_pipe_Answer at h
  refine callsA_of Tryd.func16 rfl (nt := 51) rfl (Nat.le_of_ble_eq_true rfl) ?_
  intro w0 S0
  refine cseq ?_
  refine cregion ?_
  refine sbox rfl rfl ?_
  refine sbox rfl rfl ?_
  refine salloc rfl zi46 ?_
  refine salloc rfl zi48 ?_
  refine sv rfl (opv_as rfl) ?_
  refine snil ?_
  refine cseq ?_
  refine cseq ?_
  refine cregion ?_
  refine sv rfl (opv_loadN ti46 rfl (.lp _ _ _ rfl) (Nat.le_of_ble_eq_true rfl)) ?_
  obtain ⟨v1, hv1, h⟩ := bind_eq h
  refine scall1 rfl fn27 (opnds_cons rfl opnds_nil) (pubA_id rfl) (m27_pipe_Sane_c hv1) ?_
  refine sv rfl (opv_not rfl) ?_
  refine snil ?_
  refine ccond rfl (fun hc => ?_) (fun hc => ?_)
  · replace h := ite_t hc h
    clear hc
    refine cseq ?_
    refine cregion ?_
    refine sv rfl (opv_build zi46 pi46 parts_nil (.nil _)) ?_
    refine sv rfl (opv_build zi48 pi48 parts_nil (.nil _)) ?_
    refine sstore sz46 rfl rfl rfl rfl (Nat.le_of_ble_eq_true rfl) ?_
    refine smem [.box [.i .i64 a0.Win.Base, .i .u64 (a0.Win.Bits.toNat : Int), .i .i64 a0.Next, .sl a0.Wait.length (a0.Wait.flatMap eGMsgReq), .sl a0.Past.length (a0.Past.flatMap eGMsgReply)], .box [.i .i64 a1.Kind, .i .i64 a1.Seq, .i .i64 a1.Code, .i .i64 a1.N, .b a1.Found, .sl a1.Val.length (a1.Val.flatMap eU8), .sl a1.List.length (a1.List.flatMap eGApiKV)], .box [.i .i64 0, .i .u64 ((0#64).toNat : Int), .i .i64 0, .raw (.slice none 0 0), .raw (.slice none 0 0)], .box [.i .i64 0, .i .i64 0, .i .i64 0, .i .i64 0, .b false, .raw (.slice none 0 0), .raw (.slice none 0 0)]] rfl ?_
    refine sstore sz48 rfl rfl rfl rfl (Nat.le_of_ble_eq_true rfl) ?_
    refine smem [.box [.i .i64 a0.Win.Base, .i .u64 (a0.Win.Bits.toNat : Int), .i .i64 a0.Next, .sl a0.Wait.length (a0.Wait.flatMap eGMsgReq), .sl a0.Past.length (a0.Past.flatMap eGMsgReply)], .box [.i .i64 a1.Kind, .i .i64 a1.Seq, .i .i64 a1.Code, .i .i64 a1.N, .b a1.Found, .sl a1.Val.length (a1.Val.flatMap eU8), .sl a1.List.length (a1.List.flatMap eGApiKV)], .box [.i .i64 0, .i .u64 ((0#64).toNat : Int), .i .i64 0, .raw (.slice none 0 0), .raw (.slice none 0 0)], .box [.i .i64 0, .i .i64 0, .i .i64 0, .i .i64 0, .b false, .raw (.slice none 0 0), .raw (.slice none 0 0)]] rfl ?_
    refine sv rfl (opv_as rfl) ?_
    refine snil ?_
    refine cret ?_
    refine then_ret ?_
    obtain rfl := Option.some.inj h
    refine ⟨Or.inr rfl, _, _, _, (resVs_cons (ResV.agg _ _ _ _ _ ti46 rfl (.lp _ _ _ rfl) (Nat.le_of_ble_eq_true rfl)) (resVs_cons (ResV.agg _ _ _ _ _ ti48 rfl (.lp _ _ _ rfl) (Nat.le_of_ble_eq_true rfl)) (resVs_cons (ResV.tmp _ _ rfl) resVs_nil))), (pubC rfl), ?_⟩
    rfl
  · replace h := ite_f hc h
    clear hc
    refine cskip ?_
    refine then_normal ?_
    refine cseq ?_
    refine cregion ?_
    refine sv rfl (opv_loadN ti46 rfl (.lp _ _ _ rfl) (Nat.le_of_ble_eq_true rfl)) ?_
    obtain ⟨v2, hv2, h⟩ := bind_eq h
    refine scall1 rfl fn19 (opnds_cons rfl opnds_nil) (pubA_id rfl) (m19_pipe_Ready_c hv2) ?_
    refine sv rfl (opv_mvt rfl) ?_
    refine sv rfl (opv_extract rfl rfl) ?_
    refine sv rfl (opv_extract rfl rfl) ?_
    refine salloc rfl zi51 ?_
    refine sstore sz51 rfl rfl rfl rfl (Nat.le_of_ble_eq_true rfl) ?_
    refine smem [.box [.i .i64 a0.Win.Base, .i .u64 (a0.Win.Bits.toNat : Int), .i .i64 a0.Next, .sl a0.Wait.length (a0.Wait.flatMap eGMsgReq), .sl a0.Past.length (a0.Past.flatMap eGMsgReply)], .box [.i .i64 a1.Kind, .i .i64 a1.Seq, .i .i64 a1.Code, .i .i64 a1.N, .b a1.Found, .sl a1.Val.length (a1.Val.flatMap eU8), .sl a1.List.length (a1.List.flatMap eGApiKV)], .box [.i .i64 0, .i .u64 ((0#64).toNat : Int), .i .i64 0, .raw (.slice none 0 0), .raw (.slice none 0 0)], .box [.i .i64 0, .i .i64 0, .i .i64 0, .i .i64 0, .b false, .raw (.slice none 0 0), .raw (.slice none 0 0)], .box [.i .i64 v2.1.Kind, .i .i64 v2.1.Seq, .i .i64 v2.1.Token, .i .i64 v2.1.Attempt, .b v2.1.RO, .sl v2.1.Key.length (v2.1.Key.flatMap eU8), .sl v2.1.Val.length (v2.1.Val.flatMap eU8), .sl v2.1.Rng.Lo.length (v2.1.Rng.Lo.flatMap eU8), .sl v2.1.Rng.Hi.length (v2.1.Rng.Hi.flatMap eU8), .b v2.1.Rng.Open]] rfl ?_
    refine sv rfl (opv_as rfl) ?_
    refine snil ?_
    refine cseq ?_
    refine cseq ?_
    refine cregion ?_
    refine sv rfl (opv_mv rfl) ?_
    refine sv rfl (opv_not rfl) ?_
    refine snil ?_
    refine ccond rfl (fun hc => ?_) (fun hc => ?_)
    · replace h := ite_t hc h
      clear hc
      refine cseq ?_
      refine cregion ?_
      refine sv rfl (opv_build zi46 pi46 parts_nil (.nil _)) ?_
      refine sv rfl (opv_build zi48 pi48 parts_nil (.nil _)) ?_
      refine sstore sz46 rfl rfl rfl rfl (Nat.le_of_ble_eq_true rfl) ?_
      refine smem [.box [.i .i64 a0.Win.Base, .i .u64 (a0.Win.Bits.toNat : Int), .i .i64 a0.Next, .sl a0.Wait.length (a0.Wait.flatMap eGMsgReq), .sl a0.Past.length (a0.Past.flatMap eGMsgReply)], .box [.i .i64 a1.Kind, .i .i64 a1.Seq, .i .i64 a1.Code, .i .i64 a1.N, .b a1.Found, .sl a1.Val.length (a1.Val.flatMap eU8), .sl a1.List.length (a1.List.flatMap eGApiKV)], .box [.i .i64 0, .i .u64 ((0#64).toNat : Int), .i .i64 0, .raw (.slice none 0 0), .raw (.slice none 0 0)], .box [.i .i64 0, .i .i64 0, .i .i64 0, .i .i64 0, .b false, .raw (.slice none 0 0), .raw (.slice none 0 0)], .box [.i .i64 v2.1.Kind, .i .i64 v2.1.Seq, .i .i64 v2.1.Token, .i .i64 v2.1.Attempt, .b v2.1.RO, .sl v2.1.Key.length (v2.1.Key.flatMap eU8), .sl v2.1.Val.length (v2.1.Val.flatMap eU8), .sl v2.1.Rng.Lo.length (v2.1.Rng.Lo.flatMap eU8), .sl v2.1.Rng.Hi.length (v2.1.Rng.Hi.flatMap eU8), .b v2.1.Rng.Open]] rfl ?_
      refine sstore sz48 rfl rfl rfl rfl (Nat.le_of_ble_eq_true rfl) ?_
      refine smem [.box [.i .i64 a0.Win.Base, .i .u64 (a0.Win.Bits.toNat : Int), .i .i64 a0.Next, .sl a0.Wait.length (a0.Wait.flatMap eGMsgReq), .sl a0.Past.length (a0.Past.flatMap eGMsgReply)], .box [.i .i64 a1.Kind, .i .i64 a1.Seq, .i .i64 a1.Code, .i .i64 a1.N, .b a1.Found, .sl a1.Val.length (a1.Val.flatMap eU8), .sl a1.List.length (a1.List.flatMap eGApiKV)], .box [.i .i64 0, .i .u64 ((0#64).toNat : Int), .i .i64 0, .raw (.slice none 0 0), .raw (.slice none 0 0)], .box [.i .i64 0, .i .i64 0, .i .i64 0, .i .i64 0, .b false, .raw (.slice none 0 0), .raw (.slice none 0 0)], .box [.i .i64 v2.1.Kind, .i .i64 v2.1.Seq, .i .i64 v2.1.Token, .i .i64 v2.1.Attempt, .b v2.1.RO, .sl v2.1.Key.length (v2.1.Key.flatMap eU8), .sl v2.1.Val.length (v2.1.Val.flatMap eU8), .sl v2.1.Rng.Lo.length (v2.1.Rng.Lo.flatMap eU8), .sl v2.1.Rng.Hi.length (v2.1.Rng.Hi.flatMap eU8), .b v2.1.Rng.Open]] rfl ?_
      refine sv rfl (opv_as rfl) ?_
      refine snil ?_
      refine cret ?_
      refine then_ret ?_
      obtain rfl := Option.some.inj h
      refine ⟨Or.inr rfl, _, _, _, (resVs_cons (ResV.agg _ _ _ _ _ ti46 rfl (.lp _ _ _ rfl) (Nat.le_of_ble_eq_true rfl)) (resVs_cons (ResV.agg _ _ _ _ _ ti48 rfl (.lp _ _ _ rfl) (Nat.le_of_ble_eq_true rfl)) (resVs_cons (ResV.tmp _ _ rfl) resVs_nil))), (pubC rfl), ?_⟩
      rfl
    · replace h := ite_f hc h
      clear hc
      refine cskip ?_
      refine then_normal ?_
      refine cseq ?_
      refine cdraw_e [5, 7] [0, 1, 0, 4, 3, 19, 63, 127] [[.box [.i .i64 a0.Win.Base, .i .u64 (a0.Win.Bits.toNat : Int), .i .i64 a0.Next, .sl a0.Wait.length (a0.Wait.flatMap eGMsgReq), .sl a0.Past.length (a0.Past.flatMap eGMsgReply)], .box [.i .i64 a1.Kind, .i .i64 a1.Seq, .i .i64 a1.Code, .i .i64 a1.N, .b a1.Found, .sl a1.Val.length (a1.Val.flatMap eU8), .sl a1.List.length (a1.List.flatMap eGApiKV)], .box [.i .i64 0, .i .u64 ((0#64).toNat : Int), .i .i64 0, .raw (.slice none 0 0), .raw (.slice none 0 0)], .box [.i .i64 0, .i .i64 0, .i .i64 0, .i .i64 0, .b false, .raw (.slice none 0 0), .raw (.slice none 0 0)], .box [.i .i64 v2.1.Kind, .i .i64 v2.1.Seq, .i .i64 v2.1.Token, .i .i64 v2.1.Attempt, .b v2.1.RO, .sl v2.1.Key.length (v2.1.Key.flatMap eU8), .sl v2.1.Val.length (v2.1.Val.flatMap eU8), .sl v2.1.Rng.Lo.length (v2.1.Rng.Lo.flatMap eU8), .sl v2.1.Rng.Hi.length (v2.1.Rng.Hi.flatMap eU8), .b v2.1.Rng.Open]], [.box [.i .i64 a0.Win.Base, .i .u64 (a0.Win.Bits.toNat : Int), .i .i64 a0.Next, .sl a0.Wait.length (a0.Wait.flatMap eGMsgReq), .sl a0.Past.length (a0.Past.flatMap eGMsgReply)], .box [.i .i64 v2.1.Kind, .i .i64 a1.Seq, .i .i64 a1.Code, .i .i64 a1.N, .b a1.Found, .sl a1.Val.length (a1.Val.flatMap eU8), .sl a1.List.length (a1.List.flatMap eGApiKV)], .box [.i .i64 0, .i .u64 ((0#64).toNat : Int), .i .i64 0, .raw (.slice none 0 0), .raw (.slice none 0 0)], .box [.i .i64 0, .i .i64 0, .i .i64 0, .i .i64 0, .b false, .raw (.slice none 0 0), .raw (.slice none 0 0)], .box [.i .i64 v2.1.Kind, .i .i64 v2.1.Seq, .i .i64 v2.1.Token, .i .i64 v2.1.Attempt, .b v2.1.RO, .sl v2.1.Key.length (v2.1.Key.flatMap eU8), .sl v2.1.Val.length (v2.1.Val.flatMap eU8), .sl v2.1.Rng.Lo.length (v2.1.Rng.Lo.flatMap eU8), .sl v2.1.Rng.Hi.length (v2.1.Rng.Hi.flatMap eU8), .b v2.1.Rng.Open]], [.box [.i .i64 a0.Win.Base, .i .u64 (a0.Win.Bits.toNat : Int), .i .i64 a0.Next, .sl a0.Wait.length (a0.Wait.flatMap eGMsgReq), .sl a0.Past.length (a0.Past.flatMap eGMsgReply)], .box [.i .i64 v2.1.Kind, .i .i64 v2.1.Seq, .i .i64 a1.Code, .i .i64 a1.N, .b a1.Found, .sl a1.Val.length (a1.Val.flatMap eU8), .sl a1.List.length (a1.List.flatMap eGApiKV)], .box [.i .i64 0, .i .u64 ((0#64).toNat : Int), .i .i64 0, .raw (.slice none 0 0), .raw (.slice none 0 0)], .box [.i .i64 0, .i .i64 0, .i .i64 0, .i .i64 0, .b false, .raw (.slice none 0 0), .raw (.slice none 0 0)], .box [.i .i64 v2.1.Kind, .i .i64 v2.1.Seq, .i .i64 v2.1.Token, .i .i64 v2.1.Attempt, .b v2.1.RO, .sl v2.1.Key.length (v2.1.Key.flatMap eU8), .sl v2.1.Val.length (v2.1.Val.flatMap eU8), .sl v2.1.Rng.Lo.length (v2.1.Rng.Lo.flatMap eU8), .sl v2.1.Rng.Hi.length (v2.1.Rng.Hi.flatMap eU8), .b v2.1.Rng.Open]]] (by kernel_rfl) mixed (by kernel_rfl) (by decide) rfl rfl rfl rfl ?_
      refine ev (sees_at 0 rfl rfl) rfl rfl (opv_fieldAddr_lp fi51_0 rfl) ?_
      refine ev (sees_at 0 rfl rfl) rfl rfl (opv_load1 ti3 rfl (.lp _ _ _ rfl) rfl) ?_
      refine ev (sees_all (md := [.box [.i .i64 a0.Win.Base, .i .u64 (a0.Win.Bits.toNat : Int), .i .i64 a0.Next, .sl a0.Wait.length (a0.Wait.flatMap eGMsgReq), .sl a0.Past.length (a0.Past.flatMap eGMsgReply)], .dead, .box [.i .i64 0, .i .u64 ((0#64).toNat : Int), .i .i64 0, .raw (.slice none 0 0), .raw (.slice none 0 0)], .box [.i .i64 0, .i .i64 0, .i .i64 0, .i .i64 0, .b false, .raw (.slice none 0 0), .raw (.slice none 0 0)], .box [.i .i64 v2.1.Kind, .i .i64 v2.1.Seq, .i .i64 v2.1.Token, .i .i64 v2.1.Attempt, .b v2.1.RO, .sl v2.1.Key.length (v2.1.Key.flatMap eU8), .sl v2.1.Val.length (v2.1.Val.flatMap eU8), .sl v2.1.Rng.Lo.length (v2.1.Rng.Lo.flatMap eU8), .sl v2.1.Rng.Hi.length (v2.1.Rng.Hi.flatMap eU8), .b v2.1.Rng.Open]]) ⟨⟨rfl, ⟨trivial, ⟨rfl, ⟨rfl, ⟨rfl, trivial⟩⟩⟩⟩⟩, ⟨⟨rfl, ⟨trivial, ⟨rfl, ⟨rfl, ⟨rfl, trivial⟩⟩⟩⟩⟩, ⟨⟨rfl, ⟨trivial, ⟨rfl, ⟨rfl, ⟨rfl, trivial⟩⟩⟩⟩⟩, trivial⟩⟩⟩) rfl rfl (opv_fieldAddr_lp fi51_1 rfl) ?_
      refine ev (sees_all (md := [.box [.i .i64 a0.Win.Base, .i .u64 (a0.Win.Bits.toNat : Int), .i .i64 a0.Next, .sl a0.Wait.length (a0.Wait.flatMap eGMsgReq), .sl a0.Past.length (a0.Past.flatMap eGMsgReply)], .dead, .box [.i .i64 0, .i .u64 ((0#64).toNat : Int), .i .i64 0, .raw (.slice none 0 0), .raw (.slice none 0 0)], .box [.i .i64 0, .i .i64 0, .i .i64 0, .i .i64 0, .b false, .raw (.slice none 0 0), .raw (.slice none 0 0)], .box [.i .i64 v2.1.Kind, .i .i64 v2.1.Seq, .i .i64 v2.1.Token, .i .i64 v2.1.Attempt, .b v2.1.RO, .sl v2.1.Key.length (v2.1.Key.flatMap eU8), .sl v2.1.Val.length (v2.1.Val.flatMap eU8), .sl v2.1.Rng.Lo.length (v2.1.Rng.Lo.flatMap eU8), .sl v2.1.Rng.Hi.length (v2.1.Rng.Hi.flatMap eU8), .b v2.1.Rng.Open]]) ⟨⟨rfl, ⟨trivial, ⟨rfl, ⟨rfl, ⟨rfl, trivial⟩⟩⟩⟩⟩, ⟨⟨rfl, ⟨trivial, ⟨rfl, ⟨rfl, ⟨rfl, trivial⟩⟩⟩⟩⟩, ⟨⟨rfl, ⟨trivial, ⟨rfl, ⟨rfl, ⟨rfl, trivial⟩⟩⟩⟩⟩, trivial⟩⟩⟩) rfl rfl (opv_load1 ti3 rfl (.lp _ _ _ rfl) rfl) ?_
      refine ev (sees_at 0 rfl rfl) rfl rfl (opv_fieldAddr_lp fi48_0 rfl) ?_
      refine ee0 0 rfl rfl rfl rfl (fun ζ => ?_) ?_
      · refine sstore sz3 rfl rfl rfl rfl (Nat.le_of_ble_eq_true rfl) ?_
        refine smem [.box [.i .i64 a0.Win.Base, .i .u64 (a0.Win.Bits.toNat : Int), .i .i64 a0.Next, .sl a0.Wait.length (a0.Wait.flatMap eGMsgReq), .sl a0.Past.length (a0.Past.flatMap eGMsgReply)], .box [.i .i64 v2.1.Kind, .i .i64 a1.Seq, .i .i64 a1.Code, .i .i64 a1.N, .b a1.Found, .sl a1.Val.length (a1.Val.flatMap eU8), .sl a1.List.length (a1.List.flatMap eGApiKV)], .box [.i .i64 0, .i .u64 ((0#64).toNat : Int), .i .i64 0, .raw (.slice none 0 0), .raw (.slice none 0 0)], .box [.i .i64 0, .i .i64 0, .i .i64 0, .i .i64 0, .b false, .raw (.slice none 0 0), .raw (.slice none 0 0)], .box [.i .i64 v2.1.Kind, .i .i64 v2.1.Seq, .i .i64 v2.1.Token, .i .i64 v2.1.Attempt, .b v2.1.RO, .sl v2.1.Key.length (v2.1.Key.flatMap eU8), .sl v2.1.Val.length (v2.1.Val.flatMap eU8), .sl v2.1.Rng.Lo.length (v2.1.Rng.Lo.flatMap eU8), .sl v2.1.Rng.Hi.length (v2.1.Rng.Hi.flatMap eU8), .b v2.1.Rng.Open]] rfl ?_
        exact eend
      refine ev (sees_at 1 rfl rfl) rfl rfl (opv_fieldAddr_lp fi48_1 rfl) ?_
      refine ee0 1 rfl rfl rfl rfl (fun ζ => ?_) ?_
      · refine sstore sz3 rfl rfl rfl rfl (Nat.le_of_ble_eq_true rfl) ?_
        refine smem [.box [.i .i64 a0.Win.Base, .i .u64 (a0.Win.Bits.toNat : Int), .i .i64 a0.Next, .sl a0.Wait.length (a0.Wait.flatMap eGMsgReq), .sl a0.Past.length (a0.Past.flatMap eGMsgReply)], .box [.i .i64 v2.1.Kind, .i .i64 v2.1.Seq, .i .i64 a1.Code, .i .i64 a1.N, .b a1.Found, .sl a1.Val.length (a1.Val.flatMap eU8), .sl a1.List.length (a1.List.flatMap eGApiKV)], .box [.i .i64 0, .i .u64 ((0#64).toNat : Int), .i .i64 0, .raw (.slice none 0 0), .raw (.slice none 0 0)], .box [.i .i64 0, .i .i64 0, .i .i64 0, .i .i64 0, .b false, .raw (.slice none 0 0), .raw (.slice none 0 0)], .box [.i .i64 v2.1.Kind, .i .i64 v2.1.Seq, .i .i64 v2.1.Token, .i .i64 v2.1.Attempt, .b v2.1.RO, .sl v2.1.Key.length (v2.1.Key.flatMap eU8), .sl v2.1.Val.length (v2.1.Val.flatMap eU8), .sl v2.1.Rng.Lo.length (v2.1.Rng.Lo.flatMap eU8), .sl v2.1.Rng.Hi.length (v2.1.Rng.Hi.flatMap eU8), .b v2.1.Rng.Open]] rfl ?_
        exact eend
      refine enil ?_
      refine then_normal ?_
      refine cseq ?_
      refine cseq ?_
      refine cregion ?_
      refine sv rfl (opv_loadN ti48 rfl (.lp _ _ _ rfl) (Nat.le_of_ble_eq_true rfl)) ?_
      obtain ⟨v3, hv3, h⟩ := bind_eq h
      refine scall1 rfl fn38 (opnds_cons rfl opnds_nil) (pubA_id rfl) (m38_msg_SaneReply_c hv3) ?_
      refine sv rfl (opv_not rfl) ?_
      refine snil ?_
      refine ccond rfl (fun hc => ?_) (fun hc => ?_)
      · replace h := ite_t hc h
        clear hc
        refine cseq ?_
        refine cregion ?_
        refine sv rfl (opv_build zi46 pi46 parts_nil (.nil _)) ?_
        refine sv rfl (opv_build zi48 pi48 parts_nil (.nil _)) ?_
        refine sstore sz46 rfl rfl rfl rfl (Nat.le_of_ble_eq_true rfl) ?_
        refine smem [.box [.i .i64 a0.Win.Base, .i .u64 (a0.Win.Bits.toNat : Int), .i .i64 a0.Next, .sl a0.Wait.length (a0.Wait.flatMap eGMsgReq), .sl a0.Past.length (a0.Past.flatMap eGMsgReply)], .box [.i .i64 v2.1.Kind, .i .i64 v2.1.Seq, .i .i64 a1.Code, .i .i64 a1.N, .b a1.Found, .sl a1.Val.length (a1.Val.flatMap eU8), .sl a1.List.length (a1.List.flatMap eGApiKV)], .box [.i .i64 0, .i .u64 ((0#64).toNat : Int), .i .i64 0, .raw (.slice none 0 0), .raw (.slice none 0 0)], .box [.i .i64 0, .i .i64 0, .i .i64 0, .i .i64 0, .b false, .raw (.slice none 0 0), .raw (.slice none 0 0)], .box [.i .i64 v2.1.Kind, .i .i64 v2.1.Seq, .i .i64 v2.1.Token, .i .i64 v2.1.Attempt, .b v2.1.RO, .sl v2.1.Key.length (v2.1.Key.flatMap eU8), .sl v2.1.Val.length (v2.1.Val.flatMap eU8), .sl v2.1.Rng.Lo.length (v2.1.Rng.Lo.flatMap eU8), .sl v2.1.Rng.Hi.length (v2.1.Rng.Hi.flatMap eU8), .b v2.1.Rng.Open]] rfl ?_
        refine sstore sz48 rfl rfl rfl rfl (Nat.le_of_ble_eq_true rfl) ?_
        refine smem [.box [.i .i64 a0.Win.Base, .i .u64 (a0.Win.Bits.toNat : Int), .i .i64 a0.Next, .sl a0.Wait.length (a0.Wait.flatMap eGMsgReq), .sl a0.Past.length (a0.Past.flatMap eGMsgReply)], .box [.i .i64 v2.1.Kind, .i .i64 v2.1.Seq, .i .i64 a1.Code, .i .i64 a1.N, .b a1.Found, .sl a1.Val.length (a1.Val.flatMap eU8), .sl a1.List.length (a1.List.flatMap eGApiKV)], .box [.i .i64 0, .i .u64 ((0#64).toNat : Int), .i .i64 0, .raw (.slice none 0 0), .raw (.slice none 0 0)], .box [.i .i64 0, .i .i64 0, .i .i64 0, .i .i64 0, .b false, .raw (.slice none 0 0), .raw (.slice none 0 0)], .box [.i .i64 v2.1.Kind, .i .i64 v2.1.Seq, .i .i64 v2.1.Token, .i .i64 v2.1.Attempt, .b v2.1.RO, .sl v2.1.Key.length (v2.1.Key.flatMap eU8), .sl v2.1.Val.length (v2.1.Val.flatMap eU8), .sl v2.1.Rng.Lo.length (v2.1.Rng.Lo.flatMap eU8), .sl v2.1.Rng.Hi.length (v2.1.Rng.Hi.flatMap eU8), .b v2.1.Rng.Open]] rfl ?_
        refine sv rfl (opv_as rfl) ?_
        refine snil ?_
        refine cret ?_
        refine then_ret ?_
        obtain rfl := Option.some.inj h
        refine ⟨Or.inr rfl, _, _, _, (resVs_cons (ResV.agg _ _ _ _ _ ti46 rfl (.lp _ _ _ rfl) (Nat.le_of_ble_eq_true rfl)) (resVs_cons (ResV.agg _ _ _ _ _ ti48 rfl (.lp _ _ _ rfl) (Nat.le_of_ble_eq_true rfl)) (resVs_cons (ResV.tmp _ _ rfl) resVs_nil))), (pubC rfl), ?_⟩
        rfl
      · replace h := ite_f hc h
        clear hc
        refine cskip ?_
        refine then_normal ?_
        refine cseq ?_
        refine chole ?_
        obtain ⟨c4, hc4, h⟩ := bind_eq h
        obtain ⟨v5, hv5, h⟩ := bind_eq h
        obtain ⟨v6, hv6, h⟩ := bind_eq h
        refine cdraw_e [14, 15] [0, 1, 0, 4, 12, 0, 32, 96, 224, 0, 512, 0, 4064, 8191, 0, 32767] [[.box [.i .i64 a0.Win.Base, .i .u64 (a0.Win.Bits.toNat : Int), .i .i64 a0.Next, .sl a0.Wait.length (a0.Wait.flatMap eGMsgReq), .sl a0.Past.length (a0.Past.flatMap eGMsgReply)], .box [.i .i64 v2.1.Kind, .i .i64 v2.1.Seq, .i .i64 a1.Code, .i .i64 a1.N, .b a1.Found, .sl a1.Val.length (a1.Val.flatMap eU8), .sl a1.List.length (a1.List.flatMap eGApiKV)], .box [.i .i64 0, .i .u64 ((0#64).toNat : Int), .i .i64 0, .raw (.slice none 0 0), .raw (.slice none 0 0)], .box [.i .i64 0, .i .i64 0, .i .i64 0, .i .i64 0, .b false, .raw (.slice none 0 0), .raw (.slice none 0 0)], .box [.i .i64 v2.1.Kind, .i .i64 v2.1.Seq, .i .i64 v2.1.Token, .i .i64 v2.1.Attempt, .b v2.1.RO, .sl v2.1.Key.length (v2.1.Key.flatMap eU8), .sl v2.1.Val.length (v2.1.Val.flatMap eU8), .sl v2.1.Rng.Lo.length (v2.1.Rng.Lo.flatMap eU8), .sl v2.1.Rng.Hi.length (v2.1.Rng.Hi.flatMap eU8), .b v2.1.Rng.Open], .hole], [.box [.i .i64 a0.Win.Base, .i .u64 (a0.Win.Bits.toNat : Int), .i .i64 a0.Next, .sl a0.Wait.length (a0.Wait.flatMap eGMsgReq), .sl a0.Past.length (a0.Past.flatMap eGMsgReply)], .box [.i .i64 v2.1.Kind, .i .i64 v2.1.Seq, .i .i64 a1.Code, .i .i64 a1.N, .b a1.Found, .sl a1.Val.length (a1.Val.flatMap eU8), .sl a1.List.length (a1.List.flatMap eGApiKV)], .box [.i .i64 0, .i .u64 ((0#64).toNat : Int), .i .i64 0, .raw (.slice none 0 0), .raw (.slice none 0 0)], .box [.i .i64 0, .i .i64 0, .i .i64 0, .i .i64 0, .b false, .raw (.slice none 0 0), .raw (.slice none 0 0)], .box [.i .i64 v2.1.Kind, .i .i64 v2.1.Seq, .i .i64 v2.1.Token, .i .i64 v2.1.Attempt, .b v2.1.RO, .sl v2.1.Key.length (v2.1.Key.flatMap eU8), .sl v2.1.Val.length (v2.1.Val.flatMap eU8), .sl v2.1.Rng.Lo.length (v2.1.Rng.Lo.flatMap eU8), .sl v2.1.Rng.Hi.length (v2.1.Rng.Hi.flatMap eU8), .b v2.1.Rng.Open], .box [.i .i64 0, .i .u64 ((0#64).toNat : Int), .i .i64 0, .raw (.slice none 0 0), .raw (.slice none 0 0)]], [.box [.i .i64 a0.Win.Base, .i .u64 (a0.Win.Bits.toNat : Int), .i .i64 a0.Next, .sl a0.Wait.length (a0.Wait.flatMap eGMsgReq), .sl a0.Past.length (a0.Past.flatMap eGMsgReply)], .box [.i .i64 v2.1.Kind, .i .i64 v2.1.Seq, .i .i64 a1.Code, .i .i64 a1.N, .b a1.Found, .sl a1.Val.length (a1.Val.flatMap eU8), .sl a1.List.length (a1.List.flatMap eGApiKV)], .box [.i .i64 0, .i .u64 ((0#64).toNat : Int), .i .i64 0, .raw (.slice none 0 0), .raw (.slice none 0 0)], .box [.i .i64 0, .i .i64 0, .i .i64 0, .i .i64 0, .b false, .raw (.slice none 0 0), .raw (.slice none 0 0)], .box [.i .i64 v2.1.Kind, .i .i64 v2.1.Seq, .i .i64 v2.1.Token, .i .i64 v2.1.Attempt, .b v2.1.RO, .sl v2.1.Key.length (v2.1.Key.flatMap eU8), .sl v2.1.Val.length (v2.1.Val.flatMap eU8), .sl v2.1.Rng.Lo.length (v2.1.Rng.Lo.flatMap eU8), .sl v2.1.Rng.Hi.length (v2.1.Rng.Hi.flatMap eU8), .b v2.1.Rng.Open], .box [.i .i64 a0.Win.Base, .i .u64 (a0.Win.Bits.toNat : Int), .i .i64 (wI (a0.Next + 1)), .sl v5.length (v5.flatMap eGMsgReq), .sl v6.length (v6.flatMap eGMsgReply)]]] (by kernel_rfl) mixed (by kernel_rfl) (by decide) rfl rfl rfl rfl ?_
        refine ev (sees_all (md := [.box [.i .i64 a0.Win.Base, .i .u64 (a0.Win.Bits.toNat : Int), .i .i64 a0.Next, .sl a0.Wait.length (a0.Wait.flatMap eGMsgReq), .sl a0.Past.length (a0.Past.flatMap eGMsgReply)], .box [.i .i64 v2.1.Kind, .i .i64 v2.1.Seq, .i .i64 a1.Code, .i .i64 a1.N, .b a1.Found, .sl a1.Val.length (a1.Val.flatMap eU8), .sl a1.List.length (a1.List.flatMap eGApiKV)], .box [.i .i64 0, .i .u64 ((0#64).toNat : Int), .i .i64 0, .raw (.slice none 0 0), .raw (.slice none 0 0)], .box [.i .i64 0, .i .i64 0, .i .i64 0, .i .i64 0, .b false, .raw (.slice none 0 0), .raw (.slice none 0 0)], .box [.i .i64 v2.1.Kind, .i .i64 v2.1.Seq, .i .i64 v2.1.Token, .i .i64 v2.1.Attempt, .b v2.1.RO, .sl v2.1.Key.length (v2.1.Key.flatMap eU8), .sl v2.1.Val.length (v2.1.Val.flatMap eU8), .sl v2.1.Rng.Lo.length (v2.1.Rng.Lo.flatMap eU8), .sl v2.1.Rng.Hi.length (v2.1.Rng.Hi.flatMap eU8), .b v2.1.Rng.Open], .dead]) ⟨⟨rfl, ⟨rfl, ⟨rfl, ⟨rfl, ⟨rfl, ⟨trivial, trivial⟩⟩⟩⟩⟩⟩, ⟨⟨rfl, ⟨rfl, ⟨rfl, ⟨rfl, ⟨rfl, ⟨trivial, trivial⟩⟩⟩⟩⟩⟩, ⟨⟨rfl, ⟨rfl, ⟨rfl, ⟨rfl, ⟨rfl, ⟨trivial, trivial⟩⟩⟩⟩⟩⟩, trivial⟩⟩⟩) rfl rfl (opv_fieldAddr_lp fi46_0 rfl) ?_
        refine ev (sees_all (md := [.box [.i .i64 a0.Win.Base, .i .u64 (a0.Win.Bits.toNat : Int), .i .i64 a0.Next, .sl a0.Wait.length (a0.Wait.flatMap eGMsgReq), .sl a0.Past.length (a0.Past.flatMap eGMsgReply)], .box [.i .i64 v2.1.Kind, .i .i64 v2.1.Seq, .i .i64 a1.Code, .i .i64 a1.N, .b a1.Found, .sl a1.Val.length (a1.Val.flatMap eU8), .sl a1.List.length (a1.List.flatMap eGApiKV)], .box [.i .i64 0, .i .u64 ((0#64).toNat : Int), .i .i64 0, .raw (.slice none 0 0), .raw (.slice none 0 0)], .box [.i .i64 0, .i .i64 0, .i .i64 0, .i .i64 0, .b false, .raw (.slice none 0 0), .raw (.slice none 0 0)], .box [.i .i64 v2.1.Kind, .i .i64 v2.1.Seq, .i .i64 v2.1.Token, .i .i64 v2.1.Attempt, .b v2.1.RO, .sl v2.1.Key.length (v2.1.Key.flatMap eU8), .sl v2.1.Val.length (v2.1.Val.flatMap eU8), .sl v2.1.Rng.Lo.length (v2.1.Rng.Lo.flatMap eU8), .sl v2.1.Rng.Hi.length (v2.1.Rng.Hi.flatMap eU8), .b v2.1.Rng.Open], .dead]) ⟨⟨rfl, ⟨rfl, ⟨rfl, ⟨rfl, ⟨rfl, ⟨trivial, trivial⟩⟩⟩⟩⟩⟩, ⟨⟨rfl, ⟨rfl, ⟨rfl, ⟨rfl, ⟨rfl, ⟨trivial, trivial⟩⟩⟩⟩⟩⟩, ⟨⟨rfl, ⟨rfl, ⟨rfl, ⟨rfl, ⟨rfl, ⟨trivial, trivial⟩⟩⟩⟩⟩⟩, trivial⟩⟩⟩) rfl rfl (opv_loadN ti42 rfl (.lp _ _ _ rfl) (Nat.le_of_ble_eq_true rfl)) ?_
        refine ev (sees_all (md := [.box [.i .i64 a0.Win.Base, .i .u64 (a0.Win.Bits.toNat : Int), .i .i64 a0.Next, .sl a0.Wait.length (a0.Wait.flatMap eGMsgReq), .sl a0.Past.length (a0.Past.flatMap eGMsgReply)], .box [.i .i64 v2.1.Kind, .i .i64 v2.1.Seq, .i .i64 a1.Code, .i .i64 a1.N, .b a1.Found, .sl a1.Val.length (a1.Val.flatMap eU8), .sl a1.List.length (a1.List.flatMap eGApiKV)], .box [.i .i64 0, .i .u64 ((0#64).toNat : Int), .i .i64 0, .raw (.slice none 0 0), .raw (.slice none 0 0)], .box [.i .i64 0, .i .i64 0, .i .i64 0, .i .i64 0, .b false, .raw (.slice none 0 0), .raw (.slice none 0 0)], .box [.i .i64 v2.1.Kind, .i .i64 v2.1.Seq, .i .i64 v2.1.Token, .i .i64 v2.1.Attempt, .b v2.1.RO, .sl v2.1.Key.length (v2.1.Key.flatMap eU8), .sl v2.1.Val.length (v2.1.Val.flatMap eU8), .sl v2.1.Rng.Lo.length (v2.1.Rng.Lo.flatMap eU8), .sl v2.1.Rng.Hi.length (v2.1.Rng.Hi.flatMap eU8), .b v2.1.Rng.Open], .dead]) ⟨⟨rfl, ⟨rfl, ⟨rfl, ⟨rfl, ⟨rfl, ⟨trivial, trivial⟩⟩⟩⟩⟩⟩, ⟨⟨rfl, ⟨rfl, ⟨rfl, ⟨rfl, ⟨rfl, ⟨trivial, trivial⟩⟩⟩⟩⟩⟩, ⟨⟨rfl, ⟨rfl, ⟨rfl, ⟨rfl, ⟨rfl, ⟨trivial, trivial⟩⟩⟩⟩⟩⟩, trivial⟩⟩⟩) rfl rfl (opv_fieldAddr_lp fi46_1 rfl) ?_
        refine ev (sees_all (md := [.box [.i .i64 a0.Win.Base, .i .u64 (a0.Win.Bits.toNat : Int), .i .i64 a0.Next, .sl a0.Wait.length (a0.Wait.flatMap eGMsgReq), .sl a0.Past.length (a0.Past.flatMap eGMsgReply)], .box [.i .i64 v2.1.Kind, .i .i64 v2.1.Seq, .i .i64 a1.Code, .i .i64 a1.N, .b a1.Found, .sl a1.Val.length (a1.Val.flatMap eU8), .sl a1.List.length (a1.List.flatMap eGApiKV)], .box [.i .i64 0, .i .u64 ((0#64).toNat : Int), .i .i64 0, .raw (.slice none 0 0), .raw (.slice none 0 0)], .box [.i .i64 0, .i .i64 0, .i .i64 0, .i .i64 0, .b false, .raw (.slice none 0 0), .raw (.slice none 0 0)], .box [.i .i64 v2.1.Kind, .i .i64 v2.1.Seq, .i .i64 v2.1.Token, .i .i64 v2.1.Attempt, .b v2.1.RO, .sl v2.1.Key.length (v2.1.Key.flatMap eU8), .sl v2.1.Val.length (v2.1.Val.flatMap eU8), .sl v2.1.Rng.Lo.length (v2.1.Rng.Lo.flatMap eU8), .sl v2.1.Rng.Hi.length (v2.1.Rng.Hi.flatMap eU8), .b v2.1.Rng.Open], .dead]) ⟨⟨rfl, ⟨rfl, ⟨rfl, ⟨rfl, ⟨rfl, ⟨trivial, trivial⟩⟩⟩⟩⟩⟩, ⟨⟨rfl, ⟨rfl, ⟨rfl, ⟨rfl, ⟨rfl, ⟨trivial, trivial⟩⟩⟩⟩⟩⟩, ⟨⟨rfl, ⟨rfl, ⟨rfl, ⟨rfl, ⟨rfl, ⟨trivial, trivial⟩⟩⟩⟩⟩⟩, trivial⟩⟩⟩) rfl rfl (opv_load1 ti3 rfl (.lp _ _ _ rfl) rfl) ?_
        refine ev (sees_all (md := [.box [.i .i64 a0.Win.Base, .i .u64 (a0.Win.Bits.toNat : Int), .i .i64 a0.Next, .sl a0.Wait.length (a0.Wait.flatMap eGMsgReq), .sl a0.Past.length (a0.Past.flatMap eGMsgReply)], .box [.i .i64 v2.1.Kind, .i .i64 v2.1.Seq, .i .i64 a1.Code, .i .i64 a1.N, .b a1.Found, .sl a1.Val.length (a1.Val.flatMap eU8), .sl a1.List.length (a1.List.flatMap eGApiKV)], .box [.i .i64 0, .i .u64 ((0#64).toNat : Int), .i .i64 0, .raw (.slice none 0 0), .raw (.slice none 0 0)], .box [.i .i64 0, .i .i64 0, .i .i64 0, .i .i64 0, .b false, .raw (.slice none 0 0), .raw (.slice none 0 0)], .box [.i .i64 v2.1.Kind, .i .i64 v2.1.Seq, .i .i64 v2.1.Token, .i .i64 v2.1.Attempt, .b v2.1.RO, .sl v2.1.Key.length (v2.1.Key.flatMap eU8), .sl v2.1.Val.length (v2.1.Val.flatMap eU8), .sl v2.1.Rng.Lo.length (v2.1.Rng.Lo.flatMap eU8), .sl v2.1.Rng.Hi.length (v2.1.Rng.Hi.flatMap eU8), .b v2.1.Rng.Open], .dead]) ⟨⟨rfl, ⟨rfl, ⟨rfl, ⟨rfl, ⟨rfl, ⟨trivial, trivial⟩⟩⟩⟩⟩⟩, ⟨⟨rfl, ⟨rfl, ⟨rfl, ⟨rfl, ⟨rfl, ⟨trivial, trivial⟩⟩⟩⟩⟩⟩, ⟨⟨rfl, ⟨rfl, ⟨rfl, ⟨rfl, ⟨rfl, ⟨trivial, trivial⟩⟩⟩⟩⟩⟩, trivial⟩⟩⟩) rfl rfl (opv_add rfl rfl) ?_
        refine ev (sees_all (md := [.box [.i .i64 a0.Win.Base, .i .u64 (a0.Win.Bits.toNat : Int), .i .i64 a0.Next, .sl a0.Wait.length (a0.Wait.flatMap eGMsgReq), .sl a0.Past.length (a0.Past.flatMap eGMsgReply)], .box [.i .i64 v2.1.Kind, .i .i64 v2.1.Seq, .i .i64 a1.Code, .i .i64 a1.N, .b a1.Found, .sl a1.Val.length (a1.Val.flatMap eU8), .sl a1.List.length (a1.List.flatMap eGApiKV)], .box [.i .i64 0, .i .u64 ((0#64).toNat : Int), .i .i64 0, .raw (.slice none 0 0), .raw (.slice none 0 0)], .box [.i .i64 0, .i .i64 0, .i .i64 0, .i .i64 0, .b false, .raw (.slice none 0 0), .raw (.slice none 0 0)], .box [.i .i64 v2.1.Kind, .i .i64 v2.1.Seq, .i .i64 v2.1.Token, .i .i64 v2.1.Attempt, .b v2.1.RO, .sl v2.1.Key.length (v2.1.Key.flatMap eU8), .sl v2.1.Val.length (v2.1.Val.flatMap eU8), .sl v2.1.Rng.Lo.length (v2.1.Rng.Lo.flatMap eU8), .sl v2.1.Rng.Hi.length (v2.1.Rng.Hi.flatMap eU8), .b v2.1.Rng.Open], .dead]) ⟨⟨rfl, ⟨rfl, ⟨rfl, ⟨rfl, ⟨rfl, ⟨trivial, trivial⟩⟩⟩⟩⟩⟩, ⟨⟨rfl, ⟨rfl, ⟨rfl, ⟨rfl, ⟨rfl, ⟨trivial, trivial⟩⟩⟩⟩⟩⟩, ⟨⟨rfl, ⟨rfl, ⟨rfl, ⟨rfl, ⟨rfl, ⟨trivial, trivial⟩⟩⟩⟩⟩⟩, trivial⟩⟩⟩) rfl rfl (opv_fieldAddr_lp fi46_2 rfl) ?_
        refine ev (sees_all (md := [.box [.i .i64 a0.Win.Base, .i .u64 (a0.Win.Bits.toNat : Int), .i .i64 a0.Next, .sl a0.Wait.length (a0.Wait.flatMap eGMsgReq), .sl a0.Past.length (a0.Past.flatMap eGMsgReply)], .box [.i .i64 v2.1.Kind, .i .i64 v2.1.Seq, .i .i64 a1.Code, .i .i64 a1.N, .b a1.Found, .sl a1.Val.length (a1.Val.flatMap eU8), .sl a1.List.length (a1.List.flatMap eGApiKV)], .box [.i .i64 0, .i .u64 ((0#64).toNat : Int), .i .i64 0, .raw (.slice none 0 0), .raw (.slice none 0 0)], .box [.i .i64 0, .i .i64 0, .i .i64 0, .i .i64 0, .b false, .raw (.slice none 0 0), .raw (.slice none 0 0)], .box [.i .i64 v2.1.Kind, .i .i64 v2.1.Seq, .i .i64 v2.1.Token, .i .i64 v2.1.Attempt, .b v2.1.RO, .sl v2.1.Key.length (v2.1.Key.flatMap eU8), .sl v2.1.Val.length (v2.1.Val.flatMap eU8), .sl v2.1.Rng.Lo.length (v2.1.Rng.Lo.flatMap eU8), .sl v2.1.Rng.Hi.length (v2.1.Rng.Hi.flatMap eU8), .b v2.1.Rng.Open], .dead]) ⟨⟨rfl, ⟨rfl, ⟨rfl, ⟨rfl, ⟨rfl, ⟨trivial, trivial⟩⟩⟩⟩⟩⟩, ⟨⟨rfl, ⟨rfl, ⟨rfl, ⟨rfl, ⟨rfl, ⟨trivial, trivial⟩⟩⟩⟩⟩⟩, ⟨⟨rfl, ⟨rfl, ⟨rfl, ⟨rfl, ⟨rfl, ⟨trivial, trivial⟩⟩⟩⟩⟩⟩, trivial⟩⟩⟩) rfl rfl (opv_load1 ti43 rfl (.lp _ _ _ rfl) rfl) ?_
        refine ev (sees_all (md := [.box [.i .i64 a0.Win.Base, .i .u64 (a0.Win.Bits.toNat : Int), .i .i64 a0.Next, .sl a0.Wait.length (a0.Wait.flatMap eGMsgReq), .sl a0.Past.length (a0.Past.flatMap eGMsgReply)], .box [.i .i64 v2.1.Kind, .i .i64 v2.1.Seq, .i .i64 a1.Code, .i .i64 a1.N, .b a1.Found, .sl a1.Val.length (a1.Val.flatMap eU8), .sl a1.List.length (a1.List.flatMap eGApiKV)], .box [.i .i64 0, .i .u64 ((0#64).toNat : Int), .i .i64 0, .raw (.slice none 0 0), .raw (.slice none 0 0)], .box [.i .i64 0, .i .i64 0, .i .i64 0, .i .i64 0, .b false, .raw (.slice none 0 0), .raw (.slice none 0 0)], .box [.i .i64 v2.1.Kind, .i .i64 v2.1.Seq, .i .i64 v2.1.Token, .i .i64 v2.1.Attempt, .b v2.1.RO, .sl v2.1.Key.length (v2.1.Key.flatMap eU8), .sl v2.1.Val.length (v2.1.Val.flatMap eU8), .sl v2.1.Rng.Lo.length (v2.1.Rng.Lo.flatMap eU8), .sl v2.1.Rng.Hi.length (v2.1.Rng.Hi.flatMap eU8), .b v2.1.Rng.Open], .dead]) ⟨⟨rfl, ⟨rfl, ⟨rfl, ⟨rfl, ⟨rfl, ⟨trivial, trivial⟩⟩⟩⟩⟩⟩, ⟨⟨rfl, ⟨rfl, ⟨rfl, ⟨rfl, ⟨rfl, ⟨trivial, trivial⟩⟩⟩⟩⟩⟩, ⟨⟨rfl, ⟨rfl, ⟨rfl, ⟨rfl, ⟨rfl, ⟨trivial, trivial⟩⟩⟩⟩⟩⟩, trivial⟩⟩⟩) rfl rfl (opv_cut (f := eGMsgReq) (lo := 1) (hi := (a0.Wait.length : Int)) si43 (fun _ => rfl) rfl rfl rfl (bound_some rfl (cut_eq hc4).1.1) (by exact rfl) hc4) ?_
        refine ed (sees_all (md := [.box [.i .i64 a0.Win.Base, .i .u64 (a0.Win.Bits.toNat : Int), .i .i64 a0.Next, .sl a0.Wait.length (a0.Wait.flatMap eGMsgReq), .sl a0.Past.length (a0.Past.flatMap eGMsgReply)], .box [.i .i64 v2.1.Kind, .i .i64 v2.1.Seq, .i .i64 a1.Code, .i .i64 a1.N, .b a1.Found, .sl a1.Val.length (a1.Val.flatMap eU8), .sl a1.List.length (a1.List.flatMap eGApiKV)], .box [.i .i64 0, .i .u64 ((0#64).toNat : Int), .i .i64 0, .raw (.slice none 0 0), .raw (.slice none 0 0)], .box [.i .i64 0, .i .i64 0, .i .i64 0, .i .i64 0, .b false, .raw (.slice none 0 0), .raw (.slice none 0 0)], .box [.i .i64 v2.1.Kind, .i .i64 v2.1.Seq, .i .i64 v2.1.Token, .i .i64 v2.1.Attempt, .b v2.1.RO, .sl v2.1.Key.length (v2.1.Key.flatMap eU8), .sl v2.1.Val.length (v2.1.Val.flatMap eU8), .sl v2.1.Rng.Lo.length (v2.1.Rng.Lo.flatMap eU8), .sl v2.1.Rng.Hi.length (v2.1.Rng.Hi.flatMap eU8), .b v2.1.Rng.Open], .dead]) ⟨⟨rfl, ⟨rfl, ⟨rfl, ⟨rfl, ⟨rfl, ⟨trivial, trivial⟩⟩⟩⟩⟩⟩, ⟨⟨rfl, ⟨rfl, ⟨rfl, ⟨rfl, ⟨rfl, ⟨trivial, trivial⟩⟩⟩⟩⟩⟩, ⟨⟨rfl, ⟨rfl, ⟨rfl, ⟨rfl, ⟨rfl, ⟨trivial, trivial⟩⟩⟩⟩⟩⟩, trivial⟩⟩⟩) rfl rfl (opD_call fn39 (opnds_cons rfl opnds_nil) rfl (m39_slices_Clone_c hv5)) ?_
        refine ev (sees_all (md := [.box [.i .i64 a0.Win.Base, .i .u64 (a0.Win.Bits.toNat : Int), .i .i64 a0.Next, .sl a0.Wait.length (a0.Wait.flatMap eGMsgReq), .sl a0.Past.length (a0.Past.flatMap eGMsgReply)], .box [.i .i64 v2.1.Kind, .i .i64 v2.1.Seq, .i .i64 a1.Code, .i .i64 a1.N, .b a1.Found, .sl a1.Val.length (a1.Val.flatMap eU8), .sl a1.List.length (a1.List.flatMap eGApiKV)], .box [.i .i64 0, .i .u64 ((0#64).toNat : Int), .i .i64 0, .raw (.slice none 0 0), .raw (.slice none 0 0)], .box [.i .i64 0, .i .i64 0, .i .i64 0, .i .i64 0, .b false, .raw (.slice none 0 0), .raw (.slice none 0 0)], .box [.i .i64 v2.1.Kind, .i .i64 v2.1.Seq, .i .i64 v2.1.Token, .i .i64 v2.1.Attempt, .b v2.1.RO, .sl v2.1.Key.length (v2.1.Key.flatMap eU8), .sl v2.1.Val.length (v2.1.Val.flatMap eU8), .sl v2.1.Rng.Lo.length (v2.1.Rng.Lo.flatMap eU8), .sl v2.1.Rng.Hi.length (v2.1.Rng.Hi.flatMap eU8), .b v2.1.Rng.Open], .dead]) ⟨⟨rfl, ⟨rfl, ⟨rfl, ⟨rfl, ⟨rfl, ⟨trivial, trivial⟩⟩⟩⟩⟩⟩, ⟨⟨rfl, ⟨rfl, ⟨rfl, ⟨rfl, ⟨rfl, ⟨trivial, trivial⟩⟩⟩⟩⟩⟩, ⟨⟨rfl, ⟨rfl, ⟨rfl, ⟨rfl, ⟨rfl, ⟨trivial, trivial⟩⟩⟩⟩⟩⟩, trivial⟩⟩⟩) rfl rfl (opv_fieldAddr_lp fi46_3 rfl) ?_
        refine ev (sees_all (md := [.box [.i .i64 a0.Win.Base, .i .u64 (a0.Win.Bits.toNat : Int), .i .i64 a0.Next, .sl a0.Wait.length (a0.Wait.flatMap eGMsgReq), .sl a0.Past.length (a0.Past.flatMap eGMsgReply)], .box [.i .i64 v2.1.Kind, .i .i64 v2.1.Seq, .i .i64 a1.Code, .i .i64 a1.N, .b a1.Found, .sl a1.Val.length (a1.Val.flatMap eU8), .sl a1.List.length (a1.List.flatMap eGApiKV)], .box [.i .i64 0, .i .u64 ((0#64).toNat : Int), .i .i64 0, .raw (.slice none 0 0), .raw (.slice none 0 0)], .box [.i .i64 0, .i .i64 0, .i .i64 0, .i .i64 0, .b false, .raw (.slice none 0 0), .raw (.slice none 0 0)], .box [.i .i64 v2.1.Kind, .i .i64 v2.1.Seq, .i .i64 v2.1.Token, .i .i64 v2.1.Attempt, .b v2.1.RO, .sl v2.1.Key.length (v2.1.Key.flatMap eU8), .sl v2.1.Val.length (v2.1.Val.flatMap eU8), .sl v2.1.Rng.Lo.length (v2.1.Rng.Lo.flatMap eU8), .sl v2.1.Rng.Hi.length (v2.1.Rng.Hi.flatMap eU8), .b v2.1.Rng.Open], .dead]) ⟨⟨rfl, ⟨rfl, ⟨rfl, ⟨rfl, ⟨rfl, ⟨trivial, trivial⟩⟩⟩⟩⟩⟩, ⟨⟨rfl, ⟨rfl, ⟨rfl, ⟨rfl, ⟨rfl, ⟨trivial, trivial⟩⟩⟩⟩⟩⟩, ⟨⟨rfl, ⟨rfl, ⟨rfl, ⟨rfl, ⟨rfl, ⟨trivial, trivial⟩⟩⟩⟩⟩⟩, trivial⟩⟩⟩) rfl rfl (opv_load1 ti44 rfl (.lp _ _ _ rfl) rfl) ?_
        refine ev (sees_all (md := [.box [.i .i64 a0.Win.Base, .i .u64 (a0.Win.Bits.toNat : Int), .i .i64 a0.Next, .sl a0.Wait.length (a0.Wait.flatMap eGMsgReq), .sl a0.Past.length (a0.Past.flatMap eGMsgReply)], .box [.i .i64 v2.1.Kind, .i .i64 v2.1.Seq, .i .i64 a1.Code, .i .i64 a1.N, .b a1.Found, .sl a1.Val.length (a1.Val.flatMap eU8), .sl a1.List.length (a1.List.flatMap eGApiKV)], .box [.i .i64 0, .i .u64 ((0#64).toNat : Int), .i .i64 0, .raw (.slice none 0 0), .raw (.slice none 0 0)], .box [.i .i64 0, .i .i64 0, .i .i64 0, .i .i64 0, .b false, .raw (.slice none 0 0), .raw (.slice none 0 0)], .box [.i .i64 v2.1.Kind, .i .i64 v2.1.Seq, .i .i64 v2.1.Token, .i .i64 v2.1.Attempt, .b v2.1.RO, .sl v2.1.Key.length (v2.1.Key.flatMap eU8), .sl v2.1.Val.length (v2.1.Val.flatMap eU8), .sl v2.1.Rng.Lo.length (v2.1.Rng.Lo.flatMap eU8), .sl v2.1.Rng.Hi.length (v2.1.Rng.Hi.flatMap eU8), .b v2.1.Rng.Open], .dead]) ⟨⟨rfl, ⟨rfl, ⟨rfl, ⟨rfl, ⟨rfl, ⟨trivial, trivial⟩⟩⟩⟩⟩⟩, ⟨⟨rfl, ⟨rfl, ⟨rfl, ⟨rfl, ⟨rfl, ⟨trivial, trivial⟩⟩⟩⟩⟩⟩, ⟨⟨rfl, ⟨rfl, ⟨rfl, ⟨rfl, ⟨rfl, ⟨trivial, trivial⟩⟩⟩⟩⟩⟩, trivial⟩⟩⟩) rfl rfl (opv_loadN ti48 rfl (.lp _ _ _ rfl) (Nat.le_of_ble_eq_true rfl)) ?_
        refine ed (sees_all (md := [.box [.i .i64 a0.Win.Base, .i .u64 (a0.Win.Bits.toNat : Int), .i .i64 a0.Next, .sl a0.Wait.length (a0.Wait.flatMap eGMsgReq), .sl a0.Past.length (a0.Past.flatMap eGMsgReply)], .box [.i .i64 v2.1.Kind, .i .i64 v2.1.Seq, .i .i64 a1.Code, .i .i64 a1.N, .b a1.Found, .sl a1.Val.length (a1.Val.flatMap eU8), .sl a1.List.length (a1.List.flatMap eGApiKV)], .box [.i .i64 0, .i .u64 ((0#64).toNat : Int), .i .i64 0, .raw (.slice none 0 0), .raw (.slice none 0 0)], .box [.i .i64 0, .i .i64 0, .i .i64 0, .i .i64 0, .b false, .raw (.slice none 0 0), .raw (.slice none 0 0)], .box [.i .i64 v2.1.Kind, .i .i64 v2.1.Seq, .i .i64 v2.1.Token, .i .i64 v2.1.Attempt, .b v2.1.RO, .sl v2.1.Key.length (v2.1.Key.flatMap eU8), .sl v2.1.Val.length (v2.1.Val.flatMap eU8), .sl v2.1.Rng.Lo.length (v2.1.Rng.Lo.flatMap eU8), .sl v2.1.Rng.Hi.length (v2.1.Rng.Hi.flatMap eU8), .b v2.1.Rng.Open], .dead]) ⟨⟨rfl, ⟨rfl, ⟨rfl, ⟨rfl, ⟨rfl, ⟨trivial, trivial⟩⟩⟩⟩⟩⟩, ⟨⟨rfl, ⟨rfl, ⟨rfl, ⟨rfl, ⟨rfl, ⟨trivial, trivial⟩⟩⟩⟩⟩⟩, ⟨⟨rfl, ⟨rfl, ⟨rfl, ⟨rfl, ⟨rfl, ⟨trivial, trivial⟩⟩⟩⟩⟩⟩, trivial⟩⟩⟩) rfl rfl (opD_call fn40 (opnds_cons rfl (opnds_cons rfl opnds_nil)) rfl (m40_pipe_passed_c hv6)) ?_
        refine ev (sees_all (md := [.box [.i .i64 a0.Win.Base, .i .u64 (a0.Win.Bits.toNat : Int), .i .i64 a0.Next, .sl a0.Wait.length (a0.Wait.flatMap eGMsgReq), .sl a0.Past.length (a0.Past.flatMap eGMsgReply)], .box [.i .i64 v2.1.Kind, .i .i64 v2.1.Seq, .i .i64 a1.Code, .i .i64 a1.N, .b a1.Found, .sl a1.Val.length (a1.Val.flatMap eU8), .sl a1.List.length (a1.List.flatMap eGApiKV)], .box [.i .i64 0, .i .u64 ((0#64).toNat : Int), .i .i64 0, .raw (.slice none 0 0), .raw (.slice none 0 0)], .box [.i .i64 0, .i .i64 0, .i .i64 0, .i .i64 0, .b false, .raw (.slice none 0 0), .raw (.slice none 0 0)], .box [.i .i64 v2.1.Kind, .i .i64 v2.1.Seq, .i .i64 v2.1.Token, .i .i64 v2.1.Attempt, .b v2.1.RO, .sl v2.1.Key.length (v2.1.Key.flatMap eU8), .sl v2.1.Val.length (v2.1.Val.flatMap eU8), .sl v2.1.Rng.Lo.length (v2.1.Rng.Lo.flatMap eU8), .sl v2.1.Rng.Hi.length (v2.1.Rng.Hi.flatMap eU8), .b v2.1.Rng.Open], .dead]) ⟨⟨rfl, ⟨rfl, ⟨rfl, ⟨rfl, ⟨rfl, ⟨trivial, trivial⟩⟩⟩⟩⟩⟩, ⟨⟨rfl, ⟨rfl, ⟨rfl, ⟨rfl, ⟨rfl, ⟨trivial, trivial⟩⟩⟩⟩⟩⟩, ⟨⟨rfl, ⟨rfl, ⟨rfl, ⟨rfl, ⟨rfl, ⟨trivial, trivial⟩⟩⟩⟩⟩⟩, trivial⟩⟩⟩) rfl rfl (opv_build zi46 pi46 (parts_cons rfl (parts_cons rfl (parts_cons rfl (parts_cons rfl parts_nil)))) (.cons _ _ _ _ _ _ _ rfl rfl (Nat.le_of_ble_eq_true rfl) (.cons _ _ _ _ _ _ _ rfl rfl (Nat.le_of_ble_eq_true rfl) (.cons _ _ _ _ _ _ _ rfl rfl (Nat.le_of_ble_eq_true rfl) (.cons _ _ _ _ _ _ _ rfl rfl (Nat.le_of_ble_eq_true rfl) (.nil _)))))) ?_
        refine ee (x := .s (.one (.lp 5 0))) 0 rfl rfl rfl rfl rfl (fun ζ => ?_) ?_
        · refine salloc_at 5 rfl zi46 rfl ?_
          exact eend
        refine ee0 1 rfl rfl rfl rfl (fun ζ => ?_) ?_
        · refine sstore sz46 rfl rfl rfl rfl (Nat.le_of_ble_eq_true rfl) ?_
          refine smem [.box [.i .i64 a0.Win.Base, .i .u64 (a0.Win.Bits.toNat : Int), .i .i64 a0.Next, .sl a0.Wait.length (a0.Wait.flatMap eGMsgReq), .sl a0.Past.length (a0.Past.flatMap eGMsgReply)], .box [.i .i64 v2.1.Kind, .i .i64 v2.1.Seq, .i .i64 a1.Code, .i .i64 a1.N, .b a1.Found, .sl a1.Val.length (a1.Val.flatMap eU8), .sl a1.List.length (a1.List.flatMap eGApiKV)], .box [.i .i64 0, .i .u64 ((0#64).toNat : Int), .i .i64 0, .raw (.slice none 0 0), .raw (.slice none 0 0)], .box [.i .i64 0, .i .i64 0, .i .i64 0, .i .i64 0, .b false, .raw (.slice none 0 0), .raw (.slice none 0 0)], .box [.i .i64 v2.1.Kind, .i .i64 v2.1.Seq, .i .i64 v2.1.Token, .i .i64 v2.1.Attempt, .b v2.1.RO, .sl v2.1.Key.length (v2.1.Key.flatMap eU8), .sl v2.1.Val.length (v2.1.Val.flatMap eU8), .sl v2.1.Rng.Lo.length (v2.1.Rng.Lo.flatMap eU8), .sl v2.1.Rng.Hi.length (v2.1.Rng.Hi.flatMap eU8), .b v2.1.Rng.Open], .box [.i .i64 a0.Win.Base, .i .u64 (a0.Win.Bits.toNat : Int), .i .i64 (wI (a0.Next + 1)), .sl v5.length (v5.flatMap eGMsgReq), .sl v6.length (v6.flatMap eGMsgReply)]] rfl ?_
          exact eend
        refine enil ?_
        refine then_normal ?_
        refine cseq ?_
        refine cdraw_e [2, 3] [0, 0, 1, 7, 15] [[.box [.i .i64 a0.Win.Base, .i .u64 (a0.Win.Bits.toNat : Int), .i .i64 a0.Next, .sl a0.Wait.length (a0.Wait.flatMap eGMsgReq), .sl a0.Past.length (a0.Past.flatMap eGMsgReply)], .box [.i .i64 v2.1.Kind, .i .i64 v2.1.Seq, .i .i64 a1.Code, .i .i64 a1.N, .b a1.Found, .sl a1.Val.length (a1.Val.flatMap eU8), .sl a1.List.length (a1.List.flatMap eGApiKV)], .box [.i .i64 0, .i .u64 ((0#64).toNat : Int), .i .i64 0, .raw (.slice none 0 0), .raw (.slice none 0 0)], .box [.i .i64 0, .i .i64 0, .i .i64 0, .i .i64 0, .b false, .raw (.slice none 0 0), .raw (.slice none 0 0)], .box [.i .i64 v2.1.Kind, .i .i64 v2.1.Seq, .i .i64 v2.1.Token, .i .i64 v2.1.Attempt, .b v2.1.RO, .sl v2.1.Key.length (v2.1.Key.flatMap eU8), .sl v2.1.Val.length (v2.1.Val.flatMap eU8), .sl v2.1.Rng.Lo.length (v2.1.Rng.Lo.flatMap eU8), .sl v2.1.Rng.Hi.length (v2.1.Rng.Hi.flatMap eU8), .b v2.1.Rng.Open], .box [.i .i64 a0.Win.Base, .i .u64 (a0.Win.Bits.toNat : Int), .i .i64 (wI (a0.Next + 1)), .sl v5.length (v5.flatMap eGMsgReq), .sl v6.length (v6.flatMap eGMsgReply)]], [.box [.i .i64 a0.Win.Base, .i .u64 (a0.Win.Bits.toNat : Int), .i .i64 a0.Next, .sl a0.Wait.length (a0.Wait.flatMap eGMsgReq), .sl a0.Past.length (a0.Past.flatMap eGMsgReply)], .box [.i .i64 v2.1.Kind, .i .i64 v2.1.Seq, .i .i64 a1.Code, .i .i64 a1.N, .b a1.Found, .sl a1.Val.length (a1.Val.flatMap eU8), .sl a1.List.length (a1.List.flatMap eGApiKV)], .box [.i .i64 a0.Win.Base, .i .u64 (a0.Win.Bits.toNat : Int), .i .i64 (wI (a0.Next + 1)), .sl v5.length (v5.flatMap eGMsgReq), .sl v6.length (v6.flatMap eGMsgReply)], .box [.i .i64 0, .i .i64 0, .i .i64 0, .i .i64 0, .b false, .raw (.slice none 0 0), .raw (.slice none 0 0)], .box [.i .i64 v2.1.Kind, .i .i64 v2.1.Seq, .i .i64 v2.1.Token, .i .i64 v2.1.Attempt, .b v2.1.RO, .sl v2.1.Key.length (v2.1.Key.flatMap eU8), .sl v2.1.Val.length (v2.1.Val.flatMap eU8), .sl v2.1.Rng.Lo.length (v2.1.Rng.Lo.flatMap eU8), .sl v2.1.Rng.Hi.length (v2.1.Rng.Hi.flatMap eU8), .b v2.1.Rng.Open], .box [.i .i64 a0.Win.Base, .i .u64 (a0.Win.Bits.toNat : Int), .i .i64 (wI (a0.Next + 1)), .sl v5.length (v5.flatMap eGMsgReq), .sl v6.length (v6.flatMap eGMsgReply)]], [.box [.i .i64 a0.Win.Base, .i .u64 (a0.Win.Bits.toNat : Int), .i .i64 a0.Next, .sl a0.Wait.length (a0.Wait.flatMap eGMsgReq), .sl a0.Past.length (a0.Past.flatMap eGMsgReply)], .box [.i .i64 v2.1.Kind, .i .i64 v2.1.Seq, .i .i64 a1.Code, .i .i64 a1.N, .b a1.Found, .sl a1.Val.length (a1.Val.flatMap eU8), .sl a1.List.length (a1.List.flatMap eGApiKV)], .box [.i .i64 a0.Win.Base, .i .u64 (a0.Win.Bits.toNat : Int), .i .i64 (wI (a0.Next + 1)), .sl v5.length (v5.flatMap eGMsgReq), .sl v6.length (v6.flatMap eGMsgReply)], .box [.i .i64 v2.1.Kind, .i .i64 v2.1.Seq, .i .i64 a1.Code, .i .i64 a1.N, .b a1.Found, .sl a1.Val.length (a1.Val.flatMap eU8), .sl a1.List.length (a1.List.flatMap eGApiKV)], .box [.i .i64 v2.1.Kind, .i .i64 v2.1.Seq, .i .i64 v2.1.Token, .i .i64 v2.1.Attempt, .b v2.1.RO, .sl v2.1.Key.length (v2.1.Key.flatMap eU8), .sl v2.1.Val.length (v2.1.Val.flatMap eU8), .sl v2.1.Rng.Lo.length (v2.1.Rng.Lo.flatMap eU8), .sl v2.1.Rng.Hi.length (v2.1.Rng.Hi.flatMap eU8), .b v2.1.Rng.Open], .box [.i .i64 a0.Win.Base, .i .u64 (a0.Win.Bits.toNat : Int), .i .i64 (wI (a0.Next + 1)), .sl v5.length (v5.flatMap eGMsgReq), .sl v6.length (v6.flatMap eGMsgReply)]]] (by kernel_rfl) mixed (by kernel_rfl) (by decide) rfl rfl rfl rfl ?_
        refine ev (sees_at 0 rfl rfl) rfl rfl (opv_loadN ti46 rfl (.lp _ _ _ rfl) (Nat.le_of_ble_eq_true rfl)) ?_
        refine ev (sees_all (md := [.box [.i .i64 a0.Win.Base, .i .u64 (a0.Win.Bits.toNat : Int), .i .i64 a0.Next, .sl a0.Wait.length (a0.Wait.flatMap eGMsgReq), .sl a0.Past.length (a0.Past.flatMap eGMsgReply)], .box [.i .i64 v2.1.Kind, .i .i64 v2.1.Seq, .i .i64 a1.Code, .i .i64 a1.N, .b a1.Found, .sl a1.Val.length (a1.Val.flatMap eU8), .sl a1.List.length (a1.List.flatMap eGApiKV)], .dead, .dead, .box [.i .i64 v2.1.Kind, .i .i64 v2.1.Seq, .i .i64 v2.1.Token, .i .i64 v2.1.Attempt, .b v2.1.RO, .sl v2.1.Key.length (v2.1.Key.flatMap eU8), .sl v2.1.Val.length (v2.1.Val.flatMap eU8), .sl v2.1.Rng.Lo.length (v2.1.Rng.Lo.flatMap eU8), .sl v2.1.Rng.Hi.length (v2.1.Rng.Hi.flatMap eU8), .b v2.1.Rng.Open], .box [.i .i64 a0.Win.Base, .i .u64 (a0.Win.Bits.toNat : Int), .i .i64 (wI (a0.Next + 1)), .sl v5.length (v5.flatMap eGMsgReq), .sl v6.length (v6.flatMap eGMsgReply)]]) ⟨⟨rfl, ⟨rfl, ⟨trivial, ⟨trivial, ⟨rfl, ⟨rfl, trivial⟩⟩⟩⟩⟩⟩, ⟨⟨rfl, ⟨rfl, ⟨trivial, ⟨trivial, ⟨rfl, ⟨rfl, trivial⟩⟩⟩⟩⟩⟩, ⟨⟨rfl, ⟨rfl, ⟨trivial, ⟨trivial, ⟨rfl, ⟨rfl, trivial⟩⟩⟩⟩⟩⟩, trivial⟩⟩⟩) rfl rfl (opv_loadN ti48 rfl (.lp _ _ _ rfl) (Nat.le_of_ble_eq_true rfl)) ?_
        refine ee0 0 rfl rfl rfl rfl (fun ζ => ?_) ?_
        · refine sstore sz46 rfl rfl rfl rfl (Nat.le_of_ble_eq_true rfl) ?_
          refine smem [.box [.i .i64 a0.Win.Base, .i .u64 (a0.Win.Bits.toNat : Int), .i .i64 a0.Next, .sl a0.Wait.length (a0.Wait.flatMap eGMsgReq), .sl a0.Past.length (a0.Past.flatMap eGMsgReply)], .box [.i .i64 v2.1.Kind, .i .i64 v2.1.Seq, .i .i64 a1.Code, .i .i64 a1.N, .b a1.Found, .sl a1.Val.length (a1.Val.flatMap eU8), .sl a1.List.length (a1.List.flatMap eGApiKV)], .box [.i .i64 a0.Win.Base, .i .u64 (a0.Win.Bits.toNat : Int), .i .i64 (wI (a0.Next + 1)), .sl v5.length (v5.flatMap eGMsgReq), .sl v6.length (v6.flatMap eGMsgReply)], .box [.i .i64 0, .i .i64 0, .i .i64 0, .i .i64 0, .b false, .raw (.slice none 0 0), .raw (.slice none 0 0)], .box [.i .i64 v2.1.Kind, .i .i64 v2.1.Seq, .i .i64 v2.1.Token, .i .i64 v2.1.Attempt, .b v2.1.RO, .sl v2.1.Key.length (v2.1.Key.flatMap eU8), .sl v2.1.Val.length (v2.1.Val.flatMap eU8), .sl v2.1.Rng.Lo.length (v2.1.Rng.Lo.flatMap eU8), .sl v2.1.Rng.Hi.length (v2.1.Rng.Hi.flatMap eU8), .b v2.1.Rng.Open], .box [.i .i64 a0.Win.Base, .i .u64 (a0.Win.Bits.toNat : Int), .i .i64 (wI (a0.Next + 1)), .sl v5.length (v5.flatMap eGMsgReq), .sl v6.length (v6.flatMap eGMsgReply)]] rfl ?_
          exact eend
        refine ee0 1 rfl rfl rfl rfl (fun ζ => ?_) ?_
        · refine sstore sz48 rfl rfl rfl rfl (Nat.le_of_ble_eq_true rfl) ?_
          refine smem [.box [.i .i64 a0.Win.Base, .i .u64 (a0.Win.Bits.toNat : Int), .i .i64 a0.Next, .sl a0.Wait.length (a0.Wait.flatMap eGMsgReq), .sl a0.Past.length (a0.Past.flatMap eGMsgReply)], .box [.i .i64 v2.1.Kind, .i .i64 v2.1.Seq, .i .i64 a1.Code, .i .i64 a1.N, .b a1.Found, .sl a1.Val.length (a1.Val.flatMap eU8), .sl a1.List.length (a1.List.flatMap eGApiKV)], .box [.i .i64 a0.Win.Base, .i .u64 (a0.Win.Bits.toNat : Int), .i .i64 (wI (a0.Next + 1)), .sl v5.length (v5.flatMap eGMsgReq), .sl v6.length (v6.flatMap eGMsgReply)], .box [.i .i64 v2.1.Kind, .i .i64 v2.1.Seq, .i .i64 a1.Code, .i .i64 a1.N, .b a1.Found, .sl a1.Val.length (a1.Val.flatMap eU8), .sl a1.List.length (a1.List.flatMap eGApiKV)], .box [.i .i64 v2.1.Kind, .i .i64 v2.1.Seq, .i .i64 v2.1.Token, .i .i64 v2.1.Attempt, .b v2.1.RO, .sl v2.1.Key.length (v2.1.Key.flatMap eU8), .sl v2.1.Val.length (v2.1.Val.flatMap eU8), .sl v2.1.Rng.Lo.length (v2.1.Rng.Lo.flatMap eU8), .sl v2.1.Rng.Hi.length (v2.1.Rng.Hi.flatMap eU8), .b v2.1.Rng.Open], .box [.i .i64 a0.Win.Base, .i .u64 (a0.Win.Bits.toNat : Int), .i .i64 (wI (a0.Next + 1)), .sl v5.length (v5.flatMap eGMsgReq), .sl v6.length (v6.flatMap eGMsgReply)]] rfl ?_
          exact eend
        refine ev (sees_at 2 rfl rfl) rfl rfl (opv_as rfl) ?_
        refine enil ?_
        refine then_normal ?_
        refine cret ?_
        obtain rfl := Option.some.inj h
        refine ⟨Or.inr rfl, _, _, _, (resVs_cons (ResV.agg _ _ _ _ _ ti46 rfl (.lp _ _ _ rfl) (Nat.le_of_ble_eq_true rfl)) (resVs_cons (ResV.agg _ _ _ _ _ ti48 rfl (.lp _ _ _ rfl) (Nat.le_of_ble_eq_true rfl)) (resVs_cons (ResV.tmp _ _ rfl) resVs_nil))), (pubA_id rfl), ?_⟩
        rfl

def m8_l16_awake  : Option Bool :=
  (m13_pipe_Offer (GPipePipe.mk (GSeqsWindow.mk 0 (0#64)) 0 ([] : List GMsgReq) ([] : List GMsgReply)) (GMsgReq.mk 7 1 0 0 false ([] : List UInt8) ([] : List UInt8) (GApiRange.mk ([] : List UInt8) ([] : List UInt8) false))).bind fun v1 => (m19_pipe_Ready (GPipePipe.mk (GSeqsWindow.mk v1.1.Win.Base v1.1.Win.Bits) v1.1.Next v1.1.Wait v1.1.Past)).bind fun v2 => (m13_pipe_Offer (GPipePipe.mk (GSeqsWindow.mk v1.1.Win.Base v1.1.Win.Bits) v1.1.Next v1.1.Wait v1.1.Past) (GMsgReq.mk 8 0 0 0 false ([] : List UInt8) ([] : List UInt8) (GApiRange.mk ([] : List UInt8) ([] : List UInt8) false))).bind fun v3 => (m19_pipe_Ready (GPipePipe.mk (GSeqsWindow.mk v3.1.Win.Base v3.1.Win.Bits) v3.1.Next v3.1.Wait v3.1.Past)).bind fun v4 => (m16_pipe_Answer (GPipePipe.mk (GSeqsWindow.mk v3.1.Win.Base v3.1.Win.Bits) v3.1.Next v3.1.Wait v3.1.Past) (GMsgReply.mk 0 0 0 5 false ([] : List UInt8) ([] : List GApiKV))).bind fun v5 => (m19_pipe_Ready (GPipePipe.mk (GSeqsWindow.mk v5.1.Win.Base v5.1.Win.Bits) v5.1.Next v5.1.Wait v5.1.Past)).bind fun v6 => (m13_pipe_Offer (GPipePipe.mk (GSeqsWindow.mk v5.1.Win.Base v5.1.Win.Bits) v5.1.Next v5.1.Wait v5.1.Past) (GMsgReq.mk 8 0 0 0 false ([] : List UInt8) ([] : List UInt8) (GApiRange.mk ([] : List UInt8) ([] : List UInt8) false))).bind fun v7 => if (decide (v1.2.2.2 = 0)) then (if (decide (v3.2.2.2 = 0)) then (if (decide (v5.2.2 = 0)) then (if (decide (v7.2.2.2 = 0)) then (if (!v2.2) then (if v4.2 then (if (decide (v4.1.Kind = 8)) then (if v6.2 then (if (decide (v6.1.Seq = 1)) then (if v7.2.2.1 then (if (decide (v7.2.1.N = 5)) then (some (decide (v7.2.1.Kind = 8))) else (some false)) else (some false)) else (some false)) else (some false)) else (some false)) else (some false)) else (some false)) else (some false)) else (some false)) else (some false)) else (some false)

set_option maxRecDepth 100000 in
theorem m8_l16_awake_c  {r : Bool} (h : m8_l16_awake = some r) : CallsA Tryd.prog 8 [] (· = .s (.one (.b r))) := by
  unfold m8_l16_awake at h
  refine callsA_of Tryd.func8 rfl (nt := 113) rfl (Nat.le_of_ble_eq_true rfl) ?_
  intro w0 S0
  refine cseq ?_
  refine cregion ?_
  refine sv rfl (opv_as rfl) ?_
  refine snil ?_
  refine cseq ?_
  refine cregion ?_
  refine sv rfl (opv_build zi46 pi46 parts_nil (.nil _)) ?_
  refine sv rfl (opv_build zi51 pi51 (parts_cons rfl (parts_cons rfl parts_nil)) (.cons _ _ _ _ _ _ _ rfl rfl (Nat.le_of_ble_eq_true rfl) (.cons _ _ _ _ _ _ _ rfl rfl (Nat.le_of_ble_eq_true rfl) (.nil _)))) ?_
  obtain ⟨v1, hv1, h⟩ := bind_eq h
  refine scall1 rfl fn13 (opnds_cons rfl (opnds_cons rfl opnds_nil)) (pubC rfl) (m13_pipe_Offer_c hv1) ?_
  refine sv rfl (opv_mvt rfl) ?_
  refine sv rfl (opv_extract rfl rfl) ?_
  refine sv rfl (opv_extract rfl rfl) ?_
  refine sv rfl (opv_extract rfl rfl) ?_
  refine sv rfl (opv_extract rfl rfl) ?_
  refine salloc rfl zi46 ?_
  refine salloc rfl zi48 ?_
  refine sstore sz46 rfl rfl rfl rfl (Nat.le_of_ble_eq_true rfl) ?_
  refine smem [.box [.i .i64 v1.1.Win.Base, .i .u64 (v1.1.Win.Bits.toNat : Int), .i .i64 v1.1.Next, .sl v1.1.Wait.length (v1.1.Wait.flatMap eGMsgReq), .sl v1.1.Past.length (v1.1.Past.flatMap eGMsgReply)], .box [.i .i64 0, .i .i64 0, .i .i64 0, .i .i64 0, .b false, .raw (.slice none 0 0), .raw (.slice none 0 0)]] rfl ?_
  refine sstore sz48 rfl rfl rfl rfl (Nat.le_of_ble_eq_true rfl) ?_
  refine smem [.box [.i .i64 v1.1.Win.Base, .i .u64 (v1.1.Win.Bits.toNat : Int), .i .i64 v1.1.Next, .sl v1.1.Wait.length (v1.1.Wait.flatMap eGMsgReq), .sl v1.1.Past.length (v1.1.Past.flatMap eGMsgReply)], .box [.i .i64 v1.2.1.Kind, .i .i64 v1.2.1.Seq, .i .i64 v1.2.1.Code, .i .i64 v1.2.1.N, .b v1.2.1.Found, .sl v1.2.1.Val.length (v1.2.1.Val.flatMap eU8), .sl v1.2.1.List.length (v1.2.1.List.flatMap eGApiKV)]] rfl ?_
  refine sv rfl (opv_as rfl) ?_
  refine sv rfl (opv_as rfl) ?_
  refine snil ?_
  refine cseq ?_
  refine cregion ?_
  refine sv rfl (opv_loadN ti46 rfl (.lp _ _ _ rfl) (Nat.le_of_ble_eq_true rfl)) ?_
  obtain ⟨v2, hv2, h⟩ := bind_eq h
  refine scall1 rfl fn19 (opnds_cons rfl opnds_nil) (pubA_id rfl) (m19_pipe_Ready_c hv2) ?_
  refine sv rfl (opv_mvt rfl) ?_
  refine sv rfl (opv_extract rfl rfl) ?_
  refine sv rfl (opv_extract rfl rfl) ?_
  refine salloc rfl zi51 ?_
  refine sstore sz51 rfl rfl rfl rfl (Nat.le_of_ble_eq_true rfl) ?_
  refine smem [.box [.i .i64 v1.1.Win.Base, .i .u64 (v1.1.Win.Bits.toNat : Int), .i .i64 v1.1.Next, .sl v1.1.Wait.length (v1.1.Wait.flatMap eGMsgReq), .sl v1.1.Past.length (v1.1.Past.flatMap eGMsgReply)], .box [.i .i64 v1.2.1.Kind, .i .i64 v1.2.1.Seq, .i .i64 v1.2.1.Code, .i .i64 v1.2.1.N, .b v1.2.1.Found, .sl v1.2.1.Val.length (v1.2.1.Val.flatMap eU8), .sl v1.2.1.List.length (v1.2.1.List.flatMap eGApiKV)], .box [.i .i64 v2.1.Kind, .i .i64 v2.1.Seq, .i .i64 v2.1.Token, .i .i64 v2.1.Attempt, .b v2.1.RO, .sl v2.1.Key.length (v2.1.Key.flatMap eU8), .sl v2.1.Val.length (v2.1.Val.flatMap eU8), .sl v2.1.Rng.Lo.length (v2.1.Rng.Lo.flatMap eU8), .sl v2.1.Rng.Hi.length (v2.1.Rng.Hi.flatMap eU8), .b v2.1.Rng.Open]] rfl ?_
  refine sv rfl (opv_as rfl) ?_
  refine snil ?_
  refine cseq ?_
  refine cregion ?_
  refine sv rfl (opv_loadN ti46 rfl (.lp _ _ _ rfl) (Nat.le_of_ble_eq_true rfl)) ?_
  refine sv rfl (opv_build zi51 pi51 (parts_cons rfl parts_nil) (.cons _ _ _ _ _ _ _ rfl rfl (Nat.le_of_ble_eq_true rfl) (.nil _))) ?_
  obtain ⟨v3, hv3, h⟩ := bind_eq h
  refine scall1 rfl fn13 (opnds_cons rfl (opnds_cons rfl opnds_nil)) (pubC rfl) (m13_pipe_Offer_c hv3) ?_
  refine sv rfl (opv_mvt rfl) ?_
  refine sv rfl (opv_extract rfl rfl) ?_
  refine sv rfl (opv_extract rfl rfl) ?_
  refine sv rfl (opv_extract rfl rfl) ?_
  refine sv rfl (opv_extract rfl rfl) ?_
  refine salloc rfl zi48 ?_
  refine sstore sz46 rfl rfl rfl rfl (Nat.le_of_ble_eq_true rfl) ?_
  refine smem [.box [.i .i64 v3.1.Win.Base, .i .u64 (v3.1.Win.Bits.toNat : Int), .i .i64 v3.1.Next, .sl v3.1.Wait.length (v3.1.Wait.flatMap eGMsgReq), .sl v3.1.Past.length (v3.1.Past.flatMap eGMsgReply)], .box [.i .i64 v1.2.1.Kind, .i .i64 v1.2.1.Seq, .i .i64 v1.2.1.Code, .i .i64 v1.2.1.N, .b v1.2.1.Found, .sl v1.2.1.Val.length (v1.2.1.Val.flatMap eU8), .sl v1.2.1.List.length (v1.2.1.List.flatMap eGApiKV)], .box [.i .i64 v2.1.Kind, .i .i64 v2.1.Seq, .i .i64 v2.1.Token, .i .i64 v2.1.Attempt, .b v2.1.RO, .sl v2.1.Key.length (v2.1.Key.flatMap eU8), .sl v2.1.Val.length (v2.1.Val.flatMap eU8), .sl v2.1.Rng.Lo.length (v2.1.Rng.Lo.flatMap eU8), .sl v2.1.Rng.Hi.length (v2.1.Rng.Hi.flatMap eU8), .b v2.1.Rng.Open], .box [.i .i64 0, .i .i64 0, .i .i64 0, .i .i64 0, .b false, .raw (.slice none 0 0), .raw (.slice none 0 0)]] rfl ?_
  refine sstore sz48 rfl rfl rfl rfl (Nat.le_of_ble_eq_true rfl) ?_
  refine smem [.box [.i .i64 v3.1.Win.Base, .i .u64 (v3.1.Win.Bits.toNat : Int), .i .i64 v3.1.Next, .sl v3.1.Wait.length (v3.1.Wait.flatMap eGMsgReq), .sl v3.1.Past.length (v3.1.Past.flatMap eGMsgReply)], .box [.i .i64 v1.2.1.Kind, .i .i64 v1.2.1.Seq, .i .i64 v1.2.1.Code, .i .i64 v1.2.1.N, .b v1.2.1.Found, .sl v1.2.1.Val.length (v1.2.1.Val.flatMap eU8), .sl v1.2.1.List.length (v1.2.1.List.flatMap eGApiKV)], .box [.i .i64 v2.1.Kind, .i .i64 v2.1.Seq, .i .i64 v2.1.Token, .i .i64 v2.1.Attempt, .b v2.1.RO, .sl v2.1.Key.length (v2.1.Key.flatMap eU8), .sl v2.1.Val.length (v2.1.Val.flatMap eU8), .sl v2.1.Rng.Lo.length (v2.1.Rng.Lo.flatMap eU8), .sl v2.1.Rng.Hi.length (v2.1.Rng.Hi.flatMap eU8), .b v2.1.Rng.Open], .box [.i .i64 v3.2.1.Kind, .i .i64 v3.2.1.Seq, .i .i64 v3.2.1.Code, .i .i64 v3.2.1.N, .b v3.2.1.Found, .sl v3.2.1.Val.length (v3.2.1.Val.flatMap eU8), .sl v3.2.1.List.length (v3.2.1.List.flatMap eGApiKV)]] rfl ?_
  refine sv rfl (opv_as rfl) ?_
  refine sv rfl (opv_as rfl) ?_
  refine snil ?_
  refine cseq ?_
  refine cregion ?_
  refine sv rfl (opv_loadN ti46 rfl (.lp _ _ _ rfl) (Nat.le_of_ble_eq_true rfl)) ?_
  obtain ⟨v4, hv4, h⟩ := bind_eq h
  refine scall1 rfl fn19 (opnds_cons rfl opnds_nil) (pubA_id rfl) (m19_pipe_Ready_c hv4) ?_
  refine sv rfl (opv_mvt rfl) ?_
  refine sv rfl (opv_extract rfl rfl) ?_
  refine sv rfl (opv_extract rfl rfl) ?_
  refine salloc rfl zi51 ?_
  refine sstore sz51 rfl rfl rfl rfl (Nat.le_of_ble_eq_true rfl) ?_
  refine smem [.box [.i .i64 v3.1.Win.Base, .i .u64 (v3.1.Win.Bits.toNat : Int), .i .i64 v3.1.Next, .sl v3.1.Wait.length (v3.1.Wait.flatMap eGMsgReq), .sl v3.1.Past.length (v3.1.Past.flatMap eGMsgReply)], .box [.i .i64 v1.2.1.Kind, .i .i64 v1.2.1.Seq, .i .i64 v1.2.1.Code, .i .i64 v1.2.1.N, .b v1.2.1.Found, .sl v1.2.1.Val.length (v1.2.1.Val.flatMap eU8), .sl v1.2.1.List.length (v1.2.1.List.flatMap eGApiKV)], .box [.i .i64 v2.1.Kind, .i .i64 v2.1.Seq, .i .i64 v2.1.Token, .i .i64 v2.1.Attempt, .b v2.1.RO, .sl v2.1.Key.length (v2.1.Key.flatMap eU8), .sl v2.1.Val.length (v2.1.Val.flatMap eU8), .sl v2.1.Rng.Lo.length (v2.1.Rng.Lo.flatMap eU8), .sl v2.1.Rng.Hi.length (v2.1.Rng.Hi.flatMap eU8), .b v2.1.Rng.Open], .box [.i .i64 v3.2.1.Kind, .i .i64 v3.2.1.Seq, .i .i64 v3.2.1.Code, .i .i64 v3.2.1.N, .b v3.2.1.Found, .sl v3.2.1.Val.length (v3.2.1.Val.flatMap eU8), .sl v3.2.1.List.length (v3.2.1.List.flatMap eGApiKV)], .box [.i .i64 v4.1.Kind, .i .i64 v4.1.Seq, .i .i64 v4.1.Token, .i .i64 v4.1.Attempt, .b v4.1.RO, .sl v4.1.Key.length (v4.1.Key.flatMap eU8), .sl v4.1.Val.length (v4.1.Val.flatMap eU8), .sl v4.1.Rng.Lo.length (v4.1.Rng.Lo.flatMap eU8), .sl v4.1.Rng.Hi.length (v4.1.Rng.Hi.flatMap eU8), .b v4.1.Rng.Open]] rfl ?_
  refine sv rfl (opv_as rfl) ?_
  refine snil ?_
  refine cseq ?_
  refine cregion ?_
  refine sv rfl (opv_loadN ti46 rfl (.lp _ _ _ rfl) (Nat.le_of_ble_eq_true rfl)) ?_
  refine sv rfl (opv_build zi48 pi48 (parts_cons rfl parts_nil) (.cons _ _ _ _ _ _ _ rfl rfl (Nat.le_of_ble_eq_true rfl) (.nil _))) ?_
  obtain ⟨v5, hv5, h⟩ := bind_eq h
  refine scall1 rfl fn16 (opnds_cons rfl (opnds_cons rfl opnds_nil)) (pubC rfl) (m16_pipe_Answer_c hv5) ?_
  refine sv rfl (opv_mvt rfl) ?_
  refine sv rfl (opv_extract rfl rfl) ?_
  refine sv rfl (opv_extract rfl rfl) ?_
  refine sv rfl (opv_extract rfl rfl) ?_
  refine salloc rfl zi48 ?_
  refine sstore sz46 rfl rfl rfl rfl (Nat.le_of_ble_eq_true rfl) ?_
  refine smem [.box [.i .i64 v5.1.Win.Base, .i .u64 (v5.1.Win.Bits.toNat : Int), .i .i64 v5.1.Next, .sl v5.1.Wait.length (v5.1.Wait.flatMap eGMsgReq), .sl v5.1.Past.length (v5.1.Past.flatMap eGMsgReply)], .box [.i .i64 v1.2.1.Kind, .i .i64 v1.2.1.Seq, .i .i64 v1.2.1.Code, .i .i64 v1.2.1.N, .b v1.2.1.Found, .sl v1.2.1.Val.length (v1.2.1.Val.flatMap eU8), .sl v1.2.1.List.length (v1.2.1.List.flatMap eGApiKV)], .box [.i .i64 v2.1.Kind, .i .i64 v2.1.Seq, .i .i64 v2.1.Token, .i .i64 v2.1.Attempt, .b v2.1.RO, .sl v2.1.Key.length (v2.1.Key.flatMap eU8), .sl v2.1.Val.length (v2.1.Val.flatMap eU8), .sl v2.1.Rng.Lo.length (v2.1.Rng.Lo.flatMap eU8), .sl v2.1.Rng.Hi.length (v2.1.Rng.Hi.flatMap eU8), .b v2.1.Rng.Open], .box [.i .i64 v3.2.1.Kind, .i .i64 v3.2.1.Seq, .i .i64 v3.2.1.Code, .i .i64 v3.2.1.N, .b v3.2.1.Found, .sl v3.2.1.Val.length (v3.2.1.Val.flatMap eU8), .sl v3.2.1.List.length (v3.2.1.List.flatMap eGApiKV)], .box [.i .i64 v4.1.Kind, .i .i64 v4.1.Seq, .i .i64 v4.1.Token, .i .i64 v4.1.Attempt, .b v4.1.RO, .sl v4.1.Key.length (v4.1.Key.flatMap eU8), .sl v4.1.Val.length (v4.1.Val.flatMap eU8), .sl v4.1.Rng.Lo.length (v4.1.Rng.Lo.flatMap eU8), .sl v4.1.Rng.Hi.length (v4.1.Rng.Hi.flatMap eU8), .b v4.1.Rng.Open], .box [.i .i64 0, .i .i64 0, .i .i64 0, .i .i64 0, .b false, .raw (.slice none 0 0), .raw (.slice none 0 0)]] rfl ?_
  refine sstore sz48 rfl rfl rfl rfl (Nat.le_of_ble_eq_true rfl) ?_
  refine smem [.box [.i .i64 v5.1.Win.Base, .i .u64 (v5.1.Win.Bits.toNat : Int), .i .i64 v5.1.Next, .sl v5.1.Wait.length (v5.1.Wait.flatMap eGMsgReq), .sl v5.1.Past.length (v5.1.Past.flatMap eGMsgReply)], .box [.i .i64 v1.2.1.Kind, .i .i64 v1.2.1.Seq, .i .i64 v1.2.1.Code, .i .i64 v1.2.1.N, .b v1.2.1.Found, .sl v1.2.1.Val.length (v1.2.1.Val.flatMap eU8), .sl v1.2.1.List.length (v1.2.1.List.flatMap eGApiKV)], .box [.i .i64 v2.1.Kind, .i .i64 v2.1.Seq, .i .i64 v2.1.Token, .i .i64 v2.1.Attempt, .b v2.1.RO, .sl v2.1.Key.length (v2.1.Key.flatMap eU8), .sl v2.1.Val.length (v2.1.Val.flatMap eU8), .sl v2.1.Rng.Lo.length (v2.1.Rng.Lo.flatMap eU8), .sl v2.1.Rng.Hi.length (v2.1.Rng.Hi.flatMap eU8), .b v2.1.Rng.Open], .box [.i .i64 v3.2.1.Kind, .i .i64 v3.2.1.Seq, .i .i64 v3.2.1.Code, .i .i64 v3.2.1.N, .b v3.2.1.Found, .sl v3.2.1.Val.length (v3.2.1.Val.flatMap eU8), .sl v3.2.1.List.length (v3.2.1.List.flatMap eGApiKV)], .box [.i .i64 v4.1.Kind, .i .i64 v4.1.Seq, .i .i64 v4.1.Token, .i .i64 v4.1.Attempt, .b v4.1.RO, .sl v4.1.Key.length (v4.1.Key.flatMap eU8), .sl v4.1.Val.length (v4.1.Val.flatMap eU8), .sl v4.1.Rng.Lo.length (v4.1.Rng.Lo.flatMap eU8), .sl v4.1.Rng.Hi.length (v4.1.Rng.Hi.flatMap eU8), .b v4.1.Rng.Open], .box [.i .i64 v5.2.1.Kind, .i .i64 v5.2.1.Seq, .i .i64 v5.2.1.Code, .i .i64 v5.2.1.N, .b v5.2.1.Found, .sl v5.2.1.Val.length (v5.2.1.Val.flatMap eU8), .sl v5.2.1.List.length (v5.2.1.List.flatMap eGApiKV)]] rfl ?_
  refine sv rfl (opv_as rfl) ?_
  refine snil ?_
  refine cseq ?_
  refine cregion ?_
  refine sv rfl (opv_loadN ti46 rfl (.lp _ _ _ rfl) (Nat.le_of_ble_eq_true rfl)) ?_
  obtain ⟨v6, hv6, h⟩ := bind_eq h
  refine scall1 rfl fn19 (opnds_cons rfl opnds_nil) (pubA_id rfl) (m19_pipe_Ready_c hv6) ?_
  refine sv rfl (opv_mvt rfl) ?_
  refine sv rfl (opv_extract rfl rfl) ?_
  refine sv rfl (opv_extract rfl rfl) ?_
  refine salloc rfl zi51 ?_
  refine sstore sz51 rfl rfl rfl rfl (Nat.le_of_ble_eq_true rfl) ?_
  refine smem [.box [.i .i64 v5.1.Win.Base, .i .u64 (v5.1.Win.Bits.toNat : Int), .i .i64 v5.1.Next, .sl v5.1.Wait.length (v5.1.Wait.flatMap eGMsgReq), .sl v5.1.Past.length (v5.1.Past.flatMap eGMsgReply)], .box [.i .i64 v1.2.1.Kind, .i .i64 v1.2.1.Seq, .i .i64 v1.2.1.Code, .i .i64 v1.2.1.N, .b v1.2.1.Found, .sl v1.2.1.Val.length (v1.2.1.Val.flatMap eU8), .sl v1.2.1.List.length (v1.2.1.List.flatMap eGApiKV)], .box [.i .i64 v2.1.Kind, .i .i64 v2.1.Seq, .i .i64 v2.1.Token, .i .i64 v2.1.Attempt, .b v2.1.RO, .sl v2.1.Key.length (v2.1.Key.flatMap eU8), .sl v2.1.Val.length (v2.1.Val.flatMap eU8), .sl v2.1.Rng.Lo.length (v2.1.Rng.Lo.flatMap eU8), .sl v2.1.Rng.Hi.length (v2.1.Rng.Hi.flatMap eU8), .b v2.1.Rng.Open], .box [.i .i64 v3.2.1.Kind, .i .i64 v3.2.1.Seq, .i .i64 v3.2.1.Code, .i .i64 v3.2.1.N, .b v3.2.1.Found, .sl v3.2.1.Val.length (v3.2.1.Val.flatMap eU8), .sl v3.2.1.List.length (v3.2.1.List.flatMap eGApiKV)], .box [.i .i64 v4.1.Kind, .i .i64 v4.1.Seq, .i .i64 v4.1.Token, .i .i64 v4.1.Attempt, .b v4.1.RO, .sl v4.1.Key.length (v4.1.Key.flatMap eU8), .sl v4.1.Val.length (v4.1.Val.flatMap eU8), .sl v4.1.Rng.Lo.length (v4.1.Rng.Lo.flatMap eU8), .sl v4.1.Rng.Hi.length (v4.1.Rng.Hi.flatMap eU8), .b v4.1.Rng.Open], .box [.i .i64 v5.2.1.Kind, .i .i64 v5.2.1.Seq, .i .i64 v5.2.1.Code, .i .i64 v5.2.1.N, .b v5.2.1.Found, .sl v5.2.1.Val.length (v5.2.1.Val.flatMap eU8), .sl v5.2.1.List.length (v5.2.1.List.flatMap eGApiKV)], .box [.i .i64 v6.1.Kind, .i .i64 v6.1.Seq, .i .i64 v6.1.Token, .i .i64 v6.1.Attempt, .b v6.1.RO, .sl v6.1.Key.length (v6.1.Key.flatMap eU8), .sl v6.1.Val.length (v6.1.Val.flatMap eU8), .sl v6.1.Rng.Lo.length (v6.1.Rng.Lo.flatMap eU8), .sl v6.1.Rng.Hi.length (v6.1.Rng.Hi.flatMap eU8), .b v6.1.Rng.Open]] rfl ?_
  refine sv rfl (opv_as rfl) ?_
  refine snil ?_
  refine cseq ?_
  refine cregion ?_
  refine sv rfl (opv_loadN ti46 rfl (.lp _ _ _ rfl) (Nat.le_of_ble_eq_true rfl)) ?_
  refine sv rfl (opv_build zi51 pi51 (parts_cons rfl parts_nil) (.cons _ _ _ _ _ _ _ rfl rfl (Nat.le_of_ble_eq_true rfl) (.nil _))) ?_
  obtain ⟨v7, hv7, h⟩ := bind_eq h
  refine scall1 rfl fn13 (opnds_cons rfl (opnds_cons rfl opnds_nil)) (pubC rfl) (m13_pipe_Offer_c hv7) ?_
  refine sv rfl (opv_mvt rfl) ?_
  refine sv rfl (opv_extract rfl rfl) ?_
  refine sv rfl (opv_extract rfl rfl) ?_
  refine sv rfl (opv_extract rfl rfl) ?_
  refine sv rfl (opv_extract rfl rfl) ?_
  refine salloc rfl zi46 ?_
  refine salloc rfl zi48 ?_
  refine sstore sz46 rfl rfl rfl rfl (Nat.le_of_ble_eq_true rfl) ?_
  refine smem [.box [.i .i64 v5.1.Win.Base, .i .u64 (v5.1.Win.Bits.toNat : Int), .i .i64 v5.1.Next, .sl v5.1.Wait.length (v5.1.Wait.flatMap eGMsgReq), .sl v5.1.Past.length (v5.1.Past.flatMap eGMsgReply)], .box [.i .i64 v1.2.1.Kind, .i .i64 v1.2.1.Seq, .i .i64 v1.2.1.Code, .i .i64 v1.2.1.N, .b v1.2.1.Found, .sl v1.2.1.Val.length (v1.2.1.Val.flatMap eU8), .sl v1.2.1.List.length (v1.2.1.List.flatMap eGApiKV)], .box [.i .i64 v2.1.Kind, .i .i64 v2.1.Seq, .i .i64 v2.1.Token, .i .i64 v2.1.Attempt, .b v2.1.RO, .sl v2.1.Key.length (v2.1.Key.flatMap eU8), .sl v2.1.Val.length (v2.1.Val.flatMap eU8), .sl v2.1.Rng.Lo.length (v2.1.Rng.Lo.flatMap eU8), .sl v2.1.Rng.Hi.length (v2.1.Rng.Hi.flatMap eU8), .b v2.1.Rng.Open], .box [.i .i64 v3.2.1.Kind, .i .i64 v3.2.1.Seq, .i .i64 v3.2.1.Code, .i .i64 v3.2.1.N, .b v3.2.1.Found, .sl v3.2.1.Val.length (v3.2.1.Val.flatMap eU8), .sl v3.2.1.List.length (v3.2.1.List.flatMap eGApiKV)], .box [.i .i64 v4.1.Kind, .i .i64 v4.1.Seq, .i .i64 v4.1.Token, .i .i64 v4.1.Attempt, .b v4.1.RO, .sl v4.1.Key.length (v4.1.Key.flatMap eU8), .sl v4.1.Val.length (v4.1.Val.flatMap eU8), .sl v4.1.Rng.Lo.length (v4.1.Rng.Lo.flatMap eU8), .sl v4.1.Rng.Hi.length (v4.1.Rng.Hi.flatMap eU8), .b v4.1.Rng.Open], .box [.i .i64 v5.2.1.Kind, .i .i64 v5.2.1.Seq, .i .i64 v5.2.1.Code, .i .i64 v5.2.1.N, .b v5.2.1.Found, .sl v5.2.1.Val.length (v5.2.1.Val.flatMap eU8), .sl v5.2.1.List.length (v5.2.1.List.flatMap eGApiKV)], .box [.i .i64 v6.1.Kind, .i .i64 v6.1.Seq, .i .i64 v6.1.Token, .i .i64 v6.1.Attempt, .b v6.1.RO, .sl v6.1.Key.length (v6.1.Key.flatMap eU8), .sl v6.1.Val.length (v6.1.Val.flatMap eU8), .sl v6.1.Rng.Lo.length (v6.1.Rng.Lo.flatMap eU8), .sl v6.1.Rng.Hi.length (v6.1.Rng.Hi.flatMap eU8), .b v6.1.Rng.Open], .box [.i .i64 v7.1.Win.Base, .i .u64 (v7.1.Win.Bits.toNat : Int), .i .i64 v7.1.Next, .sl v7.1.Wait.length (v7.1.Wait.flatMap eGMsgReq), .sl v7.1.Past.length (v7.1.Past.flatMap eGMsgReply)], .box [.i .i64 0, .i .i64 0, .i .i64 0, .i .i64 0, .b false, .raw (.slice none 0 0), .raw (.slice none 0 0)]] rfl ?_
  refine sstore sz48 rfl rfl rfl rfl (Nat.le_of_ble_eq_true rfl) ?_
  refine smem [.box [.i .i64 v5.1.Win.Base, .i .u64 (v5.1.Win.Bits.toNat : Int), .i .i64 v5.1.Next, .sl v5.1.Wait.length (v5.1.Wait.flatMap eGMsgReq), .sl v5.1.Past.length (v5.1.Past.flatMap eGMsgReply)], .box [.i .i64 v1.2.1.Kind, .i .i64 v1.2.1.Seq, .i .i64 v1.2.1.Code, .i .i64 v1.2.1.N, .b v1.2.1.Found, .sl v1.2.1.Val.length (v1.2.1.Val.flatMap eU8), .sl v1.2.1.List.length (v1.2.1.List.flatMap eGApiKV)], .box [.i .i64 v2.1.Kind, .i .i64 v2.1.Seq, .i .i64 v2.1.Token, .i .i64 v2.1.Attempt, .b v2.1.RO, .sl v2.1.Key.length (v2.1.Key.flatMap eU8), .sl v2.1.Val.length (v2.1.Val.flatMap eU8), .sl v2.1.Rng.Lo.length (v2.1.Rng.Lo.flatMap eU8), .sl v2.1.Rng.Hi.length (v2.1.Rng.Hi.flatMap eU8), .b v2.1.Rng.Open], .box [.i .i64 v3.2.1.Kind, .i .i64 v3.2.1.Seq, .i .i64 v3.2.1.Code, .i .i64 v3.2.1.N, .b v3.2.1.Found, .sl v3.2.1.Val.length (v3.2.1.Val.flatMap eU8), .sl v3.2.1.List.length (v3.2.1.List.flatMap eGApiKV)], .box [.i .i64 v4.1.Kind, .i .i64 v4.1.Seq, .i .i64 v4.1.Token, .i .i64 v4.1.Attempt, .b v4.1.RO, .sl v4.1.Key.length (v4.1.Key.flatMap eU8), .sl v4.1.Val.length (v4.1.Val.flatMap eU8), .sl v4.1.Rng.Lo.length (v4.1.Rng.Lo.flatMap eU8), .sl v4.1.Rng.Hi.length (v4.1.Rng.Hi.flatMap eU8), .b v4.1.Rng.Open], .box [.i .i64 v5.2.1.Kind, .i .i64 v5.2.1.Seq, .i .i64 v5.2.1.Code, .i .i64 v5.2.1.N, .b v5.2.1.Found, .sl v5.2.1.Val.length (v5.2.1.Val.flatMap eU8), .sl v5.2.1.List.length (v5.2.1.List.flatMap eGApiKV)], .box [.i .i64 v6.1.Kind, .i .i64 v6.1.Seq, .i .i64 v6.1.Token, .i .i64 v6.1.Attempt, .b v6.1.RO, .sl v6.1.Key.length (v6.1.Key.flatMap eU8), .sl v6.1.Val.length (v6.1.Val.flatMap eU8), .sl v6.1.Rng.Lo.length (v6.1.Rng.Lo.flatMap eU8), .sl v6.1.Rng.Hi.length (v6.1.Rng.Hi.flatMap eU8), .b v6.1.Rng.Open], .box [.i .i64 v7.1.Win.Base, .i .u64 (v7.1.Win.Bits.toNat : Int), .i .i64 v7.1.Next, .sl v7.1.Wait.length (v7.1.Wait.flatMap eGMsgReq), .sl v7.1.Past.length (v7.1.Past.flatMap eGMsgReply)], .box [.i .i64 v7.2.1.Kind, .i .i64 v7.2.1.Seq, .i .i64 v7.2.1.Code, .i .i64 v7.2.1.N, .b v7.2.1.Found, .sl v7.2.1.Val.length (v7.2.1.Val.flatMap eU8), .sl v7.2.1.List.length (v7.2.1.List.flatMap eGApiKV)]] rfl ?_
  refine sv rfl (opv_as rfl) ?_
  refine sv rfl (opv_as rfl) ?_
  refine snil ?_
  refine cseq ?_
  refine cregion ?_
  refine sv rfl (opv_mv rfl) ?_
  refine sv rfl (opv_ieql rfl rfl) ?_
  refine sv rfl (opv_mv rfl) ?_
  refine ssplit 68 rfl (fun hc => ?_) (fun hc => ?_)
  · replace h := ite_t hc h
    clear hc
    refine son rfl rfl rfl ?_
    refine sv rfl (opv_mv rfl) ?_
    refine son rfl rfl rfl ?_
    refine sv rfl (opv_ieql rfl rfl) ?_
    refine sv rfl (opv_pick_t rfl rfl) ?_
    refine sv rfl (opv_mv rfl) ?_
    refine ssplit 72 rfl (fun hc => ?_) (fun hc => ?_)
    · replace h := ite_t hc h
      clear hc
      refine son rfl rfl rfl ?_
      refine sv rfl (opv_mv rfl) ?_
      refine son rfl rfl rfl ?_
      refine sv rfl (opv_ieql rfl rfl) ?_
      refine sv rfl (opv_pick_t rfl rfl) ?_
      refine sv rfl (opv_mv rfl) ?_
      refine ssplit 76 rfl (fun hc => ?_) (fun hc => ?_)
      · replace h := ite_t hc h
        clear hc
        refine son rfl rfl rfl ?_
        refine sv rfl (opv_mv rfl) ?_
        refine son rfl rfl rfl ?_
        refine sv rfl (opv_ieql rfl rfl) ?_
        refine sv rfl (opv_pick_t rfl rfl) ?_
        refine sv rfl (opv_mv rfl) ?_
        refine ssplit 80 rfl (fun hc => ?_) (fun hc => ?_)
        · replace h := ite_t hc h
          clear hc
          refine son rfl rfl rfl ?_
          refine sv rfl (opv_mv rfl) ?_
          refine son rfl rfl rfl ?_
          refine sv rfl (opv_not rfl) ?_
          refine sv rfl (opv_pick_t rfl rfl) ?_
          refine sv rfl (opv_mv rfl) ?_
          refine ssplit 84 rfl (fun hc => ?_) (fun hc => ?_)
          · replace h := ite_t hc h
            clear hc
            refine son rfl rfl rfl ?_
            refine sv rfl (opv_mv rfl) ?_
            refine sv rfl (opv_pick_t rfl rfl) ?_
            refine sv rfl (opv_mv rfl) ?_
            refine ssplit 87 rfl (fun hc => ?_) (fun hc => ?_)
            · replace h := ite_t hc h
              clear hc
              refine son rfl rfl rfl ?_
              refine sv rfl (opv_fieldAddr_lp fi51_0 rfl) ?_
              refine son rfl rfl rfl ?_
              refine sv rfl (opv_load1 ti3 rfl (.lp _ _ _ rfl) rfl) ?_
              refine son rfl rfl rfl ?_
              refine sv rfl (opv_ieql rfl rfl) ?_
              refine sv rfl (opv_pick_t rfl rfl) ?_
              refine sv rfl (opv_mv rfl) ?_
              refine ssplit 92 rfl (fun hc => ?_) (fun hc => ?_)
              · replace h := ite_t hc h
                clear hc
                refine son rfl rfl rfl ?_
                refine sv rfl (opv_mv rfl) ?_
                refine sv rfl (opv_pick_t rfl rfl) ?_
                refine sv rfl (opv_mv rfl) ?_
                refine ssplit 95 rfl (fun hc => ?_) (fun hc => ?_)
                · replace h := ite_t hc h
                  clear hc
                  refine son rfl rfl rfl ?_
                  refine sv rfl (opv_fieldAddr_lp fi51_1 rfl) ?_
                  refine son rfl rfl rfl ?_
                  refine sv rfl (opv_load1 ti3 rfl (.lp _ _ _ rfl) rfl) ?_
                  refine son rfl rfl rfl ?_
                  refine sv rfl (opv_ieql rfl rfl) ?_
                  refine sv rfl (opv_pick_t rfl rfl) ?_
                  refine sv rfl (opv_mv rfl) ?_
                  refine ssplit 100 rfl (fun hc => ?_) (fun hc => ?_)
                  · replace h := ite_t hc h
                    clear hc
                    refine son rfl rfl rfl ?_
                    refine sv rfl (opv_mv rfl) ?_
                    refine sv rfl (opv_pick_t rfl rfl) ?_
                    refine sv rfl (opv_mv rfl) ?_
                    refine ssplit 103 rfl (fun hc => ?_) (fun hc => ?_)
                    · replace h := ite_t hc h
                      clear hc
                      refine son rfl rfl rfl ?_
                      refine sv rfl (opv_fieldAddr_lp fi48_3 rfl) ?_
                      refine son rfl rfl rfl ?_
                      refine sv rfl (opv_load1 ti3 rfl (.lp _ _ _ rfl) rfl) ?_
                      refine son rfl rfl rfl ?_
                      refine sv rfl (opv_ieql rfl rfl) ?_
                      refine sv rfl (opv_pick_t rfl rfl) ?_
                      refine sv rfl (opv_mv rfl) ?_
                      refine ssplit 108 rfl (fun hc => ?_) (fun hc => ?_)
                      · replace h := ite_t hc h
                        clear hc
                        refine son rfl rfl rfl ?_
                        refine sv rfl (opv_fieldAddr_lp fi48_0 rfl) ?_
                        refine son rfl rfl rfl ?_
                        refine sv rfl (opv_load1 ti3 rfl (.lp _ _ _ rfl) rfl) ?_
                        refine son rfl rfl rfl ?_
                        refine sv rfl (opv_ieql rfl rfl) ?_
                        refine sv rfl (opv_pick_t rfl rfl) ?_
                        refine sv rfl (opv_as rfl) ?_
                        refine snil ?_
                        refine cret ?_
                        obtain rfl := Option.some.inj h
                        refine ⟨Or.inr rfl, _, _, _, (resVs_cons (ResV.tmp _ _ rfl) resVs_nil), (pubA_id rfl), ?_⟩
                        rfl
                      · replace h := ite_f hc h
                        clear hc
                        refine soff rfl rfl rfl rfl ?_
                        refine soff rfl rfl rfl rfl ?_
                        refine soff rfl rfl rfl rfl ?_
                        refine sv rfl (opv_pick_f rfl rfl) ?_
                        refine sv rfl (opv_as rfl) ?_
                        refine snil ?_
                        refine cret ?_
                        obtain rfl := Option.some.inj h
                        refine ⟨Or.inr rfl, _, _, _, (resVs_cons (ResV.tmp _ _ rfl) resVs_nil), (pubA_id rfl), ?_⟩
                        rfl
                    · replace h := ite_f hc h
                      clear hc
                      refine soff rfl rfl rfl rfl ?_
                      refine soff rfl rfl rfl rfl ?_
                      refine soff rfl rfl rfl rfl ?_
                      refine sv rfl (opv_pick_f rfl rfl) ?_
                      refine sv rfl (opv_mv rfl) ?_
                      refine soff rfl rfl rfl rfl ?_
                      refine soff rfl rfl rfl rfl ?_
                      refine soff rfl rfl rfl rfl ?_
                      refine sv rfl (opv_pick_f rfl rfl) ?_
                      refine sv rfl (opv_as rfl) ?_
                      refine snil ?_
                      refine cret ?_
                      obtain rfl := Option.some.inj h
                      refine ⟨Or.inr rfl, _, _, _, (resVs_cons (ResV.tmp _ _ rfl) resVs_nil), (pubA_id rfl), ?_⟩
                      rfl
                  · replace h := ite_f hc h
                    clear hc
                    refine soff rfl rfl rfl rfl ?_
                    refine sv rfl (opv_pick_f rfl rfl) ?_
                    refine sv rfl (opv_mv rfl) ?_
                    refine soff rfl rfl rfl rfl ?_
                    refine soff rfl rfl rfl rfl ?_
                    refine soff rfl rfl rfl rfl ?_
                    refine sv rfl (opv_pick_f rfl rfl) ?_
                    refine sv rfl (opv_mv rfl) ?_
                    refine soff rfl rfl rfl rfl ?_
                    refine soff rfl rfl rfl rfl ?_
                    refine soff rfl rfl rfl rfl ?_
                    refine sv rfl (opv_pick_f rfl rfl) ?_
                    refine sv rfl (opv_as rfl) ?_
                    refine snil ?_
                    refine cret ?_
                    obtain rfl := Option.some.inj h
                    refine ⟨Or.inr rfl, _, _, _, (resVs_cons (ResV.tmp _ _ rfl) resVs_nil), (pubA_id rfl), ?_⟩
                    rfl
                · replace h := ite_f hc h
                  clear hc
                  refine soff rfl rfl rfl rfl ?_
                  refine soff rfl rfl rfl rfl ?_
                  refine soff rfl rfl rfl rfl ?_
                  refine sv rfl (opv_pick_f rfl rfl) ?_
                  refine sv rfl (opv_mv rfl) ?_
                  refine soff rfl rfl rfl rfl ?_
                  refine sv rfl (opv_pick_f rfl rfl) ?_
                  refine sv rfl (opv_mv rfl) ?_
                  refine soff rfl rfl rfl rfl ?_
                  refine soff rfl rfl rfl rfl ?_
                  refine soff rfl rfl rfl rfl ?_
                  refine sv rfl (opv_pick_f rfl rfl) ?_
                  refine sv rfl (opv_mv rfl) ?_
                  refine soff rfl rfl rfl rfl ?_
                  refine soff rfl rfl rfl rfl ?_
                  refine soff rfl rfl rfl rfl ?_
                  refine sv rfl (opv_pick_f rfl rfl) ?_
                  refine sv rfl (opv_as rfl) ?_
                  refine snil ?_
                  refine cret ?_
                  obtain rfl := Option.some.inj h
                  refine ⟨Or.inr rfl, _, _, _, (resVs_cons (ResV.tmp _ _ rfl) resVs_nil), (pubA_id rfl), ?_⟩
                  rfl
              · replace h := ite_f hc h
                clear hc
                refine soff rfl rfl rfl rfl ?_
                refine sv rfl (opv_pick_f rfl rfl) ?_
                refine sv rfl (opv_mv rfl) ?_
                refine soff rfl rfl rfl rfl ?_
                refine soff rfl rfl rfl rfl ?_
                refine soff rfl rfl rfl rfl ?_
                refine sv rfl (opv_pick_f rfl rfl) ?_
                refine sv rfl (opv_mv rfl) ?_
                refine soff rfl rfl rfl rfl ?_
                refine sv rfl (opv_pick_f rfl rfl) ?_
                refine sv rfl (opv_mv rfl) ?_
                refine soff rfl rfl rfl rfl ?_
                refine soff rfl rfl rfl rfl ?_
                refine soff rfl rfl rfl rfl ?_
                refine sv rfl (opv_pick_f rfl rfl) ?_
                refine sv rfl (opv_mv rfl) ?_
                refine soff rfl rfl rfl rfl ?_
                refine soff rfl rfl rfl rfl ?_
                refine soff rfl rfl rfl rfl ?_
                refine sv rfl (opv_pick_f rfl rfl) ?_
                refine sv rfl (opv_as rfl) ?_
                refine snil ?_
                refine cret ?_
                obtain rfl := Option.some.inj h
                refine ⟨Or.inr rfl, _, _, _, (resVs_cons (ResV.tmp _ _ rfl) resVs_nil), (pubA_id rfl), ?_⟩
                rfl
            · replace h := ite_f hc h
              clear hc
              refine soff rfl rfl rfl rfl ?_
              refine soff rfl rfl rfl rfl ?_
              refine soff rfl rfl rfl rfl ?_
              refine sv rfl (opv_pick_f rfl rfl) ?_
              refine sv rfl (opv_mv rfl) ?_
              refine soff rfl rfl rfl rfl ?_
              refine sv rfl (opv_pick_f rfl rfl) ?_
              refine sv rfl (opv_mv rfl) ?_
              refine soff rfl rfl rfl rfl ?_
              refine soff rfl rfl rfl rfl ?_
              refine soff rfl rfl rfl rfl ?_
              refine sv rfl (opv_pick_f rfl rfl) ?_
              refine sv rfl (opv_mv rfl) ?_
              refine soff rfl rfl rfl rfl ?_
              refine sv rfl (opv_pick_f rfl rfl) ?_
              refine sv rfl (opv_mv rfl) ?_
              refine soff rfl rfl rfl rfl ?_
              refine soff rfl rfl rfl rfl ?_
              refine soff rfl rfl rfl rfl ?_
              refine sv rfl (opv_pick_f rfl rfl) ?_
              refine sv rfl (opv_mv rfl) ?_
              refine soff rfl rfl rfl rfl ?_
              refine soff rfl rfl rfl rfl ?_
              refine soff rfl rfl rfl rfl ?_
              refine sv rfl (opv_pick_f rfl rfl) ?_
              refine sv rfl (opv_as rfl) ?_
              refine snil ?_
              refine cret ?_
              obtain rfl := Option.some.inj h
              refine ⟨Or.inr rfl, _, _, _, (resVs_cons (ResV.tmp _ _ rfl) resVs_nil), (pubA_id rfl), ?_⟩
              rfl
          · replace h := ite_f hc h
            clear hc
            refine soff rfl rfl rfl rfl ?_
            refine sv rfl (opv_pick_f rfl rfl) ?_
            refine sv rfl (opv_mv rfl) ?_
            refine soff rfl rfl rfl rfl ?_
            refine soff rfl rfl rfl rfl ?_
            refine soff rfl rfl rfl rfl ?_
            refine sv rfl (opv_pick_f rfl rfl) ?_
            refine sv rfl (opv_mv rfl) ?_
            refine soff rfl rfl rfl rfl ?_
            refine sv rfl (opv_pick_f rfl rfl) ?_
            refine sv rfl (opv_mv rfl) ?_
            refine soff rfl rfl rfl rfl ?_
            refine soff rfl rfl rfl rfl ?_
            refine soff rfl rfl rfl rfl ?_
            refine sv rfl (opv_pick_f rfl rfl) ?_
            refine sv rfl (opv_mv rfl) ?_
            refine soff rfl rfl rfl rfl ?_
            refine sv rfl (opv_pick_f rfl rfl) ?_
            refine sv rfl (opv_mv rfl) ?_
            refine soff rfl rfl rfl rfl ?_
            refine soff rfl rfl rfl rfl ?_
            refine soff rfl rfl rfl rfl ?_
            refine sv rfl (opv_pick_f rfl rfl) ?_
            refine sv rfl (opv_mv rfl) ?_
            refine soff rfl rfl rfl rfl ?_
            refine soff rfl rfl rfl rfl ?_
            refine soff rfl rfl rfl rfl ?_
            refine sv rfl (opv_pick_f rfl rfl) ?_
            refine sv rfl (opv_as rfl) ?_
            refine snil ?_
            refine cret ?_
            obtain rfl := Option.some.inj h
            refine ⟨Or.inr rfl, _, _, _, (resVs_cons (ResV.tmp _ _ rfl) resVs_nil), (pubA_id rfl), ?_⟩
            rfl
        · replace h := ite_f hc h
          clear hc
          refine soff rfl rfl rfl rfl ?_
          refine soff rfl rfl rfl rfl ?_
          refine sv rfl (opv_pick_f rfl rfl) ?_
          refine sv rfl (opv_mv rfl) ?_
          refine soff rfl rfl rfl rfl ?_
          refine sv rfl (opv_pick_f rfl rfl) ?_
          refine sv rfl (opv_mv rfl) ?_
          refine soff rfl rfl rfl rfl ?_
          refine soff rfl rfl rfl rfl ?_
          refine soff rfl rfl rfl rfl ?_
          refine sv rfl (opv_pick_f rfl rfl) ?_
          refine sv rfl (opv_mv rfl) ?_
          refine soff rfl rfl rfl rfl ?_
          refine sv rfl (opv_pick_f rfl rfl) ?_
          refine sv rfl (opv_mv rfl) ?_
          refine soff rfl rfl rfl rfl ?_
          refine soff rfl rfl rfl rfl ?_
          refine soff rfl rfl rfl rfl ?_
          refine sv rfl (opv_pick_f rfl rfl) ?_
          refine sv rfl (opv_mv rfl) ?_
          refine soff rfl rfl rfl rfl ?_
          refine sv rfl (opv_pick_f rfl rfl) ?_
          refine sv rfl (opv_mv rfl) ?_
          refine soff rfl rfl rfl rfl ?_
          refine soff rfl rfl rfl rfl ?_
          refine soff rfl rfl rfl rfl ?_
          refine sv rfl (opv_pick_f rfl rfl) ?_
          refine sv rfl (opv_mv rfl) ?_
          refine soff rfl rfl rfl rfl ?_
          refine soff rfl rfl rfl rfl ?_
          refine soff rfl rfl rfl rfl ?_
          refine sv rfl (opv_pick_f rfl rfl) ?_
          refine sv rfl (opv_as rfl) ?_
          refine snil ?_
          refine cret ?_
          obtain rfl := Option.some.inj h
          refine ⟨Or.inr rfl, _, _, _, (resVs_cons (ResV.tmp _ _ rfl) resVs_nil), (pubA_id rfl), ?_⟩
          rfl
      · replace h := ite_f hc h
        clear hc
        refine soff rfl rfl rfl rfl ?_
        refine soff rfl rfl rfl rfl ?_
        refine sv rfl (opv_pick_f rfl rfl) ?_
        refine sv rfl (opv_mv rfl) ?_
        refine soff rfl rfl rfl rfl ?_
        refine soff rfl rfl rfl rfl ?_
        refine sv rfl (opv_pick_f rfl rfl) ?_
        refine sv rfl (opv_mv rfl) ?_
        refine soff rfl rfl rfl rfl ?_
        refine sv rfl (opv_pick_f rfl rfl) ?_
        refine sv rfl (opv_mv rfl) ?_
        refine soff rfl rfl rfl rfl ?_
        refine soff rfl rfl rfl rfl ?_
        refine soff rfl rfl rfl rfl ?_
        refine sv rfl (opv_pick_f rfl rfl) ?_
        refine sv rfl (opv_mv rfl) ?_
        refine soff rfl rfl rfl rfl ?_
        refine sv rfl (opv_pick_f rfl rfl) ?_
        refine sv rfl (opv_mv rfl) ?_
        refine soff rfl rfl rfl rfl ?_
        refine soff rfl rfl rfl rfl ?_
        refine soff rfl rfl rfl rfl ?_
        refine sv rfl (opv_pick_f rfl rfl) ?_
        refine sv rfl (opv_mv rfl) ?_
        refine soff rfl rfl rfl rfl ?_
        refine sv rfl (opv_pick_f rfl rfl) ?_
        refine sv rfl (opv_mv rfl) ?_
        refine soff rfl rfl rfl rfl ?_
        refine soff rfl rfl rfl rfl ?_
        refine soff rfl rfl rfl rfl ?_
        refine sv rfl (opv_pick_f rfl rfl) ?_
        refine sv rfl (opv_mv rfl) ?_
        refine soff rfl rfl rfl rfl ?_
        refine soff rfl rfl rfl rfl ?_
        refine soff rfl rfl rfl rfl ?_
        refine sv rfl (opv_pick_f rfl rfl) ?_
        refine sv rfl (opv_as rfl) ?_
        refine snil ?_
        refine cret ?_
        obtain rfl := Option.some.inj h
        refine ⟨Or.inr rfl, _, _, _, (resVs_cons (ResV.tmp _ _ rfl) resVs_nil), (pubA_id rfl), ?_⟩
        rfl
    · replace h := ite_f hc h
      clear hc
      refine soff rfl rfl rfl rfl ?_
      refine soff rfl rfl rfl rfl ?_
      refine sv rfl (opv_pick_f rfl rfl) ?_
      refine sv rfl (opv_mv rfl) ?_
      refine soff rfl rfl rfl rfl ?_
      refine soff rfl rfl rfl rfl ?_
      refine sv rfl (opv_pick_f rfl rfl) ?_
      refine sv rfl (opv_mv rfl) ?_
      refine soff rfl rfl rfl rfl ?_
      refine soff rfl rfl rfl rfl ?_
      refine sv rfl (opv_pick_f rfl rfl) ?_
      refine sv rfl (opv_mv rfl) ?_
      refine soff rfl rfl rfl rfl ?_
      refine sv rfl (opv_pick_f rfl rfl) ?_
      refine sv rfl (opv_mv rfl) ?_
      refine soff rfl rfl rfl rfl ?_
      refine soff rfl rfl rfl rfl ?_
      refine soff rfl rfl rfl rfl ?_
      refine sv rfl (opv_pick_f rfl rfl) ?_
      refine sv rfl (opv_mv rfl) ?_
      refine soff rfl rfl rfl rfl ?_
      refine sv rfl (opv_pick_f rfl rfl) ?_
      refine sv rfl (opv_mv rfl) ?_
      refine soff rfl rfl rfl rfl ?_
      refine soff rfl rfl rfl rfl ?_
      refine soff rfl rfl rfl rfl ?_
      refine sv rfl (opv_pick_f rfl rfl) ?_
      refine sv rfl (opv_mv rfl) ?_
      refine soff rfl rfl rfl rfl ?_
      refine sv rfl (opv_pick_f rfl rfl) ?_
      refine sv rfl (opv_mv rfl) ?_
      refine soff rfl rfl rfl rfl ?_
      refine soff rfl rfl rfl rfl ?_
      refine soff rfl rfl rfl rfl ?_
      refine sv rfl (opv_pick_f rfl rfl) ?_
      refine sv rfl (opv_mv rfl) ?_
      refine soff rfl rfl rfl rfl ?_
      refine soff rfl rfl rfl rfl ?_
      refine soff rfl rfl rfl rfl ?_
      refine sv rfl (opv_pick_f rfl rfl) ?_
      refine sv rfl (opv_as rfl) ?_
      refine snil ?_
      refine cret ?_
      obtain rfl := Option.some.inj h
      refine ⟨Or.inr rfl, _, _, _, (resVs_cons (ResV.tmp _ _ rfl) resVs_nil), (pubA_id rfl), ?_⟩
      rfl
  · replace h := ite_f hc h
    clear hc
    refine soff rfl rfl rfl rfl ?_
    refine soff rfl rfl rfl rfl ?_
    refine sv rfl (opv_pick_f rfl rfl) ?_
    refine sv rfl (opv_mv rfl) ?_
    refine soff rfl rfl rfl rfl ?_
    refine soff rfl rfl rfl rfl ?_
    refine sv rfl (opv_pick_f rfl rfl) ?_
    refine sv rfl (opv_mv rfl) ?_
    refine soff rfl rfl rfl rfl ?_
    refine soff rfl rfl rfl rfl ?_
    refine sv rfl (opv_pick_f rfl rfl) ?_
    refine sv rfl (opv_mv rfl) ?_
    refine soff rfl rfl rfl rfl ?_
    refine soff rfl rfl rfl rfl ?_
    refine sv rfl (opv_pick_f rfl rfl) ?_
    refine sv rfl (opv_mv rfl) ?_
    refine soff rfl rfl rfl rfl ?_
    refine sv rfl (opv_pick_f rfl rfl) ?_
    refine sv rfl (opv_mv rfl) ?_
    refine soff rfl rfl rfl rfl ?_
    refine soff rfl rfl rfl rfl ?_
    refine soff rfl rfl rfl rfl ?_
    refine sv rfl (opv_pick_f rfl rfl) ?_
    refine sv rfl (opv_mv rfl) ?_
    refine soff rfl rfl rfl rfl ?_
    refine sv rfl (opv_pick_f rfl rfl) ?_
    refine sv rfl (opv_mv rfl) ?_
    refine soff rfl rfl rfl rfl ?_
    refine soff rfl rfl rfl rfl ?_
    refine soff rfl rfl rfl rfl ?_
    refine sv rfl (opv_pick_f rfl rfl) ?_
    refine sv rfl (opv_mv rfl) ?_
    refine soff rfl rfl rfl rfl ?_
    refine sv rfl (opv_pick_f rfl rfl) ?_
    refine sv rfl (opv_mv rfl) ?_
    refine soff rfl rfl rfl rfl ?_
    refine soff rfl rfl rfl rfl ?_
    refine soff rfl rfl rfl rfl ?_
    refine sv rfl (opv_pick_f rfl rfl) ?_
    refine sv rfl (opv_mv rfl) ?_
    refine soff rfl rfl rfl rfl ?_
    refine soff rfl rfl rfl rfl ?_
    refine soff rfl rfl rfl rfl ?_
    refine sv rfl (opv_pick_f rfl rfl) ?_
    refine sv rfl (opv_as rfl) ?_
    refine snil ?_
    refine cret ?_
    obtain rfl := Option.some.inj h
    refine ⟨Or.inr rfl, _, _, _, (resVs_cons (ResV.tmp _ _ rfl) resVs_nil), (pubA_id rfl), ?_⟩
    rfl

def m11_r05_FewReply_k2 (b2 : Unit) : Option Bool :=
  some true

def m11_r05_FewReply_s3 (a0 : GR05Reply) (s3 : Int) : Option (LR (Int) (Unit) (Bool)) :=
  if (decide (s3 < (a0.List.length : Int))) then ((idx a0.List s3).bind fun u4 => if (decide (100 < (u4.Key.length : Int))) then (some (.ret false)) else ((idx a0.List s3).bind fun u5 => if (decide (100 < (u5.Val.length : Int))) then (some (.ret false)) else (some (.cont (wI (s3 + 1)))))) else (some (.brk ()))

def m11_r05_FewReply_k1 (a0 : GR05Reply) (b1 : Unit) : Option Bool :=
  (iter (m11_r05_FewReply_s3 a0) fuel 0).bind fun x => match x with | .inl r => some r | .inr e6 => m11_r05_FewReply_k2 e6
def m11_r05_FewReply (a0 : GR05Reply) : Option Bool :=
  if (decide (100 < (a0.Val.length : Int))) then (some false) else (if (decide (20 < (a0.List.length : Int))) then (some false) else (m11_r05_FewReply_k1 a0 ()))

set_option maxRecDepth 100000 in
theorem m11_r05_FewReply_c {a0 : GR05Reply} {r : Bool} (h : m11_r05_FewReply a0 = some r) : CallsA Tryd.prog 11 [.agg [.i .i64 a0.Kind, .i .i64 a0.Seq, .i .i64 a0.Code, .i .i64 a0.N, .b a0.Found, .sl a0.Val.length (a0.Val.flatMap eU8), .sl a0.List.length (a0.List.flatMap eGApiKV)]] (· = .s (.one (.b r))) := by
  unfold m11_r05_FewReply at h
  refine callsA_of Tryd.func11 rfl (nt := 39) rfl (Nat.le_of_ble_eq_true rfl) ?_
  intro w0 S0
  refine cseq ?_
  refine cregion ?_
  refine sbox rfl rfl ?_
  refine sv rfl (opv_as rfl) ?_
  refine snil ?_
  refine cseq ?_
  refine cseq ?_
  refine cjoin3 (Unit) (fun b1 => [(1, .s (.one (.lp 0 0)))]) (fun b1 => [.box [.i .i64 a0.Kind, .i .i64 a0.Seq, .i .i64 a0.Code, .i .i64 a0.N, .b a0.Found, .sl a0.Val.length (a0.Val.flatMap eU8), .sl a0.List.length (a0.List.flatMap eGApiKV)]]) (fun b1 => m11_r05_FewReply_k1 a0 b1 = some r) (fun _ _ => inbL_of rfl) (fun _ _ => blkinb_of rfl) (fun _ _ => Nat.le_of_ble_eq_true rfl) (fun b1 h => ?_) ?_
  · unfold m11_r05_FewReply_k1 at h
    refine cseq ?_
    refine cseq ?_
    refine cregion ?_
    refine sv rfl (opv_as rfl) ?_
    refine snil ?_
    refine cjoin (Unit) (fun b2 => []) (fun b2 => [.box [.i .i64 a0.Kind, .i .i64 a0.Seq, .i .i64 a0.Code, .i .i64 a0.N, .b a0.Found, .sl a0.Val.length (a0.Val.flatMap eU8), .sl a0.List.length (a0.List.flatMap eGApiKV)]]) (fun b2 => m11_r05_FewReply_k2 b2 = some r) (fun _ _ => inbL_of rfl) (fun _ _ => blkinb_of rfl) (fun _ _ => Nat.le_of_ble_eq_true rfl) (fun b2 h => ?_) ?_
    · unfold m11_r05_FewReply_k2 at h
      refine cseq ?_
      refine cregion ?_
      refine sv rfl (opv_as rfl) ?_
      refine snil ?_
      refine cret ?_
      obtain rfl := Option.some.inj h
      refine ⟨Or.inr rfl, _, _, _, (resVs_cons (ResV.tmp _ _ rfl) resVs_nil), (pubA_id rfl), ?_⟩
      rfl
    · skip
      refine cblock ?_
      obtain ⟨x3, hx3, ho3⟩ := bind_eq h
      refine awc_loop (G := Nat × (Int)) (fun g => [(1, .s (.one (.lp 0 0))), (3, .s (.one (.i .i64 g.2)))]) (fun g => [.box [.i .i64 a0.Kind, .i .i64 a0.Seq, .i .i64 a0.Code, .i .i64 a0.N, .b a0.Found, .sl a0.Val.length (a0.Val.flatMap eU8), .sl a0.List.length (a0.List.flatMap eGApiKV)]]) (fun g => iter (m11_r05_FewReply_s3 a0) g.1 g.2 = some x3) (fun g => g.1) (fuel, 0) hx3 ⟨rfl, rfl, trivial⟩ [] rfl (fun _ _ => inbL_of rfl) (fun _ _ => blkinb_of rfl) (fun _ _ => Nat.le_of_ble_eq_true rfl) ?_
      clear hx3 h
      rintro ⟨n3, s3⟩ h
      obtain ⟨n3, y3, rfl, h, hk3⟩ := iter_eq h
      unfold m11_r05_FewReply_s3 at h
      refine cseq ?_
      refine cseq ?_
      refine cregion ?_
      refine sv rfl (opv_mv rfl) ?_
      refine sv rfl (opv_fieldAddr_lp fi37_6 rfl) ?_
      refine sv rfl (opv_load1 ti35 rfl (.lp _ _ _ rfl) rfl) ?_
      refine sv rfl (opv_len_sl si35 rfl) ?_
      refine sv rfl (opv_lss rfl rfl) ?_
      refine snil ?_
      refine ccond rfl (fun hc => ?_) (fun hc => ?_)
      · replace h := ite_t hc h
        clear hc
        refine cskip ?_
        refine then_normal ?_
        refine cseq ?_
        refine cblock ?_
        refine cseq ?_
        refine cregion ?_
        refine sv rfl (opv_fieldAddr_lp fi37_6 rfl) ?_
        refine sv rfl (opv_load1 ti35 rfl (.lp _ _ _ rfl) rfl) ?_
        refine sv rfl (opv_mv rfl) ?_
        obtain ⟨u4, hu4, h⟩ := bind_eq h
        refine sv rfl (opv_ix (f := eGApiKV) si35 (fun _ => rfl) rfl rfl rfl rfl hu4) ?_
        refine sv rfl (opv_fieldAddr_cp fi83_0 rfl) ?_
        refine sv rfl (opv_load1 ti29 rfl (.cp _) rfl) ?_
        refine sv rfl (opv_len_sl si29 rfl) ?_
        refine sv rfl (opv_gtr rfl rfl) ?_
        refine sv rfl (opv_mv rfl) ?_
        refine ssplit 29 rfl (fun hc => ?_) (fun hc => ?_)
        · replace h := ite_t hc h
          clear hc
          refine soff rfl rfl rfl rfl ?_
          refine soff rfl rfl rfl rfl ?_
          refine soff rfl rfl rfl rfl ?_
          refine soff rfl rfl rfl rfl ?_
          refine soff rfl rfl rfl rfl ?_
          refine soff rfl rfl rfl rfl ?_
          refine soff rfl rfl rfl rfl ?_
          refine soff rfl rfl rfl rfl ?_
          refine sv rfl (opv_pick_t rfl rfl) ?_
          refine snil ?_
          refine ccond rfl (fun _ => ?_) (fun hx => Bool.noConfusion hx)
          refine cseq ?_
          refine cregion ?_
          refine sv rfl (opv_as rfl) ?_
          refine snil ?_
          refine cret ?_
          refine block_ret ?_
          refine then_ret ?_
          refine then_ret ?_
          refine block_ret ?_
          refine then_ret ?_
          obtain rfl := Option.some.inj h
          obtain rfl : Sum.inl _ = x3 := hk3
          replace ho3 : some _ = some _ := ho3
          obtain rfl := Option.some.inj ho3
          refine ⟨Or.inr rfl, _, _, _, (resVs_cons (ResV.tmp _ _ rfl) resVs_nil), (pubA_id rfl), ?_⟩
          rfl
        · replace h := ite_f hc h
          clear hc
          refine son rfl rfl rfl ?_
          refine sv rfl (opv_fieldAddr_lp fi37_6 rfl) ?_
          refine son rfl rfl rfl ?_
          refine sv rfl (opv_load1 ti35 rfl (.lp _ _ _ rfl) rfl) ?_
          refine son rfl rfl rfl ?_
          refine sv rfl (opv_mv rfl) ?_
          refine son rfl rfl rfl ?_
          obtain ⟨u5, hu5, h⟩ := bind_eq h
          refine sv rfl (opv_ix (f := eGApiKV) si35 (fun _ => rfl) rfl rfl rfl rfl hu5) ?_
          refine son rfl rfl rfl ?_
          refine sv rfl (opv_fieldAddr_cp fi83_1 rfl) ?_
          refine son rfl rfl rfl ?_
          refine sv rfl (opv_load1 ti29 rfl (.cp _) rfl) ?_
          refine son rfl rfl rfl ?_
          refine sv rfl (opv_len_sl si29 rfl) ?_
          refine son rfl rfl rfl ?_
          refine sv rfl (opv_gtr rfl rfl) ?_
          refine sv rfl (opv_pick_f rfl rfl) ?_
          refine snil ?_
          refine ccond rfl (fun hc => ?_) (fun hc => ?_)
          · replace h := ite_t hc h
            clear hc
            refine cseq ?_
            refine cregion ?_
            refine sv rfl (opv_as rfl) ?_
            refine snil ?_
            refine cret ?_
            refine block_ret ?_
            refine then_ret ?_
            refine then_ret ?_
            refine block_ret ?_
            refine then_ret ?_
            obtain rfl := Option.some.inj h
            obtain rfl : Sum.inl _ = x3 := hk3
            replace ho3 : some _ = some _ := ho3
            obtain rfl := Option.some.inj ho3
            refine ⟨Or.inr rfl, _, _, _, (resVs_cons (ResV.tmp _ _ rfl) resVs_nil), (pubA_id rfl), ?_⟩
            rfl
          · replace h := ite_f hc h
            clear hc
            refine cskip ?_
            refine block_normal ?_
            refine then_normal ?_
            refine cregion ?_
            refine sv rfl (opv_mv rfl) ?_
            refine sv rfl (opv_add rfl rfl) ?_
            refine sv rfl (opv_as rfl) ?_
            refine snil ?_
            obtain rfl := Option.some.inj h
            exact ⟨(n3, (wI (s3 + 1))), _, hk3, ⟨rfl, rfl, trivial⟩, rfl, Nat.lt_succ_self _⟩
      · replace h := ite_f hc h
        clear hc
        refine cexit ?_
        refine then_exit ?_
        refine then_exit ?_
        refine block_hit ?_
        refine then_normal ?_
        obtain rfl := Option.some.inj h
        obtain rfl : _ = x3 := hk3
        exact ⟨(), _, ho3, trivial, rfl⟩
  · skip
    refine cregion ?_
    refine sv rfl (opv_fieldAddr_lp fi37_5 rfl) ?_
    refine sv rfl (opv_load1 ti29 rfl (.lp _ _ _ rfl) rfl) ?_
    refine sv rfl (opv_len_sl si29 rfl) ?_
    refine sv rfl (opv_gtr rfl rfl) ?_
    refine sv rfl (opv_mv rfl) ?_
    refine ssplit 8 rfl (fun hc => ?_) (fun hc => ?_)
    · replace h := ite_t hc h
      clear hc
      refine soff rfl rfl rfl rfl ?_
      refine soff rfl rfl rfl rfl ?_
      refine soff rfl rfl rfl rfl ?_
      refine soff rfl rfl rfl rfl ?_
      refine sv rfl (opv_pick_t rfl rfl) ?_
      refine snil ?_
      refine ccond rfl (fun _ => ?_) (fun hx => Bool.noConfusion hx)
      refine cseq ?_
      refine cregion ?_
      refine sv rfl (opv_as rfl) ?_
      refine snil ?_
      refine cret ?_
      refine then_ret ?_
      obtain rfl := Option.some.inj h
      refine ⟨Or.inr rfl, _, _, _, (resVs_cons (ResV.tmp _ _ rfl) resVs_nil), (pubA_id rfl), ?_⟩
      rfl
    · replace h := ite_f hc h
      clear hc
      refine son rfl rfl rfl ?_
      refine sv rfl (opv_fieldAddr_lp fi37_6 rfl) ?_
      refine son rfl rfl rfl ?_
      refine sv rfl (opv_load1 ti35 rfl (.lp _ _ _ rfl) rfl) ?_
      refine son rfl rfl rfl ?_
      refine sv rfl (opv_len_sl si35 rfl) ?_
      refine son rfl rfl rfl ?_
      refine sv rfl (opv_gtr rfl rfl) ?_
      refine sv rfl (opv_pick_f rfl rfl) ?_
      refine snil ?_
      refine ccond rfl (fun hc => ?_) (fun hc => ?_)
      · replace h := ite_t hc h
        clear hc
        refine cseq ?_
        refine cregion ?_
        refine sv rfl (opv_as rfl) ?_
        refine snil ?_
        refine cret ?_
        refine then_ret ?_
        obtain rfl := Option.some.inj h
        refine ⟨Or.inr rfl, _, _, _, (resVs_cons (ResV.tmp _ _ rfl) resVs_nil), (pubA_id rfl), ?_⟩
        rfl
      · replace h := ite_f hc h
        clear hc
        refine cskip ?_
        refine then_normal ?_
        exact ⟨(), _, h, ⟨rfl, trivial⟩, rfl⟩

def m10_r05_Few (a0 : GR05Req) : Option Bool :=
  if (decide ((a0.Key.length : Int) ≤ 100)) then (if (decide ((a0.Val.length : Int) ≤ 100)) then (if (decide ((a0.Rng.Lo.length : Int) ≤ 100)) then (some (decide ((a0.Rng.Hi.length : Int) ≤ 100))) else (some false)) else (some false)) else (some false)

set_option maxRecDepth 100000 in
theorem m10_r05_Few_c {a0 : GR05Req} {r : Bool} (h : m10_r05_Few a0 = some r) : CallsA Tryd.prog 10 [.agg [.i .i64 a0.Kind, .i .i64 a0.Seq, .i .i64 a0.Token, .i .i64 a0.Attempt, .b a0.RO, .sl a0.Key.length (a0.Key.flatMap eU8), .sl a0.Val.length (a0.Val.flatMap eU8), .sl a0.Rng.Lo.length (a0.Rng.Lo.flatMap eU8), .sl a0.Rng.Hi.length (a0.Rng.Hi.flatMap eU8), .b a0.Rng.Open]] (· = .s (.one (.b r))) := by
  unfold m10_r05_Few at h
  refine callsA_of Tryd.func10 rfl (nt := 27) rfl (Nat.le_of_ble_eq_true rfl) ?_
  intro w0 S0
  refine cseq ?_
  refine cregion ?_
  refine sbox rfl rfl ?_
  refine sv rfl (opv_as rfl) ?_
  refine snil ?_
  refine cseq ?_
  refine cregion ?_
  refine sv rfl (opv_fieldAddr_lp fi33_5 rfl) ?_
  refine sv rfl (opv_load1 ti29 rfl (.lp _ _ _ rfl) rfl) ?_
  refine sv rfl (opv_len_sl si29 rfl) ?_
  refine sv rfl (opv_leq rfl rfl) ?_
  refine sv rfl (opv_mv rfl) ?_
  refine ssplit 7 rfl (fun hc => ?_) (fun hc => ?_)
  · replace h := ite_t hc h
    clear hc
    refine son rfl rfl rfl ?_
    refine sv rfl (opv_fieldAddr_lp fi33_6 rfl) ?_
    refine son rfl rfl rfl ?_
    refine sv rfl (opv_load1 ti29 rfl (.lp _ _ _ rfl) rfl) ?_
    refine son rfl rfl rfl ?_
    refine sv rfl (opv_len_sl si29 rfl) ?_
    refine son rfl rfl rfl ?_
    refine sv rfl (opv_leq rfl rfl) ?_
    refine sv rfl (opv_pick_t rfl rfl) ?_
    refine sv rfl (opv_mv rfl) ?_
    refine ssplit 13 rfl (fun hc => ?_) (fun hc => ?_)
    · replace h := ite_t hc h
      clear hc
      refine son rfl rfl rfl ?_
      refine sv rfl (opv_fieldAddr_lp fi33_7 rfl) ?_
      refine son rfl rfl rfl ?_
      refine sv rfl (opv_fieldAddr_lp fi31_0 rfl) ?_
      refine son rfl rfl rfl ?_
      refine sv rfl (opv_load1 ti29 rfl (.lp _ _ _ rfl) rfl) ?_
      refine son rfl rfl rfl ?_
      refine sv rfl (opv_len_sl si29 rfl) ?_
      refine son rfl rfl rfl ?_
      refine sv rfl (opv_leq rfl rfl) ?_
      refine sv rfl (opv_pick_t rfl rfl) ?_
      refine sv rfl (opv_mv rfl) ?_
      refine ssplit 20 rfl (fun hc => ?_) (fun hc => ?_)
      · replace h := ite_t hc h
        clear hc
        refine son rfl rfl rfl ?_
        refine sv rfl (opv_fieldAddr_lp fi33_7 rfl) ?_
        refine son rfl rfl rfl ?_
        refine sv rfl (opv_fieldAddr_lp fi31_1 rfl) ?_
        refine son rfl rfl rfl ?_
        refine sv rfl (opv_load1 ti29 rfl (.lp _ _ _ rfl) rfl) ?_
        refine son rfl rfl rfl ?_
        refine sv rfl (opv_len_sl si29 rfl) ?_
        refine son rfl rfl rfl ?_
        refine sv rfl (opv_leq rfl rfl) ?_
        refine sv rfl (opv_pick_t rfl rfl) ?_
        refine sv rfl (opv_as rfl) ?_
        refine snil ?_
        refine cret ?_
        obtain rfl := Option.some.inj h
        refine ⟨Or.inr rfl, _, _, _, (resVs_cons (ResV.tmp _ _ rfl) resVs_nil), (pubA_id rfl), ?_⟩
        rfl
      · replace h := ite_f hc h
        clear hc
        refine soff rfl rfl rfl rfl ?_
        refine soff rfl rfl rfl rfl ?_
        refine soff rfl rfl rfl rfl ?_
        refine soff rfl rfl rfl rfl ?_
        refine soff rfl rfl rfl rfl ?_
        refine sv rfl (opv_pick_f rfl rfl) ?_
        refine sv rfl (opv_as rfl) ?_
        refine snil ?_
        refine cret ?_
        obtain rfl := Option.some.inj h
        refine ⟨Or.inr rfl, _, _, _, (resVs_cons (ResV.tmp _ _ rfl) resVs_nil), (pubA_id rfl), ?_⟩
        rfl
    · replace h := ite_f hc h
      clear hc
      refine soff rfl rfl rfl rfl ?_
      refine soff rfl rfl rfl rfl ?_
      refine soff rfl rfl rfl rfl ?_
      refine soff rfl rfl rfl rfl ?_
      refine soff rfl rfl rfl rfl ?_
      refine sv rfl (opv_pick_f rfl rfl) ?_
      refine sv rfl (opv_mv rfl) ?_
      refine soff rfl rfl rfl rfl ?_
      refine soff rfl rfl rfl rfl ?_
      refine soff rfl rfl rfl rfl ?_
      refine soff rfl rfl rfl rfl ?_
      refine soff rfl rfl rfl rfl ?_
      refine sv rfl (opv_pick_f rfl rfl) ?_
      refine sv rfl (opv_as rfl) ?_
      refine snil ?_
      refine cret ?_
      obtain rfl := Option.some.inj h
      refine ⟨Or.inr rfl, _, _, _, (resVs_cons (ResV.tmp _ _ rfl) resVs_nil), (pubA_id rfl), ?_⟩
      rfl
  · replace h := ite_f hc h
    clear hc
    refine soff rfl rfl rfl rfl ?_
    refine soff rfl rfl rfl rfl ?_
    refine soff rfl rfl rfl rfl ?_
    refine soff rfl rfl rfl rfl ?_
    refine sv rfl (opv_pick_f rfl rfl) ?_
    refine sv rfl (opv_mv rfl) ?_
    refine soff rfl rfl rfl rfl ?_
    refine soff rfl rfl rfl rfl ?_
    refine soff rfl rfl rfl rfl ?_
    refine soff rfl rfl rfl rfl ?_
    refine soff rfl rfl rfl rfl ?_
    refine sv rfl (opv_pick_f rfl rfl) ?_
    refine sv rfl (opv_mv rfl) ?_
    refine soff rfl rfl rfl rfl ?_
    refine soff rfl rfl rfl rfl ?_
    refine soff rfl rfl rfl rfl ?_
    refine soff rfl rfl rfl rfl ?_
    refine soff rfl rfl rfl rfl ?_
    refine sv rfl (opv_pick_f rfl rfl) ?_
    refine sv rfl (opv_as rfl) ?_
    refine snil ?_
    refine cret ?_
    obtain rfl := Option.some.inj h
    refine ⟨Or.inr rfl, _, _, _, (resVs_cons (ResV.tmp _ _ rfl) resVs_nil), (pubA_id rfl), ?_⟩
    rfl

def m14_l16_req (a0 : GR05Req) : Option GMsgReq :=
  some (GMsgReq.mk a0.Kind a0.Seq a0.Token a0.Attempt a0.RO a0.Key a0.Val (GApiRange.mk a0.Rng.Lo a0.Rng.Hi a0.Rng.Open))

set_option maxRecDepth 100000 in
theorem m14_l16_req_c {a0 : GR05Req} {r : GMsgReq} (h : m14_l16_req a0 = some r) : CallsA Tryd.prog 14 [.agg [.i .i64 a0.Kind, .i .i64 a0.Seq, .i .i64 a0.Token, .i .i64 a0.Attempt, .b a0.RO, .sl a0.Key.length (a0.Key.flatMap eU8), .sl a0.Val.length (a0.Val.flatMap eU8), .sl a0.Rng.Lo.length (a0.Rng.Lo.flatMap eU8), .sl a0.Rng.Hi.length (a0.Rng.Hi.flatMap eU8), .b a0.Rng.Open]] (· = .s (.agg [.i .i64 r.Kind, .i .i64 r.Seq, .i .i64 r.Token, .i .i64 r.Attempt, .b r.RO, .sl r.Key.length (r.Key.flatMap eU8), .sl r.Val.length (r.Val.flatMap eU8), .sl r.Rng.Lo.length (r.Rng.Lo.flatMap eU8), .sl r.Rng.Hi.length (r.Rng.Hi.flatMap eU8), .b r.Rng.Open])) := by
  unfold m14_l16_req at h
  refine callsA_of Tryd.func14 rfl (nt := 20) rfl (Nat.le_of_ble_eq_true rfl) ?_
  intro w0 S0
  refine cseq ?_
  refine cregion ?_
  refine sbox rfl rfl ?_
  refine salloc rfl zi51 ?_
  refine snil ?_
  refine cseq ?_
  refine cregion ?_
  refine sv rfl (opv_fieldAddr_lp fi33_0 rfl) ?_
  refine sv rfl (opv_load1 ti3 rfl (.lp _ _ _ rfl) rfl) ?_
  refine sv rfl (opv_fieldAddr_lp fi33_1 rfl) ?_
  refine sv rfl (opv_load1 ti3 rfl (.lp _ _ _ rfl) rfl) ?_
  refine sv rfl (opv_fieldAddr_lp fi33_2 rfl) ?_
  refine sv rfl (opv_load1 ti3 rfl (.lp _ _ _ rfl) rfl) ?_
  refine sv rfl (opv_fieldAddr_lp fi33_3 rfl) ?_
  refine sv rfl (opv_load1 ti3 rfl (.lp _ _ _ rfl) rfl) ?_
  refine sv rfl (opv_fieldAddr_lp fi33_4 rfl) ?_
  refine sv rfl (opv_load1 ti4 rfl (.lp _ _ _ rfl) rfl) ?_
  refine sv rfl (opv_fieldAddr_lp fi33_5 rfl) ?_
  refine sv rfl (opv_load1 ti29 rfl (.lp _ _ _ rfl) rfl) ?_
  refine sv rfl (opv_fieldAddr_lp fi33_6 rfl) ?_
  refine sv rfl (opv_load1 ti29 rfl (.lp _ _ _ rfl) rfl) ?_
  refine sv rfl (opv_fieldAddr_lp fi33_7 rfl) ?_
  refine sv rfl (opv_loadN ti31 rfl (.lp _ _ _ rfl) (Nat.le_of_ble_eq_true rfl)) ?_
  refine sv rfl (opv_build zi51 pi51 (parts_cons rfl (parts_cons rfl (parts_cons rfl (parts_cons rfl (parts_cons rfl (parts_cons rfl (parts_cons rfl (parts_cons rfl parts_nil)))))))) (bcons [.i .i64 a0.Kind, .i .i64 0, .i .i64 0, .i .i64 0, .b false, .raw (.slice none 0 0), .raw (.slice none 0 0), .raw (.slice none 0 0), .raw (.slice none 0 0), .b false] rfl rfl (Nat.le_of_ble_eq_true rfl) rfl (bcons [.i .i64 a0.Kind, .i .i64 a0.Seq, .i .i64 0, .i .i64 0, .b false, .raw (.slice none 0 0), .raw (.slice none 0 0), .raw (.slice none 0 0), .raw (.slice none 0 0), .b false] rfl rfl (Nat.le_of_ble_eq_true rfl) rfl (bcons [.i .i64 a0.Kind, .i .i64 a0.Seq, .i .i64 a0.Token, .i .i64 0, .b false, .raw (.slice none 0 0), .raw (.slice none 0 0), .raw (.slice none 0 0), .raw (.slice none 0 0), .b false] rfl rfl (Nat.le_of_ble_eq_true rfl) rfl (bcons [.i .i64 a0.Kind, .i .i64 a0.Seq, .i .i64 a0.Token, .i .i64 a0.Attempt, .b false, .raw (.slice none 0 0), .raw (.slice none 0 0), .raw (.slice none 0 0), .raw (.slice none 0 0), .b false] rfl rfl (Nat.le_of_ble_eq_true rfl) rfl (bcons [.i .i64 a0.Kind, .i .i64 a0.Seq, .i .i64 a0.Token, .i .i64 a0.Attempt, .b a0.RO, .raw (.slice none 0 0), .raw (.slice none 0 0), .raw (.slice none 0 0), .raw (.slice none 0 0), .b false] rfl rfl (Nat.le_of_ble_eq_true rfl) rfl (bcons [.i .i64 a0.Kind, .i .i64 a0.Seq, .i .i64 a0.Token, .i .i64 a0.Attempt, .b a0.RO, .sl a0.Key.length (a0.Key.flatMap eU8), .raw (.slice none 0 0), .raw (.slice none 0 0), .raw (.slice none 0 0), .b false] rfl rfl (Nat.le_of_ble_eq_true rfl) rfl (bcons [.i .i64 a0.Kind, .i .i64 a0.Seq, .i .i64 a0.Token, .i .i64 a0.Attempt, .b a0.RO, .sl a0.Key.length (a0.Key.flatMap eU8), .sl a0.Val.length (a0.Val.flatMap eU8), .raw (.slice none 0 0), .raw (.slice none 0 0), .b false] rfl rfl (Nat.le_of_ble_eq_true rfl) rfl (bcons [.i .i64 a0.Kind, .i .i64 a0.Seq, .i .i64 a0.Token, .i .i64 a0.Attempt, .b a0.RO, .sl a0.Key.length (a0.Key.flatMap eU8), .sl a0.Val.length (a0.Val.flatMap eU8), .sl a0.Rng.Lo.length (a0.Rng.Lo.flatMap eU8), .sl a0.Rng.Hi.length (a0.Rng.Hi.flatMap eU8), .b a0.Rng.Open] rfl rfl (Nat.le_of_ble_eq_true rfl) rfl (.nil _)))))))))) ?_
  refine sstore sz51 rfl rfl rfl rfl (Nat.le_of_ble_eq_true rfl) ?_
  refine smem [.box [.i .i64 a0.Kind, .i .i64 a0.Seq, .i .i64 a0.Token, .i .i64 a0.Attempt, .b a0.RO, .sl a0.Key.length (a0.Key.flatMap eU8), .sl a0.Val.length (a0.Val.flatMap eU8), .sl a0.Rng.Lo.length (a0.Rng.Lo.flatMap eU8), .sl a0.Rng.Hi.length (a0.Rng.Hi.flatMap eU8), .b a0.Rng.Open], .box [.i .i64 a0.Kind, .i .i64 a0.Seq, .i .i64 a0.Token, .i .i64 a0.Attempt, .b a0.RO, .sl a0.Key.length (a0.Key.flatMap eU8), .sl a0.Val.length (a0.Val.flatMap eU8), .sl a0.Rng.Lo.length (a0.Rng.Lo.flatMap eU8), .sl a0.Rng.Hi.length (a0.Rng.Hi.flatMap eU8), .b a0.Rng.Open]] rfl ?_
  refine snil ?_
  refine cret ?_
  obtain rfl := Option.some.inj h
  refine ⟨Or.inr rfl, _, _, _, (resVs_cons (ResV.agg _ _ _ _ _ ti51 rfl (.lp _ _ _ rfl) (Nat.le_of_ble_eq_true rfl)) resVs_nil), (pubA_id rfl), ?_⟩
  rfl

def m49_r05_token (a0 : Int) : Option Bool :=
  if (decide (a0 = 1)) then (some true) else (if (decide (a0 = 2)) then (some true) else (if (decide (a0 = 9)) then (some true) else (some (decide (a0 = 10)))))

set_option maxRecDepth 100000 in
theorem m49_r05_token_c {a0 : Int} {r : Bool} (h : m49_r05_token a0 = some r) : CallsA Tryd.prog 49 [.one (.i .i64 a0)] (· = .s (.one (.b r))) := by
  unfold m49_r05_token at h
  refine callsA_of Tryd.func49 rfl (nt := 17) rfl (Nat.le_of_ble_eq_true rfl) ?_
  intro w0 S0
  refine cseq ?_
  refine cregion ?_
  refine sv rfl (opv_as rfl) ?_
  refine snil ?_
  refine cseq ?_
  refine cregion ?_
  refine sv rfl (opv_mv rfl) ?_
  refine sv rfl (opv_ieql rfl rfl) ?_
  refine sv rfl (opv_mv rfl) ?_
  refine ssplit 5 rfl (fun hc => ?_) (fun hc => ?_)
  · replace h := ite_t hc h
    clear hc
    refine soff rfl rfl rfl rfl ?_
    refine soff rfl rfl rfl rfl ?_
    refine sv rfl (opv_pick_t rfl rfl) ?_
    refine sv rfl (opv_mv rfl) ?_
    refine soff rfl rfl rfl rfl ?_
    refine soff rfl rfl rfl rfl ?_
    refine sv rfl (opv_pick_t rfl rfl) ?_
    refine sv rfl (opv_mv rfl) ?_
    refine soff rfl rfl rfl rfl ?_
    refine soff rfl rfl rfl rfl ?_
    refine sv rfl (opv_pick_t rfl rfl) ?_
    refine sv rfl (opv_as rfl) ?_
    refine snil ?_
    refine cret ?_
    obtain rfl := Option.some.inj h
    refine ⟨Or.inr rfl, _, _, _, (resVs_cons (ResV.tmp _ _ rfl) resVs_nil), (pubA_id rfl), ?_⟩
    rfl
  · replace h := ite_f hc h
    clear hc
    refine son rfl rfl rfl ?_
    refine sv rfl (opv_mv rfl) ?_
    refine son rfl rfl rfl ?_
    refine sv rfl (opv_ieql rfl rfl) ?_
    refine sv rfl (opv_pick_f rfl rfl) ?_
    refine sv rfl (opv_mv rfl) ?_
    refine ssplit 9 rfl (fun hc => ?_) (fun hc => ?_)
    · replace h := ite_t hc h
      clear hc
      refine soff rfl rfl rfl rfl ?_
      refine soff rfl rfl rfl rfl ?_
      refine sv rfl (opv_pick_t rfl rfl) ?_
      refine sv rfl (opv_mv rfl) ?_
      refine soff rfl rfl rfl rfl ?_
      refine soff rfl rfl rfl rfl ?_
      refine sv rfl (opv_pick_t rfl rfl) ?_
      refine sv rfl (opv_as rfl) ?_
      refine snil ?_
      refine cret ?_
      obtain rfl := Option.some.inj h
      refine ⟨Or.inr rfl, _, _, _, (resVs_cons (ResV.tmp _ _ rfl) resVs_nil), (pubA_id rfl), ?_⟩
      rfl
    · replace h := ite_f hc h
      clear hc
      refine son rfl rfl rfl ?_
      refine sv rfl (opv_mv rfl) ?_
      refine son rfl rfl rfl ?_
      refine sv rfl (opv_ieql rfl rfl) ?_
      refine sv rfl (opv_pick_f rfl rfl) ?_
      refine sv rfl (opv_mv rfl) ?_
      refine ssplit 13 rfl (fun hc => ?_) (fun hc => ?_)
      · replace h := ite_t hc h
        clear hc
        refine soff rfl rfl rfl rfl ?_
        refine soff rfl rfl rfl rfl ?_
        refine sv rfl (opv_pick_t rfl rfl) ?_
        refine sv rfl (opv_as rfl) ?_
        refine snil ?_
        refine cret ?_
        obtain rfl := Option.some.inj h
        refine ⟨Or.inr rfl, _, _, _, (resVs_cons (ResV.tmp _ _ rfl) resVs_nil), (pubA_id rfl), ?_⟩
        rfl
      · replace h := ite_f hc h
        clear hc
        refine son rfl rfl rfl ?_
        refine sv rfl (opv_mv rfl) ?_
        refine son rfl rfl rfl ?_
        refine sv rfl (opv_ieql rfl rfl) ?_
        refine sv rfl (opv_pick_f rfl rfl) ?_
        refine sv rfl (opv_as rfl) ?_
        refine snil ?_
        refine cret ?_
        obtain rfl := Option.some.inj h
        refine ⟨Or.inr rfl, _, _, _, (resVs_cons (ResV.tmp _ _ rfl) resVs_nil), (pubA_id rfl), ?_⟩
        rfl

def m50_r05_attempt (a0 : Int) : Option Bool :=
  if (decide (a0 = 1)) then (some true) else (if (decide (a0 = 2)) then (some true) else (some (decide (a0 = 9))))

set_option maxRecDepth 100000 in
theorem m50_r05_attempt_c {a0 : Int} {r : Bool} (h : m50_r05_attempt a0 = some r) : CallsA Tryd.prog 50 [.one (.i .i64 a0)] (· = .s (.one (.b r))) := by
  unfold m50_r05_attempt at h
  refine callsA_of Tryd.func50 rfl (nt := 13) rfl (Nat.le_of_ble_eq_true rfl) ?_
  intro w0 S0
  refine cseq ?_
  refine cregion ?_
  refine sv rfl (opv_as rfl) ?_
  refine snil ?_
  refine cseq ?_
  refine cregion ?_
  refine sv rfl (opv_mv rfl) ?_
  refine sv rfl (opv_ieql rfl rfl) ?_
  refine sv rfl (opv_mv rfl) ?_
  refine ssplit 5 rfl (fun hc => ?_) (fun hc => ?_)
  · replace h := ite_t hc h
    clear hc
    refine soff rfl rfl rfl rfl ?_
    refine soff rfl rfl rfl rfl ?_
    refine sv rfl (opv_pick_t rfl rfl) ?_
    refine sv rfl (opv_mv rfl) ?_
    refine soff rfl rfl rfl rfl ?_
    refine soff rfl rfl rfl rfl ?_
    refine sv rfl (opv_pick_t rfl rfl) ?_
    refine sv rfl (opv_as rfl) ?_
    refine snil ?_
    refine cret ?_
    obtain rfl := Option.some.inj h
    refine ⟨Or.inr rfl, _, _, _, (resVs_cons (ResV.tmp _ _ rfl) resVs_nil), (pubA_id rfl), ?_⟩
    rfl
  · replace h := ite_f hc h
    clear hc
    refine son rfl rfl rfl ?_
    refine sv rfl (opv_mv rfl) ?_
    refine son rfl rfl rfl ?_
    refine sv rfl (opv_ieql rfl rfl) ?_
    refine sv rfl (opv_pick_f rfl rfl) ?_
    refine sv rfl (opv_mv rfl) ?_
    refine ssplit 9 rfl (fun hc => ?_) (fun hc => ?_)
    · replace h := ite_t hc h
      clear hc
      refine soff rfl rfl rfl rfl ?_
      refine soff rfl rfl rfl rfl ?_
      refine sv rfl (opv_pick_t rfl rfl) ?_
      refine sv rfl (opv_as rfl) ?_
      refine snil ?_
      refine cret ?_
      obtain rfl := Option.some.inj h
      refine ⟨Or.inr rfl, _, _, _, (resVs_cons (ResV.tmp _ _ rfl) resVs_nil), (pubA_id rfl), ?_⟩
      rfl
    · replace h := ite_f hc h
      clear hc
      refine son rfl rfl rfl ?_
      refine sv rfl (opv_mv rfl) ?_
      refine son rfl rfl rfl ?_
      refine sv rfl (opv_ieql rfl rfl) ?_
      refine sv rfl (opv_pick_f rfl rfl) ?_
      refine sv rfl (opv_as rfl) ?_
      refine snil ?_
      refine cret ?_
      obtain rfl := Option.some.inj h
      refine ⟨Or.inr rfl, _, _, _, (resVs_cons (ResV.tmp _ _ rfl) resVs_nil), (pubA_id rfl), ?_⟩
      rfl

def m51_r05_flag (a0 : Int) : Option Bool :=
  some (decide (a0 = 2))

set_option maxRecDepth 100000 in
theorem m51_r05_flag_c {a0 : Int} {r : Bool} (h : m51_r05_flag a0 = some r) : CallsA Tryd.prog 51 [.one (.i .i64 a0)] (· = .s (.one (.b r))) := by
  unfold m51_r05_flag at h
  refine callsA_of Tryd.func51 rfl (nt := 5) rfl (Nat.le_of_ble_eq_true rfl) ?_
  intro w0 S0
  refine cseq ?_
  refine cregion ?_
  refine sv rfl (opv_as rfl) ?_
  refine snil ?_
  refine cseq ?_
  refine cregion ?_
  refine sv rfl (opv_mv rfl) ?_
  refine sv rfl (opv_ieql rfl rfl) ?_
  refine sv rfl (opv_as rfl) ?_
  refine snil ?_
  refine cret ?_
  obtain rfl := Option.some.inj h
  refine ⟨Or.inr rfl, _, _, _, (resVs_cons (ResV.tmp _ _ rfl) resVs_nil), (pubA_id rfl), ?_⟩
  rfl

def m52_r05_key (a0 : Int) : Option Bool :=
  if (decide (3 ≤ a0)) then (some (decide (a0 ≤ 5))) else (some false)

set_option maxRecDepth 100000 in
theorem m52_r05_key_c {a0 : Int} {r : Bool} (h : m52_r05_key a0 = some r) : CallsA Tryd.prog 52 [.one (.i .i64 a0)] (· = .s (.one (.b r))) := by
  unfold m52_r05_key at h
  refine callsA_of Tryd.func52 rfl (nt := 9) rfl (Nat.le_of_ble_eq_true rfl) ?_
  intro w0 S0
  refine cseq ?_
  refine cregion ?_
  refine sv rfl (opv_as rfl) ?_
  refine snil ?_
  refine cseq ?_
  refine cregion ?_
  refine sv rfl (opv_mv rfl) ?_
  refine sv rfl (opv_geq rfl rfl) ?_
  refine sv rfl (opv_mv rfl) ?_
  refine ssplit 5 rfl (fun hc => ?_) (fun hc => ?_)
  · replace h := ite_t hc h
    clear hc
    refine son rfl rfl rfl ?_
    refine sv rfl (opv_mv rfl) ?_
    refine son rfl rfl rfl ?_
    refine sv rfl (opv_leq rfl rfl) ?_
    refine sv rfl (opv_pick_t rfl rfl) ?_
    refine sv rfl (opv_as rfl) ?_
    refine snil ?_
    refine cret ?_
    obtain rfl := Option.some.inj h
    refine ⟨Or.inr rfl, _, _, _, (resVs_cons (ResV.tmp _ _ rfl) resVs_nil), (pubA_id rfl), ?_⟩
    rfl
  · replace h := ite_f hc h
    clear hc
    refine soff rfl rfl rfl rfl ?_
    refine soff rfl rfl rfl rfl ?_
    refine sv rfl (opv_pick_f rfl rfl) ?_
    refine sv rfl (opv_as rfl) ?_
    refine snil ?_
    refine cret ?_
    obtain rfl := Option.some.inj h
    refine ⟨Or.inr rfl, _, _, _, (resVs_cons (ResV.tmp _ _ rfl) resVs_nil), (pubA_id rfl), ?_⟩
    rfl

def m53_r05_val (a0 : Int) : Option Bool :=
  some (decide (a0 = 4))

set_option maxRecDepth 100000 in
theorem m53_r05_val_c {a0 : Int} {r : Bool} (h : m53_r05_val a0 = some r) : CallsA Tryd.prog 53 [.one (.i .i64 a0)] (· = .s (.one (.b r))) := by
  unfold m53_r05_val at h
  refine callsA_of Tryd.func53 rfl (nt := 5) rfl (Nat.le_of_ble_eq_true rfl) ?_
  intro w0 S0
  refine cseq ?_
  refine cregion ?_
  refine sv rfl (opv_as rfl) ?_
  refine snil ?_
  refine cseq ?_
  refine cregion ?_
  refine sv rfl (opv_mv rfl) ?_
  refine sv rfl (opv_ieql rfl rfl) ?_
  refine sv rfl (opv_as rfl) ?_
  refine snil ?_
  refine cret ?_
  obtain rfl := Option.some.inj h
  refine ⟨Or.inr rfl, _, _, _, (resVs_cons (ResV.tmp _ _ rfl) resVs_nil), (pubA_id rfl), ?_⟩
  rfl

def m54_r05_plain (a0 : GApiRange) : Option Bool :=
  if (decide ((a0.Lo.length : Int) ≤ 16)) then (if (decide ((a0.Hi.length : Int) ≤ 16)) then (if a0.Open then (some (!(decide (0 < (a0.Hi.length : Int))))) else (some true)) else (some false)) else (some false)

set_option maxRecDepth 100000 in
theorem m54_r05_plain_c {a0 : GApiRange} {r : Bool} (h : m54_r05_plain a0 = some r) : CallsA Tryd.prog 54 [.agg [.sl a0.Lo.length (a0.Lo.flatMap eU8), .sl a0.Hi.length (a0.Hi.flatMap eU8), .b a0.Open]] (· = .s (.one (.b r))) := by
  unfold m54_r05_plain at h
  refine callsA_of Tryd.func54 rfl (nt := 24) rfl (Nat.le_of_ble_eq_true rfl) ?_
  intro w0 S0
  refine cseq ?_
  refine cregion ?_
  refine sbox rfl rfl ?_
  refine sv rfl (opv_as rfl) ?_
  refine snil ?_
  refine cseq ?_
  refine cregion ?_
  refine sv rfl (opv_fieldAddr_lp fi31_0 rfl) ?_
  refine sv rfl (opv_load1 ti29 rfl (.lp _ _ _ rfl) rfl) ?_
  refine sv rfl (opv_len_sl si29 rfl) ?_
  refine sv rfl (opv_leq rfl rfl) ?_
  refine sv rfl (opv_mv rfl) ?_
  refine ssplit 7 rfl (fun hc => ?_) (fun hc => ?_)
  · replace h := ite_t hc h
    clear hc
    refine son rfl rfl rfl ?_
    refine sv rfl (opv_fieldAddr_lp fi31_1 rfl) ?_
    refine son rfl rfl rfl ?_
    refine sv rfl (opv_load1 ti29 rfl (.lp _ _ _ rfl) rfl) ?_
    refine son rfl rfl rfl ?_
    refine sv rfl (opv_len_sl si29 rfl) ?_
    refine son rfl rfl rfl ?_
    refine sv rfl (opv_leq rfl rfl) ?_
    refine sv rfl (opv_pick_t rfl rfl) ?_
    refine sv rfl (opv_mv rfl) ?_
    refine ssplit 13 rfl (fun hc => ?_) (fun hc => ?_)
    · replace h := ite_t hc h
      clear hc
      refine son rfl rfl rfl ?_
      refine sv rfl (opv_fieldAddr_lp fi31_2 rfl) ?_
      refine son rfl rfl rfl ?_
      refine sv rfl (opv_load1 ti4 rfl (.lp _ _ _ rfl) rfl) ?_
      refine son rfl rfl rfl ?_
      refine sv rfl (opv_mv rfl) ?_
      refine ssplit 16 rfl (fun hc => ?_) (fun hc => ?_)
      · replace h := ite_t hc h
        clear hc
        refine son rfl rfl rfl ?_
        refine sv rfl (opv_fieldAddr_lp fi31_1 rfl) ?_
        refine son rfl rfl rfl ?_
        refine sv rfl (opv_load1 ti29 rfl (.lp _ _ _ rfl) rfl) ?_
        refine son rfl rfl rfl ?_
        refine sv rfl (opv_len_sl si29 rfl) ?_
        refine son rfl rfl rfl ?_
        refine sv rfl (opv_gtr rfl rfl) ?_
        refine son rfl rfl rfl ?_
        refine sv rfl (opv_pick_t rfl rfl) ?_
        refine son rfl rfl rfl ?_
        refine sv rfl (opv_not rfl) ?_
        refine sv rfl (opv_pick_t rfl rfl) ?_
        refine sv rfl (opv_as rfl) ?_
        refine snil ?_
        refine cret ?_
        obtain rfl := Option.some.inj h
        refine ⟨Or.inr rfl, _, _, _, (resVs_cons (ResV.tmp _ _ rfl) resVs_nil), (pubA_id rfl), ?_⟩
        rfl
      · replace h := ite_f hc h
        clear hc
        refine soff rfl rfl rfl rfl ?_
        refine soff rfl rfl rfl rfl ?_
        refine soff rfl rfl rfl rfl ?_
        refine soff rfl rfl rfl rfl ?_
        refine son rfl rfl rfl ?_
        refine sv rfl (opv_pick_f rfl rfl) ?_
        refine son rfl rfl rfl ?_
        refine sv rfl (opv_not rfl) ?_
        refine sv rfl (opv_pick_t rfl rfl) ?_
        refine sv rfl (opv_as rfl) ?_
        refine snil ?_
        refine cret ?_
        obtain rfl := Option.some.inj h
        refine ⟨Or.inr rfl, _, _, _, (resVs_cons (ResV.tmp _ _ rfl) resVs_nil), (pubA_id rfl), ?_⟩
        rfl
    · replace h := ite_f hc h
      clear hc
      refine soff rfl rfl rfl rfl ?_
      refine soff rfl rfl rfl rfl ?_
      refine soff rfl rfl rfl rfl ?_
      refine soffu rfl rfl rfl ?_
      refine soffu rfl rfl rfl ?_
      refine soffu rfl rfl rfl ?_
      refine soffu rfl rfl rfl ?_
      refine soff rfl rfl rfl rfl ?_
      refine soff rfl rfl rfl rfl ?_
      refine sv rfl (opv_pick_f rfl rfl) ?_
      refine sv rfl (opv_as rfl) ?_
      refine snil ?_
      refine cret ?_
      obtain rfl := Option.some.inj h
      refine ⟨Or.inr rfl, _, _, _, (resVs_cons (ResV.tmp _ _ rfl) resVs_nil), (pubA_id rfl), ?_⟩
      rfl
  · replace h := ite_f hc h
    clear hc
    refine soff rfl rfl rfl rfl ?_
    refine soff rfl rfl rfl rfl ?_
    refine soff rfl rfl rfl rfl ?_
    refine soff rfl rfl rfl rfl ?_
    refine sv rfl (opv_pick_f rfl rfl) ?_
    refine sv rfl (opv_mv rfl) ?_
    refine soff rfl rfl rfl rfl ?_
    refine soff rfl rfl rfl rfl ?_
    refine soff rfl rfl rfl rfl ?_
    refine soffu rfl rfl rfl ?_
    refine soffu rfl rfl rfl ?_
    refine soffu rfl rfl rfl ?_
    refine soffu rfl rfl rfl ?_
    refine soff rfl rfl rfl rfl ?_
    refine soff rfl rfl rfl rfl ?_
    refine sv rfl (opv_pick_f rfl rfl) ?_
    refine sv rfl (opv_as rfl) ?_
    refine snil ?_
    refine cret ?_
    obtain rfl := Option.some.inj h
    refine ⟨Or.inr rfl, _, _, _, (resVs_cons (ResV.tmp _ _ rfl) resVs_nil), (pubA_id rfl), ?_⟩
    rfl

def m55_r05_rng (a0 : Int) : Option Bool :=
  some (decide (a0 = 6))

set_option maxRecDepth 100000 in
theorem m55_r05_rng_c {a0 : Int} {r : Bool} (h : m55_r05_rng a0 = some r) : CallsA Tryd.prog 55 [.one (.i .i64 a0)] (· = .s (.one (.b r))) := by
  unfold m55_r05_rng at h
  refine callsA_of Tryd.func55 rfl (nt := 5) rfl (Nat.le_of_ble_eq_true rfl) ?_
  intro w0 S0
  refine cseq ?_
  refine cregion ?_
  refine sv rfl (opv_as rfl) ?_
  refine snil ?_
  refine cseq ?_
  refine cregion ?_
  refine sv rfl (opv_mv rfl) ?_
  refine sv rfl (opv_ieql rfl rfl) ?_
  refine sv rfl (opv_as rfl) ?_
  refine snil ?_
  refine cret ?_
  obtain rfl := Option.some.inj h
  refine ⟨Or.inr rfl, _, _, _, (resVs_cons (ResV.tmp _ _ rfl) resVs_nil), (pubA_id rfl), ?_⟩
  rfl

def m31_r05_SaneReq_k3 (a0 : GR05Req) (b3 : Unit) : Option Bool :=
  (m54_r05_plain (GApiRange.mk a0.Rng.Lo a0.Rng.Hi a0.Rng.Open)).bind fun v4 => if v4 then ((m55_r05_rng a0.Kind).bind fun v5 => if v5 then (some true) else (if (decide ((a0.Rng.Lo.length : Int) = 0)) then (if (decide ((a0.Rng.Hi.length : Int) = 0)) then (some (!a0.Rng.Open)) else (some false)) else (some false))) else (some false)

def m31_r05_SaneReq_k2 (a0 : GR05Req) (b2 : Unit) : Option Bool :=
  (m52_r05_key a0.Kind).bind fun v6 => if v6 then (if (decide ((a0.Key.length : Int) < 1)) then (some false) else (if (decide (16 < (a0.Key.length : Int))) then (some false) else ((m52_r05_key a0.Kind).bind fun v7 => if (!v7) then (if (decide (0 < (a0.Key.length : Int))) then (some false) else (if (decide (32 < (a0.Val.length : Int))) then (some false) else ((m53_r05_val a0.Kind).bind fun v8 => if (!v8) then (if (decide (0 < (a0.Val.length : Int))) then (some false) else (m31_r05_SaneReq_k3 a0 ())) else (m31_r05_SaneReq_k3 a0 ())))) else (if (decide (32 < (a0.Val.length : Int))) then (some false) else ((m53_r05_val a0.Kind).bind fun v9 => if (!v9) then (if (decide (0 < (a0.Val.length : Int))) then (some false) else (m31_r05_SaneReq_k3 a0 ())) else (m31_r05_SaneReq_k3 a0 ())))))) else ((m52_r05_key a0.Kind).bind fun v10 => if (!v10) then (if (decide (0 < (a0.Key.length : Int))) then (some false) else (if (decide (32 < (a0.Val.length : Int))) then (some false) else ((m53_r05_val a0.Kind).bind fun v11 => if (!v11) then (if (decide (0 < (a0.Val.length : Int))) then (some false) else (m31_r05_SaneReq_k3 a0 ())) else (m31_r05_SaneReq_k3 a0 ())))) else (if (decide (32 < (a0.Val.length : Int))) then (some false) else ((m53_r05_val a0.Kind).bind fun v12 => if (!v12) then (if (decide (0 < (a0.Val.length : Int))) then (some false) else (m31_r05_SaneReq_k3 a0 ())) else (m31_r05_SaneReq_k3 a0 ()))))

def m31_r05_SaneReq_k1 (a0 : GR05Req) (b1 : Unit) : Option Bool :=
  (m49_r05_token a0.Kind).bind fun v13 => if (!v13) then (if (!decide (a0.Token = 0)) then (some false) else ((m50_r05_attempt a0.Kind).bind fun v14 => if (!v14) then (if (!decide (a0.Attempt = 0)) then (some false) else ((m51_r05_flag a0.Kind).bind fun v15 => if (!v15) then (if a0.RO then (some false) else (m31_r05_SaneReq_k2 a0 ())) else (m31_r05_SaneReq_k2 a0 ()))) else ((m51_r05_flag a0.Kind).bind fun v16 => if (!v16) then (if a0.RO then (some false) else (m31_r05_SaneReq_k2 a0 ())) else (m31_r05_SaneReq_k2 a0 ())))) else ((m50_r05_attempt a0.Kind).bind fun v17 => if (!v17) then (if (!decide (a0.Attempt = 0)) then (some false) else ((m51_r05_flag a0.Kind).bind fun v18 => if (!v18) then (if a0.RO then (some false) else (m31_r05_SaneReq_k2 a0 ())) else (m31_r05_SaneReq_k2 a0 ()))) else ((m51_r05_flag a0.Kind).bind fun v19 => if (!v19) then (if a0.RO then (some false) else (m31_r05_SaneReq_k2 a0 ())) else (m31_r05_SaneReq_k2 a0 ())))
def m31_r05_SaneReq (a0 : GR05Req) : Option Bool :=
  if (decide (a0.Kind < 1)) then (some false) else (if (decide (11 < a0.Kind)) then (some false) else (if (decide (a0.Seq < 0)) then (some false) else (if (decide (4294967295 < a0.Seq)) then (some false) else (if (decide (a0.Token < 0)) then (some false) else (if (decide (1099511627776 < a0.Token)) then (some false) else (if (decide (a0.Attempt < 0)) then (some false) else (if (decide (65535 < a0.Attempt)) then (some false) else (m31_r05_SaneReq_k1 a0 ()))))))))

set_option maxRecDepth 100000 in
theorem m31_r05_SaneReq_c {a0 : GR05Req} {r : Bool} (h : m31_r05_SaneReq a0 = some r) : CallsA Tryd.prog 31 [.agg [.i .i64 a0.Kind, .i .i64 a0.Seq, .i .i64 a0.Token, .i .i64 a0.Attempt, .b a0.RO, .sl a0.Key.length (a0.Key.flatMap eU8), .sl a0.Val.length (a0.Val.flatMap eU8), .sl a0.Rng.Lo.length (a0.Rng.Lo.flatMap eU8), .sl a0.Rng.Hi.length (a0.Rng.Hi.flatMap eU8), .b a0.Rng.Open]] (· = .s (.one (.b r))) := by
  unfold m31_r05_SaneReq at h
  refine callsA_of Tryd.func31 rfl (nt := 138) rfl (Nat.le_of_ble_eq_true rfl) ?_
  intro w0 S0
  refine cseq ?_
  refine cregion ?_
  refine sbox rfl rfl ?_
  refine sv rfl (opv_as rfl) ?_
  refine snil ?_
  refine cseq ?_
  refine cregion ?_
  refine sv rfl (opv_fieldAddr_lp fi33_0 rfl) ?_
  refine sv rfl (opv_load1 ti3 rfl (.lp _ _ _ rfl) rfl) ?_
  refine sv rfl (opv_as rfl) ?_
  refine snil ?_
  refine cseq ?_
  refine cseq ?_
  refine cjoin3 (Unit) (fun b1 => [(1, .s (.one (.lp 0 0))), (3, .s (.one (.i .i64 a0.Kind)))]) (fun b1 => [.box [.i .i64 a0.Kind, .i .i64 a0.Seq, .i .i64 a0.Token, .i .i64 a0.Attempt, .b a0.RO, .sl a0.Key.length (a0.Key.flatMap eU8), .sl a0.Val.length (a0.Val.flatMap eU8), .sl a0.Rng.Lo.length (a0.Rng.Lo.flatMap eU8), .sl a0.Rng.Hi.length (a0.Rng.Hi.flatMap eU8), .b a0.Rng.Open]]) (fun b1 => m31_r05_SaneReq_k1 a0 b1 = some r) (fun _ _ => inbL_of rfl) (fun _ _ => blkinb_of rfl) (fun _ _ => Nat.le_of_ble_eq_true rfl) (fun b1 h => ?_) ?_
  · unfold m31_r05_SaneReq_k1 at h
    refine cseq ?_
    refine cseq ?_
    refine cjoin3 (Unit) (fun b2 => [(1, .s (.one (.lp 0 0))), (3, .s (.one (.i .i64 a0.Kind)))]) (fun b2 => [.box [.i .i64 a0.Kind, .i .i64 a0.Seq, .i .i64 a0.Token, .i .i64 a0.Attempt, .b a0.RO, .sl a0.Key.length (a0.Key.flatMap eU8), .sl a0.Val.length (a0.Val.flatMap eU8), .sl a0.Rng.Lo.length (a0.Rng.Lo.flatMap eU8), .sl a0.Rng.Hi.length (a0.Rng.Hi.flatMap eU8), .b a0.Rng.Open]]) (fun b2 => m31_r05_SaneReq_k2 a0 b2 = some r) (fun _ _ => inbL_of rfl) (fun _ _ => blkinb_of rfl) (fun _ _ => Nat.le_of_ble_eq_true rfl) (fun b2 h => ?_) ?_
    · unfold m31_r05_SaneReq_k2 at h
      refine cseq ?_
      refine cseq ?_
      refine cjoin3 (Unit) (fun b3 => [(1, .s (.one (.lp 0 0))), (3, .s (.one (.i .i64 a0.Kind)))]) (fun b3 => [.box [.i .i64 a0.Kind, .i .i64 a0.Seq, .i .i64 a0.Token, .i .i64 a0.Attempt, .b a0.RO, .sl a0.Key.length (a0.Key.flatMap eU8), .sl a0.Val.length (a0.Val.flatMap eU8), .sl a0.Rng.Lo.length (a0.Rng.Lo.flatMap eU8), .sl a0.Rng.Hi.length (a0.Rng.Hi.flatMap eU8), .b a0.Rng.Open]]) (fun b3 => m31_r05_SaneReq_k3 a0 b3 = some r) (fun _ _ => inbL_of rfl) (fun _ _ => blkinb_of rfl) (fun _ _ => Nat.le_of_ble_eq_true rfl) (fun b3 h => ?_) ?_
      · unfold m31_r05_SaneReq_k3 at h
        refine cseq ?_
        refine cregion ?_
        refine sv rfl (opv_fieldAddr_lp fi33_7 rfl) ?_
        refine sv rfl (opv_loadN ti31 rfl (.lp _ _ _ rfl) (Nat.le_of_ble_eq_true rfl)) ?_
        obtain ⟨v4, hv4, h⟩ := bind_eq h
        refine scall1 rfl fn54 (opnds_cons rfl opnds_nil) (pubA_id rfl) (m54_r05_plain_c hv4) ?_
        refine sv rfl (opv_mv rfl) ?_
        refine ssplit 114 rfl (fun hc => ?_) (fun hc => ?_)
        · replace h := ite_t hc h
          clear hc
          refine son rfl rfl rfl ?_
          refine sv rfl (opv_mv rfl) ?_
          refine son rfl rfl rfl ?_
          obtain ⟨v5, hv5, h⟩ := bind_eq h
          refine scall1 rfl fn55 (opnds_cons rfl opnds_nil) (pubA_id rfl) (m55_r05_rng_c hv5) ?_
          refine son rfl rfl rfl ?_
          refine sv rfl (opv_mv rfl) ?_
          refine ssplit 117 rfl (fun hc => ?_) (fun hc => ?_)
          · replace h := ite_t hc h
            clear hc
            refine soff rfl rfl rfl rfl ?_
            refine soff rfl rfl rfl rfl ?_
            refine soff rfl rfl rfl rfl ?_
            refine soff rfl rfl rfl rfl ?_
            refine soff rfl rfl rfl rfl ?_
            refine soff rfl rfl rfl rfl ?_
            refine soffu rfl rfl rfl ?_
            refine soffu rfl rfl rfl ?_
            refine soffu rfl rfl rfl ?_
            refine soffu rfl rfl rfl ?_
            refine soffu rfl rfl rfl ?_
            refine soff rfl rfl rfl rfl ?_
            refine soff rfl rfl rfl rfl ?_
            refine soffu rfl rfl rfl ?_
            refine soffu rfl rfl rfl ?_
            refine soffu rfl rfl rfl ?_
            refine soffu rfl rfl rfl ?_
            refine soff rfl rfl rfl rfl ?_
            refine son rfl rfl rfl ?_
            refine sv rfl (opv_pick_t rfl rfl) ?_
            refine sv rfl (opv_pick_t rfl rfl) ?_
            refine sv rfl (opv_as rfl) ?_
            refine snil ?_
            refine cret ?_
            obtain rfl := Option.some.inj h
            refine ⟨Or.inr rfl, _, _, _, (resVs_cons (ResV.tmp _ _ rfl) resVs_nil), (pubA_id rfl), ?_⟩
            rfl
          · replace h := ite_f hc h
            clear hc
            refine son rfl rfl rfl ?_
            refine sv rfl (opv_fieldAddr_lp fi33_7 rfl) ?_
            refine son rfl rfl rfl ?_
            refine sv rfl (opv_fieldAddr_lp fi31_0 rfl) ?_
            refine son rfl rfl rfl ?_
            refine sv rfl (opv_load1 ti29 rfl (.lp _ _ _ rfl) rfl) ?_
            refine son rfl rfl rfl ?_
            refine sv rfl (opv_len_sl si29 rfl) ?_
            refine son rfl rfl rfl ?_
            refine sv rfl (opv_ieql rfl rfl) ?_
            refine son rfl rfl rfl ?_
            refine sv rfl (opv_mv rfl) ?_
            refine ssplit 123 rfl (fun hc => ?_) (fun hc => ?_)
            · replace h := ite_t hc h
              clear hc
              refine son rfl rfl rfl ?_
              refine sv rfl (opv_fieldAddr_lp fi33_7 rfl) ?_
              refine son rfl rfl rfl ?_
              refine sv rfl (opv_fieldAddr_lp fi31_1 rfl) ?_
              refine son rfl rfl rfl ?_
              refine sv rfl (opv_load1 ti29 rfl (.lp _ _ _ rfl) rfl) ?_
              refine son rfl rfl rfl ?_
              refine sv rfl (opv_len_sl si29 rfl) ?_
              refine son rfl rfl rfl ?_
              refine sv rfl (opv_ieql rfl rfl) ?_
              refine son rfl rfl rfl ?_
              refine sv rfl (opv_pick_t rfl rfl) ?_
              refine son rfl rfl rfl ?_
              refine sv rfl (opv_mv rfl) ?_
              refine ssplit 130 rfl (fun hc => ?_) (fun hc => ?_)
              · replace h := ite_t hc h
                clear hc
                refine son rfl rfl rfl ?_
                refine sv rfl (opv_fieldAddr_lp fi33_7 rfl) ?_
                refine son rfl rfl rfl ?_
                refine sv rfl (opv_fieldAddr_lp fi31_2 rfl) ?_
                refine son rfl rfl rfl ?_
                refine sv rfl (opv_load1 ti4 rfl (.lp _ _ _ rfl) rfl) ?_
                refine son rfl rfl rfl ?_
                refine sv rfl (opv_not rfl) ?_
                refine son rfl rfl rfl ?_
                refine sv rfl (opv_pick_t rfl rfl) ?_
                refine son rfl rfl rfl ?_
                refine sv rfl (opv_pick_f rfl rfl) ?_
                refine sv rfl (opv_pick_t rfl rfl) ?_
                refine sv rfl (opv_as rfl) ?_
                refine snil ?_
                refine cret ?_
                obtain rfl := Option.some.inj h
                refine ⟨Or.inr rfl, _, _, _, (resVs_cons (ResV.tmp _ _ rfl) resVs_nil), (pubA_id rfl), ?_⟩
                rfl
              · replace h := ite_f hc h
                clear hc
                refine soff rfl rfl rfl rfl ?_
                refine soff rfl rfl rfl rfl ?_
                refine soff rfl rfl rfl rfl ?_
                refine soff rfl rfl rfl rfl ?_
                refine son rfl rfl rfl ?_
                refine sv rfl (opv_pick_f rfl rfl) ?_
                refine son rfl rfl rfl ?_
                refine sv rfl (opv_pick_f rfl rfl) ?_
                refine sv rfl (opv_pick_t rfl rfl) ?_
                refine sv rfl (opv_as rfl) ?_
                refine snil ?_
                refine cret ?_
                obtain rfl := Option.some.inj h
                refine ⟨Or.inr rfl, _, _, _, (resVs_cons (ResV.tmp _ _ rfl) resVs_nil), (pubA_id rfl), ?_⟩
                rfl
            · replace h := ite_f hc h
              clear hc
              refine soff rfl rfl rfl rfl ?_
              refine soff rfl rfl rfl rfl ?_
              refine soff rfl rfl rfl rfl ?_
              refine soff rfl rfl rfl rfl ?_
              refine soff rfl rfl rfl rfl ?_
              refine son rfl rfl rfl ?_
              refine sv rfl (opv_pick_f rfl rfl) ?_
              refine son rfl rfl rfl ?_
              refine sv rfl (opv_mv rfl) ?_
              refine soff rfl rfl rfl rfl ?_
              refine soff rfl rfl rfl rfl ?_
              refine soff rfl rfl rfl rfl ?_
              refine soff rfl rfl rfl rfl ?_
              refine son rfl rfl rfl ?_
              refine sv rfl (opv_pick_f rfl rfl) ?_
              refine son rfl rfl rfl ?_
              refine sv rfl (opv_pick_f rfl rfl) ?_
              refine sv rfl (opv_pick_t rfl rfl) ?_
              refine sv rfl (opv_as rfl) ?_
              refine snil ?_
              refine cret ?_
              obtain rfl := Option.some.inj h
              refine ⟨Or.inr rfl, _, _, _, (resVs_cons (ResV.tmp _ _ rfl) resVs_nil), (pubA_id rfl), ?_⟩
              rfl
        · replace h := ite_f hc h
          clear hc
          refine soff rfl rfl rfl rfl ?_
          refine soff rfl rfl rfl rfl ?_
          refine soff rfl rfl rfl rfl ?_
          refine soffu rfl rfl rfl ?_
          refine soffu rfl rfl rfl ?_
          refine soffu rfl rfl rfl ?_
          refine soffu rfl rfl rfl ?_
          refine soffu rfl rfl rfl ?_
          refine soffu rfl rfl rfl ?_
          refine soffu rfl rfl rfl ?_
          refine soffu rfl rfl rfl ?_
          refine soffu rfl rfl rfl ?_
          refine soffu rfl rfl rfl ?_
          refine soffu rfl rfl rfl ?_
          refine soffu rfl rfl rfl ?_
          refine soffu rfl rfl rfl ?_
          refine soffu rfl rfl rfl ?_
          refine soffu rfl rfl rfl ?_
          refine soffu rfl rfl rfl ?_
          refine soffu rfl rfl rfl ?_
          refine soffu rfl rfl rfl ?_
          refine soff rfl rfl rfl rfl ?_
          refine sv rfl (opv_pick_f rfl rfl) ?_
          refine sv rfl (opv_as rfl) ?_
          refine snil ?_
          refine cret ?_
          obtain rfl := Option.some.inj h
          refine ⟨Or.inr rfl, _, _, _, (resVs_cons (ResV.tmp _ _ rfl) resVs_nil), (pubA_id rfl), ?_⟩
          rfl
      · skip
        refine cregion ?_
        refine sv rfl (opv_mv rfl) ?_
        obtain ⟨v6, hv6, h⟩ := bind_eq h
        refine scall1 rfl fn52 (opnds_cons rfl opnds_nil) (pubA_id rfl) (m52_r05_key_c hv6) ?_
        refine sv rfl (opv_mv rfl) ?_
        refine ssplit 71 rfl (fun hc => ?_) (fun hc => ?_)
        · replace h := ite_t hc h
          clear hc
          refine son rfl rfl rfl ?_
          refine sv rfl (opv_fieldAddr_lp fi33_5 rfl) ?_
          refine son rfl rfl rfl ?_
          refine sv rfl (opv_load1 ti29 rfl (.lp _ _ _ rfl) rfl) ?_
          refine son rfl rfl rfl ?_
          refine sv rfl (opv_len_sl si29 rfl) ?_
          refine son rfl rfl rfl ?_
          refine sv rfl (opv_lss rfl rfl) ?_
          refine son rfl rfl rfl ?_
          refine sv rfl (opv_mv rfl) ?_
          refine ssplit 76 rfl (fun hc => ?_) (fun hc => ?_)
          · replace h := ite_t hc h
            clear hc
            refine soff rfl rfl rfl rfl ?_
            refine soff rfl rfl rfl rfl ?_
            refine soff rfl rfl rfl rfl ?_
            refine soff rfl rfl rfl rfl ?_
            refine son rfl rfl rfl ?_
            refine sv rfl (opv_pick_t rfl rfl) ?_
            refine sv rfl (opv_pick_t rfl rfl) ?_
            refine sv rfl (opv_mv rfl) ?_
            refine soff rfl rfl rfl rfl ?_
            refine soff rfl rfl rfl rfl ?_
            refine soff rfl rfl rfl rfl ?_
            refine soff rfl rfl rfl rfl ?_
            refine soffu rfl rfl rfl ?_
            refine soffu rfl rfl rfl ?_
            refine soffu rfl rfl rfl ?_
            refine soffu rfl rfl rfl ?_
            refine soff rfl rfl rfl rfl ?_
            refine sv rfl (opv_pick_t rfl rfl) ?_
            refine sv rfl (opv_mv rfl) ?_
            refine soff rfl rfl rfl rfl ?_
            refine soff rfl rfl rfl rfl ?_
            refine soff rfl rfl rfl rfl ?_
            refine soff rfl rfl rfl rfl ?_
            refine sv rfl (opv_pick_t rfl rfl) ?_
            refine sv rfl (opv_mv rfl) ?_
            refine soff rfl rfl rfl rfl ?_
            refine soff rfl rfl rfl rfl ?_
            refine soff rfl rfl rfl rfl ?_
            refine soff rfl rfl rfl rfl ?_
            refine soffu rfl rfl rfl ?_
            refine soffu rfl rfl rfl ?_
            refine soffu rfl rfl rfl ?_
            refine soffu rfl rfl rfl ?_
            refine soff rfl rfl rfl rfl ?_
            refine sv rfl (opv_pick_t rfl rfl) ?_
            refine snil ?_
            refine ccond rfl (fun _ => ?_) (fun hx => Bool.noConfusion hx)
            refine cseq ?_
            refine cregion ?_
            refine sv rfl (opv_as rfl) ?_
            refine snil ?_
            refine cret ?_
            refine then_ret ?_
            obtain rfl := Option.some.inj h
            refine ⟨Or.inr rfl, _, _, _, (resVs_cons (ResV.tmp _ _ rfl) resVs_nil), (pubA_id rfl), ?_⟩
            rfl
          · replace h := ite_f hc h
            clear hc
            refine son rfl rfl rfl ?_
            refine sv rfl (opv_fieldAddr_lp fi33_5 rfl) ?_
            refine son rfl rfl rfl ?_
            refine sv rfl (opv_load1 ti29 rfl (.lp _ _ _ rfl) rfl) ?_
            refine son rfl rfl rfl ?_
            refine sv rfl (opv_len_sl si29 rfl) ?_
            refine son rfl rfl rfl ?_
            refine sv rfl (opv_gtr rfl rfl) ?_
            refine son rfl rfl rfl ?_
            refine sv rfl (opv_pick_f rfl rfl) ?_
            refine sv rfl (opv_pick_t rfl rfl) ?_
            refine sv rfl (opv_mv rfl) ?_
            refine ssplit 83 rfl (fun hc => ?_) (fun hc => ?_)
            · replace h := ite_t hc h
              clear hc
              refine soff rfl rfl rfl rfl ?_
              refine soff rfl rfl rfl rfl ?_
              refine soff rfl rfl rfl rfl ?_
              refine soff rfl rfl rfl rfl ?_
              refine soffu rfl rfl rfl ?_
              refine soffu rfl rfl rfl ?_
              refine soffu rfl rfl rfl ?_
              refine soffu rfl rfl rfl ?_
              refine soff rfl rfl rfl rfl ?_
              refine sv rfl (opv_pick_t rfl rfl) ?_
              refine sv rfl (opv_mv rfl) ?_
              refine soff rfl rfl rfl rfl ?_
              refine soff rfl rfl rfl rfl ?_
              refine soff rfl rfl rfl rfl ?_
              refine soff rfl rfl rfl rfl ?_
              refine sv rfl (opv_pick_t rfl rfl) ?_
              refine sv rfl (opv_mv rfl) ?_
              refine soff rfl rfl rfl rfl ?_
              refine soff rfl rfl rfl rfl ?_
              refine soff rfl rfl rfl rfl ?_
              refine soff rfl rfl rfl rfl ?_
              refine soffu rfl rfl rfl ?_
              refine soffu rfl rfl rfl ?_
              refine soffu rfl rfl rfl ?_
              refine soffu rfl rfl rfl ?_
              refine soff rfl rfl rfl rfl ?_
              refine sv rfl (opv_pick_t rfl rfl) ?_
              refine snil ?_
              refine ccond rfl (fun _ => ?_) (fun hx => Bool.noConfusion hx)
              refine cseq ?_
              refine cregion ?_
              refine sv rfl (opv_as rfl) ?_
              refine snil ?_
              refine cret ?_
              refine then_ret ?_
              obtain rfl := Option.some.inj h
              refine ⟨Or.inr rfl, _, _, _, (resVs_cons (ResV.tmp _ _ rfl) resVs_nil), (pubA_id rfl), ?_⟩
              rfl
            · replace h := ite_f hc h
              clear hc
              refine son rfl rfl rfl ?_
              refine sv rfl (opv_mv rfl) ?_
              refine son rfl rfl rfl ?_
              obtain ⟨v7, hv7, h⟩ := bind_eq h
              refine scall1 rfl fn52 (opnds_cons rfl opnds_nil) (pubA_id rfl) (m52_r05_key_c hv7) ?_
              refine son rfl rfl rfl ?_
              refine sv rfl (opv_not rfl) ?_
              refine son rfl rfl rfl ?_
              refine sv rfl (opv_mv rfl) ?_
              refine ssplit 87 rfl (fun hc => ?_) (fun hc => ?_)
              · replace h := ite_t hc h
                clear hc
                refine son rfl rfl rfl ?_
                refine sv rfl (opv_fieldAddr_lp fi33_5 rfl) ?_
                refine son rfl rfl rfl ?_
                refine sv rfl (opv_load1 ti29 rfl (.lp _ _ _ rfl) rfl) ?_
                refine son rfl rfl rfl ?_
                refine sv rfl (opv_len_sl si29 rfl) ?_
                refine son rfl rfl rfl ?_
                refine sv rfl (opv_gtr rfl rfl) ?_
                refine son rfl rfl rfl ?_
                refine sv rfl (opv_pick_t rfl rfl) ?_
                refine sv rfl (opv_pick_f rfl rfl) ?_
                refine sv rfl (opv_mv rfl) ?_
                refine ssplit 94 rfl (fun hc => ?_) (fun hc => ?_)
                · replace h := ite_t hc h
                  clear hc
                  refine soff rfl rfl rfl rfl ?_
                  refine soff rfl rfl rfl rfl ?_
                  refine soff rfl rfl rfl rfl ?_
                  refine soff rfl rfl rfl rfl ?_
                  refine sv rfl (opv_pick_t rfl rfl) ?_
                  refine sv rfl (opv_mv rfl) ?_
                  refine soff rfl rfl rfl rfl ?_
                  refine soff rfl rfl rfl rfl ?_
                  refine soff rfl rfl rfl rfl ?_
                  refine soff rfl rfl rfl rfl ?_
                  refine soffu rfl rfl rfl ?_
                  refine soffu rfl rfl rfl ?_
                  refine soffu rfl rfl rfl ?_
                  refine soffu rfl rfl rfl ?_
                  refine soff rfl rfl rfl rfl ?_
                  refine sv rfl (opv_pick_t rfl rfl) ?_
                  refine snil ?_
                  refine ccond rfl (fun _ => ?_) (fun hx => Bool.noConfusion hx)
                  refine cseq ?_
                  refine cregion ?_
                  refine sv rfl (opv_as rfl) ?_
                  refine snil ?_
                  refine cret ?_
                  refine then_ret ?_
                  obtain rfl := Option.some.inj h
                  refine ⟨Or.inr rfl, _, _, _, (resVs_cons (ResV.tmp _ _ rfl) resVs_nil), (pubA_id rfl), ?_⟩
                  rfl
                · replace h := ite_f hc h
                  clear hc
                  refine son rfl rfl rfl ?_
                  refine sv rfl (opv_fieldAddr_lp fi33_6 rfl) ?_
                  refine son rfl rfl rfl ?_
                  refine sv rfl (opv_load1 ti29 rfl (.lp _ _ _ rfl) rfl) ?_
                  refine son rfl rfl rfl ?_
                  refine sv rfl (opv_len_sl si29 rfl) ?_
                  refine son rfl rfl rfl ?_
                  refine sv rfl (opv_gtr rfl rfl) ?_
                  refine sv rfl (opv_pick_f rfl rfl) ?_
                  refine sv rfl (opv_mv rfl) ?_
                  refine ssplit 100 rfl (fun hc => ?_) (fun hc => ?_)
                  · replace h := ite_t hc h
                    clear hc
                    refine soff rfl rfl rfl rfl ?_
                    refine soff rfl rfl rfl rfl ?_
                    refine soff rfl rfl rfl rfl ?_
                    refine soff rfl rfl rfl rfl ?_
                    refine soffu rfl rfl rfl ?_
                    refine soffu rfl rfl rfl ?_
                    refine soffu rfl rfl rfl ?_
                    refine soffu rfl rfl rfl ?_
                    refine soff rfl rfl rfl rfl ?_
                    refine sv rfl (opv_pick_t rfl rfl) ?_
                    refine snil ?_
                    refine ccond rfl (fun _ => ?_) (fun hx => Bool.noConfusion hx)
                    refine cseq ?_
                    refine cregion ?_
                    refine sv rfl (opv_as rfl) ?_
                    refine snil ?_
                    refine cret ?_
                    refine then_ret ?_
                    obtain rfl := Option.some.inj h
                    refine ⟨Or.inr rfl, _, _, _, (resVs_cons (ResV.tmp _ _ rfl) resVs_nil), (pubA_id rfl), ?_⟩
                    rfl
                  · replace h := ite_f hc h
                    clear hc
                    refine son rfl rfl rfl ?_
                    refine sv rfl (opv_mv rfl) ?_
                    refine son rfl rfl rfl ?_
                    obtain ⟨v8, hv8, h⟩ := bind_eq h
                    refine scall1 rfl fn53 (opnds_cons rfl opnds_nil) (pubA_id rfl) (m53_r05_val_c hv8) ?_
                    refine son rfl rfl rfl ?_
                    refine sv rfl (opv_not rfl) ?_
                    refine son rfl rfl rfl ?_
                    refine sv rfl (opv_mv rfl) ?_
                    refine ssplit 104 rfl (fun hc => ?_) (fun hc => ?_)
                    · replace h := ite_t hc h
                      clear hc
                      refine son rfl rfl rfl ?_
                      refine sv rfl (opv_fieldAddr_lp fi33_6 rfl) ?_
                      refine son rfl rfl rfl ?_
                      refine sv rfl (opv_load1 ti29 rfl (.lp _ _ _ rfl) rfl) ?_
                      refine son rfl rfl rfl ?_
                      refine sv rfl (opv_len_sl si29 rfl) ?_
                      refine son rfl rfl rfl ?_
                      refine sv rfl (opv_gtr rfl rfl) ?_
                      refine son rfl rfl rfl ?_
                      refine sv rfl (opv_pick_t rfl rfl) ?_
                      refine sv rfl (opv_pick_f rfl rfl) ?_
                      refine snil ?_
                      refine ccond rfl (fun hc => ?_) (fun hc => ?_)
                      · replace h := ite_t hc h
                        clear hc
                        refine cseq ?_
                        refine cregion ?_
                        refine sv rfl (opv_as rfl) ?_
                        refine snil ?_
                        refine cret ?_
                        refine then_ret ?_
                        obtain rfl := Option.some.inj h
                        refine ⟨Or.inr rfl, _, _, _, (resVs_cons (ResV.tmp _ _ rfl) resVs_nil), (pubA_id rfl), ?_⟩
                        rfl
                      · replace h := ite_f hc h
                        clear hc
                        refine cskip ?_
                        refine then_normal ?_
                        exact ⟨(), _, h, ⟨rfl, rfl, trivial⟩, rfl⟩
                    · replace h := ite_f hc h
                      clear hc
                      refine soff rfl rfl rfl rfl ?_
                      refine soff rfl rfl rfl rfl ?_
                      refine soff rfl rfl rfl rfl ?_
                      refine soff rfl rfl rfl rfl ?_
                      refine son rfl rfl rfl ?_
                      refine sv rfl (opv_pick_f rfl rfl) ?_
                      refine sv rfl (opv_pick_f rfl rfl) ?_
                      refine snil ?_
                      refine ccond rfl (fun hx => Bool.noConfusion hx) (fun _ => ?_)
                      refine cskip ?_
                      refine then_normal ?_
                      exact ⟨(), _, h, ⟨rfl, rfl, trivial⟩, rfl⟩
              · replace h := ite_f hc h
                clear hc
                refine soff rfl rfl rfl rfl ?_
                refine soff rfl rfl rfl rfl ?_
                refine soff rfl rfl rfl rfl ?_
                refine soff rfl rfl rfl rfl ?_
                refine son rfl rfl rfl ?_
                refine sv rfl (opv_pick_f rfl rfl) ?_
                refine sv rfl (opv_pick_f rfl rfl) ?_
                refine sv rfl (opv_mv rfl) ?_
                refine son rfl rfl rfl ?_
                refine sv rfl (opv_fieldAddr_lp fi33_6 rfl) ?_
                refine son rfl rfl rfl ?_
                refine sv rfl (opv_load1 ti29 rfl (.lp _ _ _ rfl) rfl) ?_
                refine son rfl rfl rfl ?_
                refine sv rfl (opv_len_sl si29 rfl) ?_
                refine son rfl rfl rfl ?_
                refine sv rfl (opv_gtr rfl rfl) ?_
                refine sv rfl (opv_pick_f rfl rfl) ?_
                refine sv rfl (opv_mv rfl) ?_
                refine ssplit 100 rfl (fun hc => ?_) (fun hc => ?_)
                · replace h := ite_t hc h
                  clear hc
                  refine soff rfl rfl rfl rfl ?_
                  refine soff rfl rfl rfl rfl ?_
                  refine soff rfl rfl rfl rfl ?_
                  refine soff rfl rfl rfl rfl ?_
                  refine soffu rfl rfl rfl ?_
                  refine soffu rfl rfl rfl ?_
                  refine soffu rfl rfl rfl ?_
                  refine soffu rfl rfl rfl ?_
                  refine soff rfl rfl rfl rfl ?_
                  refine sv rfl (opv_pick_t rfl rfl) ?_
                  refine snil ?_
                  refine ccond rfl (fun _ => ?_) (fun hx => Bool.noConfusion hx)
                  refine cseq ?_
                  refine cregion ?_
                  refine sv rfl (opv_as rfl) ?_
                  refine snil ?_
                  refine cret ?_
                  refine then_ret ?_
                  obtain rfl := Option.some.inj h
                  refine ⟨Or.inr rfl, _, _, _, (resVs_cons (ResV.tmp _ _ rfl) resVs_nil), (pubA_id rfl), ?_⟩
                  rfl
                · replace h := ite_f hc h
                  clear hc
                  refine son rfl rfl rfl ?_
                  refine sv rfl (opv_mv rfl) ?_
                  refine son rfl rfl rfl ?_
                  obtain ⟨v9, hv9, h⟩ := bind_eq h
                  refine scall1 rfl fn53 (opnds_cons rfl opnds_nil) (pubA_id rfl) (m53_r05_val_c hv9) ?_
                  refine son rfl rfl rfl ?_
                  refine sv rfl (opv_not rfl) ?_
                  refine son rfl rfl rfl ?_
                  refine sv rfl (opv_mv rfl) ?_
                  refine ssplit 104 rfl (fun hc => ?_) (fun hc => ?_)
                  · replace h := ite_t hc h
                    clear hc
                    refine son rfl rfl rfl ?_
                    refine sv rfl (opv_fieldAddr_lp fi33_6 rfl) ?_
                    refine son rfl rfl rfl ?_
                    refine sv rfl (opv_load1 ti29 rfl (.lp _ _ _ rfl) rfl) ?_
                    refine son rfl rfl rfl ?_
                    refine sv rfl (opv_len_sl si29 rfl) ?_
                    refine son rfl rfl rfl ?_
                    refine sv rfl (opv_gtr rfl rfl) ?_
                    refine son rfl rfl rfl ?_
                    refine sv rfl (opv_pick_t rfl rfl) ?_
                    refine sv rfl (opv_pick_f rfl rfl) ?_
                    refine snil ?_
                    refine ccond rfl (fun hc => ?_) (fun hc => ?_)
                    · replace h := ite_t hc h
                      clear hc
                      refine cseq ?_
                      refine cregion ?_
                      refine sv rfl (opv_as rfl) ?_
                      refine snil ?_
                      refine cret ?_
                      refine then_ret ?_
                      obtain rfl := Option.some.inj h
                      refine ⟨Or.inr rfl, _, _, _, (resVs_cons (ResV.tmp _ _ rfl) resVs_nil), (pubA_id rfl), ?_⟩
                      rfl
                    · replace h := ite_f hc h
                      clear hc
                      refine cskip ?_
                      refine then_normal ?_
                      exact ⟨(), _, h, ⟨rfl, rfl, trivial⟩, rfl⟩
                  · replace h := ite_f hc h
                    clear hc
                    refine soff rfl rfl rfl rfl ?_
                    refine soff rfl rfl rfl rfl ?_
                    refine soff rfl rfl rfl rfl ?_
                    refine soff rfl rfl rfl rfl ?_
                    refine son rfl rfl rfl ?_
                    refine sv rfl (opv_pick_f rfl rfl) ?_
                    refine sv rfl (opv_pick_f rfl rfl) ?_
                    refine snil ?_
                    refine ccond rfl (fun hx => Bool.noConfusion hx) (fun _ => ?_)
                    refine cskip ?_
                    refine then_normal ?_
                    exact ⟨(), _, h, ⟨rfl, rfl, trivial⟩, rfl⟩
        · replace h := ite_f hc h
          clear hc
          refine soff rfl rfl rfl rfl ?_
          refine soff rfl rfl rfl rfl ?_
          refine soff rfl rfl rfl rfl ?_
          refine soff rfl rfl rfl rfl ?_
          refine soff rfl rfl rfl rfl ?_
          refine soffu rfl rfl rfl ?_
          refine soffu rfl rfl rfl ?_
          refine soffu rfl rfl rfl ?_
          refine soffu rfl rfl rfl ?_
          refine soff rfl rfl rfl rfl ?_
          refine sv rfl (opv_pick_f rfl rfl) ?_
          refine sv rfl (opv_mv rfl) ?_
          refine son rfl rfl rfl ?_
          refine sv rfl (opv_mv rfl) ?_
          refine son rfl rfl rfl ?_
          obtain ⟨v10, hv10, h⟩ := bind_eq h
          refine scall1 rfl fn52 (opnds_cons rfl opnds_nil) (pubA_id rfl) (m52_r05_key_c hv10) ?_
          refine son rfl rfl rfl ?_
          refine sv rfl (opv_not rfl) ?_
          refine son rfl rfl rfl ?_
          refine sv rfl (opv_mv rfl) ?_
          refine ssplit 87 rfl (fun hc => ?_) (fun hc => ?_)
          · replace h := ite_t hc h
            clear hc
            refine son rfl rfl rfl ?_
            refine sv rfl (opv_fieldAddr_lp fi33_5 rfl) ?_
            refine son rfl rfl rfl ?_
            refine sv rfl (opv_load1 ti29 rfl (.lp _ _ _ rfl) rfl) ?_
            refine son rfl rfl rfl ?_
            refine sv rfl (opv_len_sl si29 rfl) ?_
            refine son rfl rfl rfl ?_
            refine sv rfl (opv_gtr rfl rfl) ?_
            refine son rfl rfl rfl ?_
            refine sv rfl (opv_pick_t rfl rfl) ?_
            refine sv rfl (opv_pick_f rfl rfl) ?_
            refine sv rfl (opv_mv rfl) ?_
            refine ssplit 94 rfl (fun hc => ?_) (fun hc => ?_)
            · replace h := ite_t hc h
              clear hc
              refine soff rfl rfl rfl rfl ?_
              refine soff rfl rfl rfl rfl ?_
              refine soff rfl rfl rfl rfl ?_
              refine soff rfl rfl rfl rfl ?_
              refine sv rfl (opv_pick_t rfl rfl) ?_
              refine sv rfl (opv_mv rfl) ?_
              refine soff rfl rfl rfl rfl ?_
              refine soff rfl rfl rfl rfl ?_
              refine soff rfl rfl rfl rfl ?_
              refine soff rfl rfl rfl rfl ?_
              refine soffu rfl rfl rfl ?_
              refine soffu rfl rfl rfl ?_
              refine soffu rfl rfl rfl ?_
              refine soffu rfl rfl rfl ?_
              refine soff rfl rfl rfl rfl ?_
              refine sv rfl (opv_pick_t rfl rfl) ?_
              refine snil ?_
              refine ccond rfl (fun _ => ?_) (fun hx => Bool.noConfusion hx)
              refine cseq ?_
              refine cregion ?_
              refine sv rfl (opv_as rfl) ?_
              refine snil ?_
              refine cret ?_
              refine then_ret ?_
              obtain rfl := Option.some.inj h
              refine ⟨Or.inr rfl, _, _, _, (resVs_cons (ResV.tmp _ _ rfl) resVs_nil), (pubA_id rfl), ?_⟩
              rfl
            · replace h := ite_f hc h
              clear hc
              refine son rfl rfl rfl ?_
              refine sv rfl (opv_fieldAddr_lp fi33_6 rfl) ?_
              refine son rfl rfl rfl ?_
              refine sv rfl (opv_load1 ti29 rfl (.lp _ _ _ rfl) rfl) ?_
              refine son rfl rfl rfl ?_
              refine sv rfl (opv_len_sl si29 rfl) ?_
              refine son rfl rfl rfl ?_
              refine sv rfl (opv_gtr rfl rfl) ?_
              refine sv rfl (opv_pick_f rfl rfl) ?_
              refine sv rfl (opv_mv rfl) ?_
              refine ssplit 100 rfl (fun hc => ?_) (fun hc => ?_)
              · replace h := ite_t hc h
                clear hc
                refine soff rfl rfl rfl rfl ?_
                refine soff rfl rfl rfl rfl ?_
                refine soff rfl rfl rfl rfl ?_
                refine soff rfl rfl rfl rfl ?_
                refine soffu rfl rfl rfl ?_
                refine soffu rfl rfl rfl ?_
                refine soffu rfl rfl rfl ?_
                refine soffu rfl rfl rfl ?_
                refine soff rfl rfl rfl rfl ?_
                refine sv rfl (opv_pick_t rfl rfl) ?_
                refine snil ?_
                refine ccond rfl (fun _ => ?_) (fun hx => Bool.noConfusion hx)
                refine cseq ?_
                refine cregion ?_
                refine sv rfl (opv_as rfl) ?_
                refine snil ?_
                refine cret ?_
                refine then_ret ?_
                obtain rfl := Option.some.inj h
                refine ⟨Or.inr rfl, _, _, _, (resVs_cons (ResV.tmp _ _ rfl) resVs_nil), (pubA_id rfl), ?_⟩
                rfl
              · replace h := ite_f hc h
                clear hc
                refine son rfl rfl rfl ?_
                refine sv rfl (opv_mv rfl) ?_
                refine son rfl rfl rfl ?_
                obtain ⟨v11, hv11, h⟩ := bind_eq h
                refine scall1 rfl fn53 (opnds_cons rfl opnds_nil) (pubA_id rfl) (m53_r05_val_c hv11) ?_
                refine son rfl rfl rfl ?_
                refine sv rfl (opv_not rfl) ?_
                refine son rfl rfl rfl ?_
                refine sv rfl (opv_mv rfl) ?_
                refine ssplit 104 rfl (fun hc => ?_) (fun hc => ?_)
                · replace h := ite_t hc h
                  clear hc
                  refine son rfl rfl rfl ?_
                  refine sv rfl (opv_fieldAddr_lp fi33_6 rfl) ?_
                  refine son rfl rfl rfl ?_
                  refine sv rfl (opv_load1 ti29 rfl (.lp _ _ _ rfl) rfl) ?_
                  refine son rfl rfl rfl ?_
                  refine sv rfl (opv_len_sl si29 rfl) ?_
                  refine son rfl rfl rfl ?_
                  refine sv rfl (opv_gtr rfl rfl) ?_
                  refine son rfl rfl rfl ?_
                  refine sv rfl (opv_pick_t rfl rfl) ?_
                  refine sv rfl (opv_pick_f rfl rfl) ?_
                  refine snil ?_
                  refine ccond rfl (fun hc => ?_) (fun hc => ?_)
                  · replace h := ite_t hc h
                    clear hc
                    refine cseq ?_
                    refine cregion ?_
                    refine sv rfl (opv_as rfl) ?_
                    refine snil ?_
                    refine cret ?_
                    refine then_ret ?_
                    obtain rfl := Option.some.inj h
                    refine ⟨Or.inr rfl, _, _, _, (resVs_cons (ResV.tmp _ _ rfl) resVs_nil), (pubA_id rfl), ?_⟩
                    rfl
                  · replace h := ite_f hc h
                    clear hc
                    refine cskip ?_
                    refine then_normal ?_
                    exact ⟨(), _, h, ⟨rfl, rfl, trivial⟩, rfl⟩
                · replace h := ite_f hc h
                  clear hc
                  refine soff rfl rfl rfl rfl ?_
                  refine soff rfl rfl rfl rfl ?_
                  refine soff rfl rfl rfl rfl ?_
                  refine soff rfl rfl rfl rfl ?_
                  refine son rfl rfl rfl ?_
                  refine sv rfl (opv_pick_f rfl rfl) ?_
                  refine sv rfl (opv_pick_f rfl rfl) ?_
                  refine snil ?_
                  refine ccond rfl (fun hx => Bool.noConfusion hx) (fun _ => ?_)
                  refine cskip ?_
                  refine then_normal ?_
                  exact ⟨(), _, h, ⟨rfl, rfl, trivial⟩, rfl⟩
          · replace h := ite_f hc h
            clear hc
            refine soff rfl rfl rfl rfl ?_
            refine soff rfl rfl rfl rfl ?_
            refine soff rfl rfl rfl rfl ?_
            refine soff rfl rfl rfl rfl ?_
            refine son rfl rfl rfl ?_
            refine sv rfl (opv_pick_f rfl rfl) ?_
            refine sv rfl (opv_pick_f rfl rfl) ?_
            refine sv rfl (opv_mv rfl) ?_
            refine son rfl rfl rfl ?_
            refine sv rfl (opv_fieldAddr_lp fi33_6 rfl) ?_
            refine son rfl rfl rfl ?_
            refine sv rfl (opv_load1 ti29 rfl (.lp _ _ _ rfl) rfl) ?_
            refine son rfl rfl rfl ?_
            refine sv rfl (opv_len_sl si29 rfl) ?_
            refine son rfl rfl rfl ?_
            refine sv rfl (opv_gtr rfl rfl) ?_
            refine sv rfl (opv_pick_f rfl rfl) ?_
            refine sv rfl (opv_mv rfl) ?_
            refine ssplit 100 rfl (fun hc => ?_) (fun hc => ?_)
            · replace h := ite_t hc h
              clear hc
              refine soff rfl rfl rfl rfl ?_
              refine soff rfl rfl rfl rfl ?_
              refine soff rfl rfl rfl rfl ?_
              refine soff rfl rfl rfl rfl ?_
              refine soffu rfl rfl rfl ?_
              refine soffu rfl rfl rfl ?_
              refine soffu rfl rfl rfl ?_
              refine soffu rfl rfl rfl ?_
              refine soff rfl rfl rfl rfl ?_
              refine sv rfl (opv_pick_t rfl rfl) ?_
              refine snil ?_
              refine ccond rfl (fun _ => ?_) (fun hx => Bool.noConfusion hx)
              refine cseq ?_
              refine cregion ?_
              refine sv rfl (opv_as rfl) ?_
              refine snil ?_
              refine cret ?_
              refine then_ret ?_
              obtain rfl := Option.some.inj h
              refine ⟨Or.inr rfl, _, _, _, (resVs_cons (ResV.tmp _ _ rfl) resVs_nil), (pubA_id rfl), ?_⟩
              rfl
            · replace h := ite_f hc h
              clear hc
              refine son rfl rfl rfl ?_
              refine sv rfl (opv_mv rfl) ?_
              refine son rfl rfl rfl ?_
              obtain ⟨v12, hv12, h⟩ := bind_eq h
              refine scall1 rfl fn53 (opnds_cons rfl opnds_nil) (pubA_id rfl) (m53_r05_val_c hv12) ?_
              refine son rfl rfl rfl ?_
              refine sv rfl (opv_not rfl) ?_
              refine son rfl rfl rfl ?_
              refine sv rfl (opv_mv rfl) ?_
              refine ssplit 104 rfl (fun hc => ?_) (fun hc => ?_)
              · replace h := ite_t hc h
                clear hc
                refine son rfl rfl rfl ?_
                refine sv rfl (opv_fieldAddr_lp fi33_6 rfl) ?_
                refine son rfl rfl rfl ?_
                refine sv rfl (opv_load1 ti29 rfl (.lp _ _ _ rfl) rfl) ?_
                refine son rfl rfl rfl ?_
                refine sv rfl (opv_len_sl si29 rfl) ?_
                refine son rfl rfl rfl ?_
                refine sv rfl (opv_gtr rfl rfl) ?_
                refine son rfl rfl rfl ?_
                refine sv rfl (opv_pick_t rfl rfl) ?_
                refine sv rfl (opv_pick_f rfl rfl) ?_
                refine snil ?_
                refine ccond rfl (fun hc => ?_) (fun hc => ?_)
                · replace h := ite_t hc h
                  clear hc
                  refine cseq ?_
                  refine cregion ?_
                  refine sv rfl (opv_as rfl) ?_
                  refine snil ?_
                  refine cret ?_
                  refine then_ret ?_
                  obtain rfl := Option.some.inj h
                  refine ⟨Or.inr rfl, _, _, _, (resVs_cons (ResV.tmp _ _ rfl) resVs_nil), (pubA_id rfl), ?_⟩
                  rfl
                · replace h := ite_f hc h
                  clear hc
                  refine cskip ?_
                  refine then_normal ?_
                  exact ⟨(), _, h, ⟨rfl, rfl, trivial⟩, rfl⟩
              · replace h := ite_f hc h
                clear hc
                refine soff rfl rfl rfl rfl ?_
                refine soff rfl rfl rfl rfl ?_
                refine soff rfl rfl rfl rfl ?_
                refine soff rfl rfl rfl rfl ?_
                refine son rfl rfl rfl ?_
                refine sv rfl (opv_pick_f rfl rfl) ?_
                refine sv rfl (opv_pick_f rfl rfl) ?_
                refine snil ?_
                refine ccond rfl (fun hx => Bool.noConfusion hx) (fun _ => ?_)
                refine cskip ?_
                refine then_normal ?_
                exact ⟨(), _, h, ⟨rfl, rfl, trivial⟩, rfl⟩
    · skip
      refine cregion ?_
      refine sv rfl (opv_mv rfl) ?_
      obtain ⟨v13, hv13, h⟩ := bind_eq h
      refine scall1 rfl fn49 (opnds_cons rfl opnds_nil) (pubA_id rfl) (m49_r05_token_c hv13) ?_
      refine sv rfl (opv_not rfl) ?_
      refine sv rfl (opv_mv rfl) ?_
      refine ssplit 45 rfl (fun hc => ?_) (fun hc => ?_)
      · replace h := ite_t hc h
        clear hc
        refine son rfl rfl rfl ?_
        refine sv rfl (opv_fieldAddr_lp fi33_2 rfl) ?_
        refine son rfl rfl rfl ?_
        refine sv rfl (opv_load1 ti3 rfl (.lp _ _ _ rfl) rfl) ?_
        refine son rfl rfl rfl ?_
        refine sv rfl (opv_ineq rfl rfl) ?_
        refine sv rfl (opv_pick_t rfl rfl) ?_
        refine sv rfl (opv_mv rfl) ?_
        refine ssplit 50 rfl (fun hc => ?_) (fun hc => ?_)
        · replace h := ite_t hc h
          clear hc
          refine soff rfl rfl rfl rfl ?_
          refine soff rfl rfl rfl rfl ?_
          refine soff rfl rfl rfl rfl ?_
          refine soff rfl rfl rfl rfl ?_
          refine soffu rfl rfl rfl ?_
          refine soffu rfl rfl rfl ?_
          refine soffu rfl rfl rfl ?_
          refine soff rfl rfl rfl rfl ?_
          refine sv rfl (opv_pick_t rfl rfl) ?_
          refine sv rfl (opv_mv rfl) ?_
          refine soff rfl rfl rfl rfl ?_
          refine soff rfl rfl rfl rfl ?_
          refine soff rfl rfl rfl rfl ?_
          refine soff rfl rfl rfl rfl ?_
          refine soffu rfl rfl rfl ?_
          refine soffu rfl rfl rfl ?_
          refine soff rfl rfl rfl rfl ?_
          refine sv rfl (opv_pick_t rfl rfl) ?_
          refine snil ?_
          refine ccond rfl (fun _ => ?_) (fun hx => Bool.noConfusion hx)
          refine cseq ?_
          refine cregion ?_
          refine sv rfl (opv_as rfl) ?_
          refine snil ?_
          refine cret ?_
          refine then_ret ?_
          obtain rfl := Option.some.inj h
          refine ⟨Or.inr rfl, _, _, _, (resVs_cons (ResV.tmp _ _ rfl) resVs_nil), (pubA_id rfl), ?_⟩
          rfl
        · replace h := ite_f hc h
          clear hc
          refine son rfl rfl rfl ?_
          refine sv rfl (opv_mv rfl) ?_
          refine son rfl rfl rfl ?_
          obtain ⟨v14, hv14, h⟩ := bind_eq h
          refine scall1 rfl fn50 (opnds_cons rfl opnds_nil) (pubA_id rfl) (m50_r05_attempt_c hv14) ?_
          refine son rfl rfl rfl ?_
          refine sv rfl (opv_not rfl) ?_
          refine son rfl rfl rfl ?_
          refine sv rfl (opv_mv rfl) ?_
          refine ssplit 54 rfl (fun hc => ?_) (fun hc => ?_)
          · replace h := ite_t hc h
            clear hc
            refine son rfl rfl rfl ?_
            refine sv rfl (opv_fieldAddr_lp fi33_3 rfl) ?_
            refine son rfl rfl rfl ?_
            refine sv rfl (opv_load1 ti3 rfl (.lp _ _ _ rfl) rfl) ?_
            refine son rfl rfl rfl ?_
            refine sv rfl (opv_ineq rfl rfl) ?_
            refine son rfl rfl rfl ?_
            refine sv rfl (opv_pick_t rfl rfl) ?_
            refine sv rfl (opv_pick_f rfl rfl) ?_
            refine sv rfl (opv_mv rfl) ?_
            refine ssplit 60 rfl (fun hc => ?_) (fun hc => ?_)
            · replace h := ite_t hc h
              clear hc
              refine soff rfl rfl rfl rfl ?_
              refine soff rfl rfl rfl rfl ?_
              refine soff rfl rfl rfl rfl ?_
              refine soff rfl rfl rfl rfl ?_
              refine soffu rfl rfl rfl ?_
              refine soffu rfl rfl rfl ?_
              refine soff rfl rfl rfl rfl ?_
              refine sv rfl (opv_pick_t rfl rfl) ?_
              refine snil ?_
              refine ccond rfl (fun _ => ?_) (fun hx => Bool.noConfusion hx)
              refine cseq ?_
              refine cregion ?_
              refine sv rfl (opv_as rfl) ?_
              refine snil ?_
              refine cret ?_
              refine then_ret ?_
              obtain rfl := Option.some.inj h
              refine ⟨Or.inr rfl, _, _, _, (resVs_cons (ResV.tmp _ _ rfl) resVs_nil), (pubA_id rfl), ?_⟩
              rfl
            · replace h := ite_f hc h
              clear hc
              refine son rfl rfl rfl ?_
              refine sv rfl (opv_mv rfl) ?_
              refine son rfl rfl rfl ?_
              obtain ⟨v15, hv15, h⟩ := bind_eq h
              refine scall1 rfl fn51 (opnds_cons rfl opnds_nil) (pubA_id rfl) (m51_r05_flag_c hv15) ?_
              refine son rfl rfl rfl ?_
              refine sv rfl (opv_not rfl) ?_
              refine son rfl rfl rfl ?_
              refine sv rfl (opv_mv rfl) ?_
              refine ssplit 64 rfl (fun hc => ?_) (fun hc => ?_)
              · replace h := ite_t hc h
                clear hc
                refine son rfl rfl rfl ?_
                refine sv rfl (opv_fieldAddr_lp fi33_4 rfl) ?_
                refine son rfl rfl rfl ?_
                refine sv rfl (opv_load1 ti4 rfl (.lp _ _ _ rfl) rfl) ?_
                refine son rfl rfl rfl ?_
                refine sv rfl (opv_pick_t rfl rfl) ?_
                refine sv rfl (opv_pick_f rfl rfl) ?_
                refine snil ?_
                refine ccond rfl (fun hc => ?_) (fun hc => ?_)
                · replace h := ite_t hc h
                  clear hc
                  refine cseq ?_
                  refine cregion ?_
                  refine sv rfl (opv_as rfl) ?_
                  refine snil ?_
                  refine cret ?_
                  refine then_ret ?_
                  obtain rfl := Option.some.inj h
                  refine ⟨Or.inr rfl, _, _, _, (resVs_cons (ResV.tmp _ _ rfl) resVs_nil), (pubA_id rfl), ?_⟩
                  rfl
                · replace h := ite_f hc h
                  clear hc
                  refine cskip ?_
                  refine then_normal ?_
                  exact ⟨(), _, h, ⟨rfl, rfl, trivial⟩, rfl⟩
              · replace h := ite_f hc h
                clear hc
                refine soff rfl rfl rfl rfl ?_
                refine soff rfl rfl rfl rfl ?_
                refine son rfl rfl rfl ?_
                refine sv rfl (opv_pick_f rfl rfl) ?_
                refine sv rfl (opv_pick_f rfl rfl) ?_
                refine snil ?_
                refine ccond rfl (fun hx => Bool.noConfusion hx) (fun _ => ?_)
                refine cskip ?_
                refine then_normal ?_
                exact ⟨(), _, h, ⟨rfl, rfl, trivial⟩, rfl⟩
          · replace h := ite_f hc h
            clear hc
            refine soff rfl rfl rfl rfl ?_
            refine soff rfl rfl rfl rfl ?_
            refine soff rfl rfl rfl rfl ?_
            refine son rfl rfl rfl ?_
            refine sv rfl (opv_pick_f rfl rfl) ?_
            refine sv rfl (opv_pick_f rfl rfl) ?_
            refine sv rfl (opv_mv rfl) ?_
            refine son rfl rfl rfl ?_
            refine sv rfl (opv_mv rfl) ?_
            refine son rfl rfl rfl ?_
            obtain ⟨v16, hv16, h⟩ := bind_eq h
            refine scall1 rfl fn51 (opnds_cons rfl opnds_nil) (pubA_id rfl) (m51_r05_flag_c hv16) ?_
            refine son rfl rfl rfl ?_
            refine sv rfl (opv_not rfl) ?_
            refine son rfl rfl rfl ?_
            refine sv rfl (opv_mv rfl) ?_
            refine ssplit 64 rfl (fun hc => ?_) (fun hc => ?_)
            · replace h := ite_t hc h
              clear hc
              refine son rfl rfl rfl ?_
              refine sv rfl (opv_fieldAddr_lp fi33_4 rfl) ?_
              refine son rfl rfl rfl ?_
              refine sv rfl (opv_load1 ti4 rfl (.lp _ _ _ rfl) rfl) ?_
              refine son rfl rfl rfl ?_
              refine sv rfl (opv_pick_t rfl rfl) ?_
              refine sv rfl (opv_pick_f rfl rfl) ?_
              refine snil ?_
              refine ccond rfl (fun hc => ?_) (fun hc => ?_)
              · replace h := ite_t hc h
                clear hc
                refine cseq ?_
                refine cregion ?_
                refine sv rfl (opv_as rfl) ?_
                refine snil ?_
                refine cret ?_
                refine then_ret ?_
                obtain rfl := Option.some.inj h
                refine ⟨Or.inr rfl, _, _, _, (resVs_cons (ResV.tmp _ _ rfl) resVs_nil), (pubA_id rfl), ?_⟩
                rfl
              · replace h := ite_f hc h
                clear hc
                refine cskip ?_
                refine then_normal ?_
                exact ⟨(), _, h, ⟨rfl, rfl, trivial⟩, rfl⟩
            · replace h := ite_f hc h
              clear hc
              refine soff rfl rfl rfl rfl ?_
              refine soff rfl rfl rfl rfl ?_
              refine son rfl rfl rfl ?_
              refine sv rfl (opv_pick_f rfl rfl) ?_
              refine sv rfl (opv_pick_f rfl rfl) ?_
              refine snil ?_
              refine ccond rfl (fun hx => Bool.noConfusion hx) (fun _ => ?_)
              refine cskip ?_
              refine then_normal ?_
              exact ⟨(), _, h, ⟨rfl, rfl, trivial⟩, rfl⟩
      · replace h := ite_f hc h
        clear hc
        refine soff rfl rfl rfl rfl ?_
        refine soff rfl rfl rfl rfl ?_
        refine soff rfl rfl rfl rfl ?_
        refine sv rfl (opv_pick_f rfl rfl) ?_
        refine sv rfl (opv_mv rfl) ?_
        refine son rfl rfl rfl ?_
        refine sv rfl (opv_mv rfl) ?_
        refine son rfl rfl rfl ?_
        obtain ⟨v17, hv17, h⟩ := bind_eq h
        refine scall1 rfl fn50 (opnds_cons rfl opnds_nil) (pubA_id rfl) (m50_r05_attempt_c hv17) ?_
        refine son rfl rfl rfl ?_
        refine sv rfl (opv_not rfl) ?_
        refine son rfl rfl rfl ?_
        refine sv rfl (opv_mv rfl) ?_
        refine ssplit 54 rfl (fun hc => ?_) (fun hc => ?_)
        · replace h := ite_t hc h
          clear hc
          refine son rfl rfl rfl ?_
          refine sv rfl (opv_fieldAddr_lp fi33_3 rfl) ?_
          refine son rfl rfl rfl ?_
          refine sv rfl (opv_load1 ti3 rfl (.lp _ _ _ rfl) rfl) ?_
          refine son rfl rfl rfl ?_
          refine sv rfl (opv_ineq rfl rfl) ?_
          refine son rfl rfl rfl ?_
          refine sv rfl (opv_pick_t rfl rfl) ?_
          refine sv rfl (opv_pick_f rfl rfl) ?_
          refine sv rfl (opv_mv rfl) ?_
          refine ssplit 60 rfl (fun hc => ?_) (fun hc => ?_)
          · replace h := ite_t hc h
            clear hc
            refine soff rfl rfl rfl rfl ?_
            refine soff rfl rfl rfl rfl ?_
            refine soff rfl rfl rfl rfl ?_
            refine soff rfl rfl rfl rfl ?_
            refine soffu rfl rfl rfl ?_
            refine soffu rfl rfl rfl ?_
            refine soff rfl rfl rfl rfl ?_
            refine sv rfl (opv_pick_t rfl rfl) ?_
            refine snil ?_
            refine ccond rfl (fun _ => ?_) (fun hx => Bool.noConfusion hx)
            refine cseq ?_
            refine cregion ?_
            refine sv rfl (opv_as rfl) ?_
            refine snil ?_
            refine cret ?_
            refine then_ret ?_
            obtain rfl := Option.some.inj h
            refine ⟨Or.inr rfl, _, _, _, (resVs_cons (ResV.tmp _ _ rfl) resVs_nil), (pubA_id rfl), ?_⟩
            rfl
          · replace h := ite_f hc h
            clear hc
            refine son rfl rfl rfl ?_
            refine sv rfl (opv_mv rfl) ?_
            refine son rfl rfl rfl ?_
            obtain ⟨v18, hv18, h⟩ := bind_eq h
            refine scall1 rfl fn51 (opnds_cons rfl opnds_nil) (pubA_id rfl) (m51_r05_flag_c hv18) ?_
            refine son rfl rfl rfl ?_
            refine sv rfl (opv_not rfl) ?_
            refine son rfl rfl rfl ?_
            refine sv rfl (opv_mv rfl) ?_
            refine ssplit 64 rfl (fun hc => ?_) (fun hc => ?_)
            · replace h := ite_t hc h
              clear hc
              refine son rfl rfl rfl ?_
              refine sv rfl (opv_fieldAddr_lp fi33_4 rfl) ?_
              refine son rfl rfl rfl ?_
              refine sv rfl (opv_load1 ti4 rfl (.lp _ _ _ rfl) rfl) ?_
              refine son rfl rfl rfl ?_
              refine sv rfl (opv_pick_t rfl rfl) ?_
              refine sv rfl (opv_pick_f rfl rfl) ?_
              refine snil ?_
              refine ccond rfl (fun hc => ?_) (fun hc => ?_)
              · replace h := ite_t hc h
                clear hc
                refine cseq ?_
                refine cregion ?_
                refine sv rfl (opv_as rfl) ?_
                refine snil ?_
                refine cret ?_
                refine then_ret ?_
                obtain rfl := Option.some.inj h
                refine ⟨Or.inr rfl, _, _, _, (resVs_cons (ResV.tmp _ _ rfl) resVs_nil), (pubA_id rfl), ?_⟩
                rfl
              · replace h := ite_f hc h
                clear hc
                refine cskip ?_
                refine then_normal ?_
                exact ⟨(), _, h, ⟨rfl, rfl, trivial⟩, rfl⟩
            · replace h := ite_f hc h
              clear hc
              refine soff rfl rfl rfl rfl ?_
              refine soff rfl rfl rfl rfl ?_
              refine son rfl rfl rfl ?_
              refine sv rfl (opv_pick_f rfl rfl) ?_
              refine sv rfl (opv_pick_f rfl rfl) ?_
              refine snil ?_
              refine ccond rfl (fun hx => Bool.noConfusion hx) (fun _ => ?_)
              refine cskip ?_
              refine then_normal ?_
              exact ⟨(), _, h, ⟨rfl, rfl, trivial⟩, rfl⟩
        · replace h := ite_f hc h
          clear hc
          refine soff rfl rfl rfl rfl ?_
          refine soff rfl rfl rfl rfl ?_
          refine soff rfl rfl rfl rfl ?_
          refine son rfl rfl rfl ?_
          refine sv rfl (opv_pick_f rfl rfl) ?_
          refine sv rfl (opv_pick_f rfl rfl) ?_
          refine sv rfl (opv_mv rfl) ?_
          refine son rfl rfl rfl ?_
          refine sv rfl (opv_mv rfl) ?_
          refine son rfl rfl rfl ?_
          obtain ⟨v19, hv19, h⟩ := bind_eq h
          refine scall1 rfl fn51 (opnds_cons rfl opnds_nil) (pubA_id rfl) (m51_r05_flag_c hv19) ?_
          refine son rfl rfl rfl ?_
          refine sv rfl (opv_not rfl) ?_
          refine son rfl rfl rfl ?_
          refine sv rfl (opv_mv rfl) ?_
          refine ssplit 64 rfl (fun hc => ?_) (fun hc => ?_)
          · replace h := ite_t hc h
            clear hc
            refine son rfl rfl rfl ?_
            refine sv rfl (opv_fieldAddr_lp fi33_4 rfl) ?_
            refine son rfl rfl rfl ?_
            refine sv rfl (opv_load1 ti4 rfl (.lp _ _ _ rfl) rfl) ?_
            refine son rfl rfl rfl ?_
            refine sv rfl (opv_pick_t rfl rfl) ?_
            refine sv rfl (opv_pick_f rfl rfl) ?_
            refine snil ?_
            refine ccond rfl (fun hc => ?_) (fun hc => ?_)
            · replace h := ite_t hc h
              clear hc
              refine cseq ?_
              refine cregion ?_
              refine sv rfl (opv_as rfl) ?_
              refine snil ?_
              refine cret ?_
              refine then_ret ?_
              obtain rfl := Option.some.inj h
              refine ⟨Or.inr rfl, _, _, _, (resVs_cons (ResV.tmp _ _ rfl) resVs_nil), (pubA_id rfl), ?_⟩
              rfl
            · replace h := ite_f hc h
              clear hc
              refine cskip ?_
              refine then_normal ?_
              exact ⟨(), _, h, ⟨rfl, rfl, trivial⟩, rfl⟩
          · replace h := ite_f hc h
            clear hc
            refine soff rfl rfl rfl rfl ?_
            refine soff rfl rfl rfl rfl ?_
            refine son rfl rfl rfl ?_
            refine sv rfl (opv_pick_f rfl rfl) ?_
            refine sv rfl (opv_pick_f rfl rfl) ?_
            refine snil ?_
            refine ccond rfl (fun hx => Bool.noConfusion hx) (fun _ => ?_)
            refine cskip ?_
            refine then_normal ?_
            exact ⟨(), _, h, ⟨rfl, rfl, trivial⟩, rfl⟩
  · skip
    refine cregion ?_
    refine sv rfl (opv_mv rfl) ?_
    refine sv rfl (opv_lss rfl rfl) ?_
    refine sv rfl (opv_mv rfl) ?_
    refine ssplit 8 rfl (fun hc => ?_) (fun hc => ?_)
    · replace h := ite_t hc h
      clear hc
      refine soff rfl rfl rfl rfl ?_
      refine soff rfl rfl rfl rfl ?_
      refine sv rfl (opv_pick_t rfl rfl) ?_
      refine sv rfl (opv_mv rfl) ?_
      refine soff rfl rfl rfl rfl ?_
      refine soff rfl rfl rfl rfl ?_
      refine soff rfl rfl rfl rfl ?_
      refine sv rfl (opv_pick_t rfl rfl) ?_
      refine sv rfl (opv_mv rfl) ?_
      refine soff rfl rfl rfl rfl ?_
      refine soff rfl rfl rfl rfl ?_
      refine soff rfl rfl rfl rfl ?_
      refine sv rfl (opv_pick_t rfl rfl) ?_
      refine sv rfl (opv_mv rfl) ?_
      refine soff rfl rfl rfl rfl ?_
      refine soff rfl rfl rfl rfl ?_
      refine soff rfl rfl rfl rfl ?_
      refine sv rfl (opv_pick_t rfl rfl) ?_
      refine sv rfl (opv_mv rfl) ?_
      refine soff rfl rfl rfl rfl ?_
      refine soff rfl rfl rfl rfl ?_
      refine soff rfl rfl rfl rfl ?_
      refine sv rfl (opv_pick_t rfl rfl) ?_
      refine sv rfl (opv_mv rfl) ?_
      refine soff rfl rfl rfl rfl ?_
      refine soff rfl rfl rfl rfl ?_
      refine soff rfl rfl rfl rfl ?_
      refine sv rfl (opv_pick_t rfl rfl) ?_
      refine sv rfl (opv_mv rfl) ?_
      refine soff rfl rfl rfl rfl ?_
      refine soff rfl rfl rfl rfl ?_
      refine soff rfl rfl rfl rfl ?_
      refine sv rfl (opv_pick_t rfl rfl) ?_
      refine snil ?_
      refine ccond rfl (fun _ => ?_) (fun hx => Bool.noConfusion hx)
      refine cseq ?_
      refine cregion ?_
      refine sv rfl (opv_as rfl) ?_
      refine snil ?_
      refine cret ?_
      refine then_ret ?_
      obtain rfl := Option.some.inj h
      refine ⟨Or.inr rfl, _, _, _, (resVs_cons (ResV.tmp _ _ rfl) resVs_nil), (pubA_id rfl), ?_⟩
      rfl
    · replace h := ite_f hc h
      clear hc
      refine son rfl rfl rfl ?_
      refine sv rfl (opv_mv rfl) ?_
      refine son rfl rfl rfl ?_
      refine sv rfl (opv_gtr rfl rfl) ?_
      refine sv rfl (opv_pick_f rfl rfl) ?_
      refine sv rfl (opv_mv rfl) ?_
      refine ssplit 12 rfl (fun hc => ?_) (fun hc => ?_)
      · replace h := ite_t hc h
        clear hc
        refine soff rfl rfl rfl rfl ?_
        refine soff rfl rfl rfl rfl ?_
        refine soff rfl rfl rfl rfl ?_
        refine sv rfl (opv_pick_t rfl rfl) ?_
        refine sv rfl (opv_mv rfl) ?_
        refine soff rfl rfl rfl rfl ?_
        refine soff rfl rfl rfl rfl ?_
        refine soff rfl rfl rfl rfl ?_
        refine sv rfl (opv_pick_t rfl rfl) ?_
        refine sv rfl (opv_mv rfl) ?_
        refine soff rfl rfl rfl rfl ?_
        refine soff rfl rfl rfl rfl ?_
        refine soff rfl rfl rfl rfl ?_
        refine sv rfl (opv_pick_t rfl rfl) ?_
        refine sv rfl (opv_mv rfl) ?_
        refine soff rfl rfl rfl rfl ?_
        refine soff rfl rfl rfl rfl ?_
        refine soff rfl rfl rfl rfl ?_
        refine sv rfl (opv_pick_t rfl rfl) ?_
        refine sv rfl (opv_mv rfl) ?_
        refine soff rfl rfl rfl rfl ?_
        refine soff rfl rfl rfl rfl ?_
        refine soff rfl rfl rfl rfl ?_
        refine sv rfl (opv_pick_t rfl rfl) ?_
        refine sv rfl (opv_mv rfl) ?_
        refine soff rfl rfl rfl rfl ?_
        refine soff rfl rfl rfl rfl ?_
        refine soff rfl rfl rfl rfl ?_
        refine sv rfl (opv_pick_t rfl rfl) ?_
        refine snil ?_
        refine ccond rfl (fun _ => ?_) (fun hx => Bool.noConfusion hx)
        refine cseq ?_
        refine cregion ?_
        refine sv rfl (opv_as rfl) ?_
        refine snil ?_
        refine cret ?_
        refine then_ret ?_
        obtain rfl := Option.some.inj h
        refine ⟨Or.inr rfl, _, _, _, (resVs_cons (ResV.tmp _ _ rfl) resVs_nil), (pubA_id rfl), ?_⟩
        rfl
      · replace h := ite_f hc h
        clear hc
        refine son rfl rfl rfl ?_
        refine sv rfl (opv_fieldAddr_lp fi33_1 rfl) ?_
        refine son rfl rfl rfl ?_
        refine sv rfl (opv_load1 ti3 rfl (.lp _ _ _ rfl) rfl) ?_
        refine son rfl rfl rfl ?_
        refine sv rfl (opv_lss rfl rfl) ?_
        refine sv rfl (opv_pick_f rfl rfl) ?_
        refine sv rfl (opv_mv rfl) ?_
        refine ssplit 17 rfl (fun hc => ?_) (fun hc => ?_)
        · replace h := ite_t hc h
          clear hc
          refine soff rfl rfl rfl rfl ?_
          refine soff rfl rfl rfl rfl ?_
          refine soff rfl rfl rfl rfl ?_
          refine sv rfl (opv_pick_t rfl rfl) ?_
          refine sv rfl (opv_mv rfl) ?_
          refine soff rfl rfl rfl rfl ?_
          refine soff rfl rfl rfl rfl ?_
          refine soff rfl rfl rfl rfl ?_
          refine sv rfl (opv_pick_t rfl rfl) ?_
          refine sv rfl (opv_mv rfl) ?_
          refine soff rfl rfl rfl rfl ?_
          refine soff rfl rfl rfl rfl ?_
          refine soff rfl rfl rfl rfl ?_
          refine sv rfl (opv_pick_t rfl rfl) ?_
          refine sv rfl (opv_mv rfl) ?_
          refine soff rfl rfl rfl rfl ?_
          refine soff rfl rfl rfl rfl ?_
          refine soff rfl rfl rfl rfl ?_
          refine sv rfl (opv_pick_t rfl rfl) ?_
          refine sv rfl (opv_mv rfl) ?_
          refine soff rfl rfl rfl rfl ?_
          refine soff rfl rfl rfl rfl ?_
          refine soff rfl rfl rfl rfl ?_
          refine sv rfl (opv_pick_t rfl rfl) ?_
          refine snil ?_
          refine ccond rfl (fun _ => ?_) (fun hx => Bool.noConfusion hx)
          refine cseq ?_
          refine cregion ?_
          refine sv rfl (opv_as rfl) ?_
          refine snil ?_
          refine cret ?_
          refine then_ret ?_
          obtain rfl := Option.some.inj h
          refine ⟨Or.inr rfl, _, _, _, (resVs_cons (ResV.tmp _ _ rfl) resVs_nil), (pubA_id rfl), ?_⟩
          rfl
        · replace h := ite_f hc h
          clear hc
          refine son rfl rfl rfl ?_
          refine sv rfl (opv_fieldAddr_lp fi33_1 rfl) ?_
          refine son rfl rfl rfl ?_
          refine sv rfl (opv_load1 ti3 rfl (.lp _ _ _ rfl) rfl) ?_
          refine son rfl rfl rfl ?_
          refine sv rfl (opv_gtr rfl rfl) ?_
          refine sv rfl (opv_pick_f rfl rfl) ?_
          refine sv rfl (opv_mv rfl) ?_
          refine ssplit 22 rfl (fun hc => ?_) (fun hc => ?_)
          · replace h := ite_t hc h
            clear hc
            refine soff rfl rfl rfl rfl ?_
            refine soff rfl rfl rfl rfl ?_
            refine soff rfl rfl rfl rfl ?_
            refine sv rfl (opv_pick_t rfl rfl) ?_
            refine sv rfl (opv_mv rfl) ?_
            refine soff rfl rfl rfl rfl ?_
            refine soff rfl rfl rfl rfl ?_
            refine soff rfl rfl rfl rfl ?_
            refine sv rfl (opv_pick_t rfl rfl) ?_
            refine sv rfl (opv_mv rfl) ?_
            refine soff rfl rfl rfl rfl ?_
            refine soff rfl rfl rfl rfl ?_
            refine soff rfl rfl rfl rfl ?_
            refine sv rfl (opv_pick_t rfl rfl) ?_
            refine sv rfl (opv_mv rfl) ?_
            refine soff rfl rfl rfl rfl ?_
            refine soff rfl rfl rfl rfl ?_
            refine soff rfl rfl rfl rfl ?_
            refine sv rfl (opv_pick_t rfl rfl) ?_
            refine snil ?_
            refine ccond rfl (fun _ => ?_) (fun hx => Bool.noConfusion hx)
            refine cseq ?_
            refine cregion ?_
            refine sv rfl (opv_as rfl) ?_
            refine snil ?_
            refine cret ?_
            refine then_ret ?_
            obtain rfl := Option.some.inj h
            refine ⟨Or.inr rfl, _, _, _, (resVs_cons (ResV.tmp _ _ rfl) resVs_nil), (pubA_id rfl), ?_⟩
            rfl
          · replace h := ite_f hc h
            clear hc
            refine son rfl rfl rfl ?_
            refine sv rfl (opv_fieldAddr_lp fi33_2 rfl) ?_
            refine son rfl rfl rfl ?_
            refine sv rfl (opv_load1 ti3 rfl (.lp _ _ _ rfl) rfl) ?_
            refine son rfl rfl rfl ?_
            refine sv rfl (opv_lss rfl rfl) ?_
            refine sv rfl (opv_pick_f rfl rfl) ?_
            refine sv rfl (opv_mv rfl) ?_
            refine ssplit 27 rfl (fun hc => ?_) (fun hc => ?_)
            · replace h := ite_t hc h
              clear hc
              refine soff rfl rfl rfl rfl ?_
              refine soff rfl rfl rfl rfl ?_
              refine soff rfl rfl rfl rfl ?_
              refine sv rfl (opv_pick_t rfl rfl) ?_
              refine sv rfl (opv_mv rfl) ?_
              refine soff rfl rfl rfl rfl ?_
              refine soff rfl rfl rfl rfl ?_
              refine soff rfl rfl rfl rfl ?_
              refine sv rfl (opv_pick_t rfl rfl) ?_
              refine sv rfl (opv_mv rfl) ?_
              refine soff rfl rfl rfl rfl ?_
              refine soff rfl rfl rfl rfl ?_
              refine soff rfl rfl rfl rfl ?_
              refine sv rfl (opv_pick_t rfl rfl) ?_
              refine snil ?_
              refine ccond rfl (fun _ => ?_) (fun hx => Bool.noConfusion hx)
              refine cseq ?_
              refine cregion ?_
              refine sv rfl (opv_as rfl) ?_
              refine snil ?_
              refine cret ?_
              refine then_ret ?_
              obtain rfl := Option.some.inj h
              refine ⟨Or.inr rfl, _, _, _, (resVs_cons (ResV.tmp _ _ rfl) resVs_nil), (pubA_id rfl), ?_⟩
              rfl
            · replace h := ite_f hc h
              clear hc
              refine son rfl rfl rfl ?_
              refine sv rfl (opv_fieldAddr_lp fi33_2 rfl) ?_
              refine son rfl rfl rfl ?_
              refine sv rfl (opv_load1 ti3 rfl (.lp _ _ _ rfl) rfl) ?_
              refine son rfl rfl rfl ?_
              refine sv rfl (opv_gtr rfl rfl) ?_
              refine sv rfl (opv_pick_f rfl rfl) ?_
              refine sv rfl (opv_mv rfl) ?_
              refine ssplit 32 rfl (fun hc => ?_) (fun hc => ?_)
              · replace h := ite_t hc h
                clear hc
                refine soff rfl rfl rfl rfl ?_
                refine soff rfl rfl rfl rfl ?_
                refine soff rfl rfl rfl rfl ?_
                refine sv rfl (opv_pick_t rfl rfl) ?_
                refine sv rfl (opv_mv rfl) ?_
                refine soff rfl rfl rfl rfl ?_
                refine soff rfl rfl rfl rfl ?_
                refine soff rfl rfl rfl rfl ?_
                refine sv rfl (opv_pick_t rfl rfl) ?_
                refine snil ?_
                refine ccond rfl (fun _ => ?_) (fun hx => Bool.noConfusion hx)
                refine cseq ?_
                refine cregion ?_
                refine sv rfl (opv_as rfl) ?_
                refine snil ?_
                refine cret ?_
                refine then_ret ?_
                obtain rfl := Option.some.inj h
                refine ⟨Or.inr rfl, _, _, _, (resVs_cons (ResV.tmp _ _ rfl) resVs_nil), (pubA_id rfl), ?_⟩
                rfl
              · replace h := ite_f hc h
                clear hc
                refine son rfl rfl rfl ?_
                refine sv rfl (opv_fieldAddr_lp fi33_3 rfl) ?_
                refine son rfl rfl rfl ?_
                refine sv rfl (opv_load1 ti3 rfl (.lp _ _ _ rfl) rfl) ?_
                refine son rfl rfl rfl ?_
                refine sv rfl (opv_lss rfl rfl) ?_
                refine sv rfl (opv_pick_f rfl rfl) ?_
                refine sv rfl (opv_mv rfl) ?_
                refine ssplit 37 rfl (fun hc => ?_) (fun hc => ?_)
                · replace h := ite_t hc h
                  clear hc
                  refine soff rfl rfl rfl rfl ?_
                  refine soff rfl rfl rfl rfl ?_
                  refine soff rfl rfl rfl rfl ?_
                  refine sv rfl (opv_pick_t rfl rfl) ?_
                  refine snil ?_
                  refine ccond rfl (fun _ => ?_) (fun hx => Bool.noConfusion hx)
                  refine cseq ?_
                  refine cregion ?_
                  refine sv rfl (opv_as rfl) ?_
                  refine snil ?_
                  refine cret ?_
                  refine then_ret ?_
                  obtain rfl := Option.some.inj h
                  refine ⟨Or.inr rfl, _, _, _, (resVs_cons (ResV.tmp _ _ rfl) resVs_nil), (pubA_id rfl), ?_⟩
                  rfl
                · replace h := ite_f hc h
                  clear hc
                  refine son rfl rfl rfl ?_
                  refine sv rfl (opv_fieldAddr_lp fi33_3 rfl) ?_
                  refine son rfl rfl rfl ?_
                  refine sv rfl (opv_load1 ti3 rfl (.lp _ _ _ rfl) rfl) ?_
                  refine son rfl rfl rfl ?_
                  refine sv rfl (opv_gtr rfl rfl) ?_
                  refine sv rfl (opv_pick_f rfl rfl) ?_
                  refine snil ?_
                  refine ccond rfl (fun hc => ?_) (fun hc => ?_)
                  · replace h := ite_t hc h
                    clear hc
                    refine cseq ?_
                    refine cregion ?_
                    refine sv rfl (opv_as rfl) ?_
                    refine snil ?_
                    refine cret ?_
                    refine then_ret ?_
                    obtain rfl := Option.some.inj h
                    refine ⟨Or.inr rfl, _, _, _, (resVs_cons (ResV.tmp _ _ rfl) resVs_nil), (pubA_id rfl), ?_⟩
                    rfl
                  · replace h := ite_f hc h
                    clear hc
                    refine cskip ?_
                    refine then_normal ?_
                    exact ⟨(), _, h, ⟨rfl, rfl, trivial⟩, rfl⟩

def m17_l16_reply (a0 : GR05Reply) : Option GMsgReply :=
  some (GMsgReply.mk a0.Kind a0.Seq a0.Code a0.N a0.Found a0.Val a0.List)

set_option maxRecDepth 100000 in
theorem m17_l16_reply_c {a0 : GR05Reply} {r : GMsgReply} (h : m17_l16_reply a0 = some r) : CallsA Tryd.prog 17 [.agg [.i .i64 a0.Kind, .i .i64 a0.Seq, .i .i64 a0.Code, .i .i64 a0.N, .b a0.Found, .sl a0.Val.length (a0.Val.flatMap eU8), .sl a0.List.length (a0.List.flatMap eGApiKV)]] (· = .s (.agg [.i .i64 r.Kind, .i .i64 r.Seq, .i .i64 r.Code, .i .i64 r.N, .b r.Found, .sl r.Val.length (r.Val.flatMap eU8), .sl r.List.length (r.List.flatMap eGApiKV)])) := by
  unfold m17_l16_reply at h
  refine callsA_of Tryd.func17 rfl (nt := 18) rfl (Nat.le_of_ble_eq_true rfl) ?_
  intro w0 S0
  refine cseq ?_
  refine cregion ?_
  refine sbox rfl rfl ?_
  refine salloc rfl zi48 ?_
  refine snil ?_
  refine cseq ?_
  refine cregion ?_
  refine sv rfl (opv_fieldAddr_lp fi37_0 rfl) ?_
  refine sv rfl (opv_load1 ti3 rfl (.lp _ _ _ rfl) rfl) ?_
  refine sv rfl (opv_fieldAddr_lp fi37_1 rfl) ?_
  refine sv rfl (opv_load1 ti3 rfl (.lp _ _ _ rfl) rfl) ?_
  refine sv rfl (opv_fieldAddr_lp fi37_2 rfl) ?_
  refine sv rfl (opv_load1 ti34 rfl (.lp _ _ _ rfl) rfl) ?_
  refine sv rfl (opv_fieldAddr_lp fi37_3 rfl) ?_
  refine sv rfl (opv_load1 ti3 rfl (.lp _ _ _ rfl) rfl) ?_
  refine sv rfl (opv_fieldAddr_lp fi37_4 rfl) ?_
  refine sv rfl (opv_load1 ti4 rfl (.lp _ _ _ rfl) rfl) ?_
  refine sv rfl (opv_fieldAddr_lp fi37_5 rfl) ?_
  refine sv rfl (opv_load1 ti29 rfl (.lp _ _ _ rfl) rfl) ?_
  refine sv rfl (opv_fieldAddr_lp fi37_6 rfl) ?_
  refine sv rfl (opv_load1 ti35 rfl (.lp _ _ _ rfl) rfl) ?_
  refine sv rfl (opv_build zi48 pi48 (parts_cons rfl (parts_cons rfl (parts_cons rfl (parts_cons rfl (parts_cons rfl (parts_cons rfl (parts_cons rfl parts_nil))))))) (bcons [.i .i64 a0.Kind, .i .i64 0, .i .i64 0, .i .i64 0, .b false, .raw (.slice none 0 0), .raw (.slice none 0 0)] rfl rfl (Nat.le_of_ble_eq_true rfl) rfl (bcons [.i .i64 a0.Kind, .i .i64 a0.Seq, .i .i64 0, .i .i64 0, .b false, .raw (.slice none 0 0), .raw (.slice none 0 0)] rfl rfl (Nat.le_of_ble_eq_true rfl) rfl (bcons [.i .i64 a0.Kind, .i .i64 a0.Seq, .i .i64 a0.Code, .i .i64 0, .b false, .raw (.slice none 0 0), .raw (.slice none 0 0)] rfl rfl (Nat.le_of_ble_eq_true rfl) rfl (bcons [.i .i64 a0.Kind, .i .i64 a0.Seq, .i .i64 a0.Code, .i .i64 a0.N, .b false, .raw (.slice none 0 0), .raw (.slice none 0 0)] rfl rfl (Nat.le_of_ble_eq_true rfl) rfl (bcons [.i .i64 a0.Kind, .i .i64 a0.Seq, .i .i64 a0.Code, .i .i64 a0.N, .b a0.Found, .raw (.slice none 0 0), .raw (.slice none 0 0)] rfl rfl (Nat.le_of_ble_eq_true rfl) rfl (bcons [.i .i64 a0.Kind, .i .i64 a0.Seq, .i .i64 a0.Code, .i .i64 a0.N, .b a0.Found, .sl a0.Val.length (a0.Val.flatMap eU8), .raw (.slice none 0 0)] rfl rfl (Nat.le_of_ble_eq_true rfl) rfl (bcons [.i .i64 a0.Kind, .i .i64 a0.Seq, .i .i64 a0.Code, .i .i64 a0.N, .b a0.Found, .sl a0.Val.length (a0.Val.flatMap eU8), .sl a0.List.length (a0.List.flatMap eGApiKV)] rfl rfl (Nat.le_of_ble_eq_true rfl) rfl (.nil _))))))))) ?_
  refine sstore sz48 rfl rfl rfl rfl (Nat.le_of_ble_eq_true rfl) ?_
  refine smem [.box [.i .i64 a0.Kind, .i .i64 a0.Seq, .i .i64 a0.Code, .i .i64 a0.N, .b a0.Found, .sl a0.Val.length (a0.Val.flatMap eU8), .sl a0.List.length (a0.List.flatMap eGApiKV)], .box [.i .i64 a0.Kind, .i .i64 a0.Seq, .i .i64 a0.Code, .i .i64 a0.N, .b a0.Found, .sl a0.Val.length (a0.Val.flatMap eU8), .sl a0.List.length (a0.List.flatMap eGApiKV)]] rfl ?_
  refine snil ?_
  refine cret ?_
  obtain rfl := Option.some.inj h
  refine ⟨Or.inr rfl, _, _, _, (resVs_cons (ResV.agg _ _ _ _ _ ti48 rfl (.lp _ _ _ rfl) (Nat.le_of_ble_eq_true rfl)) resVs_nil), (pubA_id rfl), ?_⟩
  rfl

def m7_l16_PipeSame_k3 (a0 : Int) (a1 : GR05Reply) (a2 : GR05Req) (v1 : Bool) (b3 : Int × (BitVec 64) × Int × (List GMsgReq) × (List GMsgReply)) : Option Bool :=
  (m14_l16_req (GR05Req.mk a2.Kind (wI ((BitVec.ofInt 64 a0 &&& BitVec.ofInt 64 7).toNat : Int)) a2.Token a2.Attempt a2.RO a2.Key a2.Val (GApiRange.mk a2.Rng.Lo a2.Rng.Hi a2.Rng.Open))).bind fun v4 => (m13_pipe_Offer (GPipePipe.mk (GSeqsWindow.mk b3.1 b3.2.1) b3.2.2.1 b3.2.2.2.1 b3.2.2.2.2) (GMsgReq.mk v4.Kind v4.Seq v4.Token v4.Attempt v4.RO v4.Key v4.Val (GApiRange.mk v4.Rng.Lo v4.Rng.Hi v4.Rng.Open))).bind fun v5 => (m31_r05_SaneReq (GR05Req.mk a2.Kind (wI ((BitVec.ofInt 64 a0 &&& BitVec.ofInt 64 7).toNat : Int)) a2.Token a2.Attempt a2.RO a2.Key a2.Val (GApiRange.mk a2.Rng.Lo a2.Rng.Hi a2.Rng.Open))).bind fun v6 => if (!v6) then (if v1 then (some (decide (v5.2.2.2 = 1))) else (some false)) else ((m17_l16_reply (GR05Reply.mk a1.Kind a1.Seq a1.Code a1.N a1.Found a1.Val a1.List)).bind fun v7 => (m16_pipe_Answer (GPipePipe.mk (GSeqsWindow.mk b3.1 b3.2.1) b3.2.2.1 b3.2.2.2.1 b3.2.2.2.2) v7).bind fun v8 => if v1 then (if (decide (v5.2.2.2 = 0)) then (if v5.2.2.1 then (if (decide (v5.2.1.N = (wI ((BitVec.ofInt 64 a0 &&& BitVec.ofInt 64 7).toNat : Int)))) then (if (decide (v5.2.1.Kind = 8)) then (if (decide (v5.2.1.Seq = (wI ((BitVec.ofInt 64 a0 &&& BitVec.ofInt 64 7).toNat : Int)))) then (some (decide (v8.2.2 = 7))) else (some false)) else (some false)) else (some false)) else (some false)) else (some false)) else (some false))

def m7_l16_PipeSame_k12 (s9 : Int × Int × (BitVec 64) × Int × (List GMsgReq) × (List GMsgReply)) (v11 : GPipePipe × GMsgReply × Int) (b12 : Unit) : Option (LR (Int × Int × (BitVec 64) × Int × (List GMsgReq) × (List GMsgReply)) (Int × (BitVec 64) × Int × (List GMsgReq) × (List GMsgReply)) (Bool)) :=
  some (.cont ((wI (s9.1 + 1)), v11.1.Win.Base, v11.1.Win.Bits, v11.1.Next, v11.1.Wait, v11.1.Past))

def m7_l16_PipeSame_s9 (a0 : Int) (s9 : Int × Int × (BitVec 64) × Int × (List GMsgReq) × (List GMsgReply)) : Option (LR (Int × Int × (BitVec 64) × Int × (List GMsgReq) × (List GMsgReply)) (Int × (BitVec 64) × Int × (List GMsgReq) × (List GMsgReply)) (Bool)) :=
  if (decide (s9.1 ≤ (wI ((BitVec.ofInt 64 a0 &&& BitVec.ofInt 64 7).toNat : Int)))) then ((m13_pipe_Offer (GPipePipe.mk (GSeqsWindow.mk s9.2.1 s9.2.2.1) s9.2.2.2.1 s9.2.2.2.2.1 s9.2.2.2.2.2) (GMsgReq.mk 8 s9.1 0 0 false ([] : List UInt8) ([] : List UInt8) (GApiRange.mk ([] : List UInt8) ([] : List UInt8) false))).bind fun v10 => (m16_pipe_Answer (GPipePipe.mk (GSeqsWindow.mk v10.1.Win.Base v10.1.Win.Bits) v10.1.Next v10.1.Wait v10.1.Past) (GMsgReply.mk 0 0 0 s9.1 false ([] : List UInt8) ([] : List GApiKV))).bind fun v11 => if (!decide (v10.2.2.2 = 0)) then (some (.ret false)) else (if (!decide (v11.2.2 = 0)) then (some (.ret false)) else (m7_l16_PipeSame_k12 s9 v11 ()))) else (some (.brk (s9.2.1, s9.2.2.1, s9.2.2.2.1, s9.2.2.2.2.1, s9.2.2.2.2.2)))

def m7_l16_PipeSame_k2 (a0 : Int) (a1 : GR05Reply) (a2 : GR05Req) (v1 : Bool) (b2 : Unit) : Option Bool :=
  (iter (m7_l16_PipeSame_s9 a0) fuel (0, 0, 0#64, 0, ([] : List GMsgReq), ([] : List GMsgReply))).bind fun x => match x with | .inl r => some r | .inr e13 => m7_l16_PipeSame_k3 a0 a1 a2 v1 e13
end Go.Proofs.YtlpanhfojeaamaaDoor.Abs
