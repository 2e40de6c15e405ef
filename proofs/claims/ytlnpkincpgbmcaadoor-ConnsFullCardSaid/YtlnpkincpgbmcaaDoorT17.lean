/-
  t
-/
import Derived.Test.YtlnpkincpgbmcaaDoorT17b
namespace Go.Proofs.YtlnpkincpgbmcaaDoor.Abs
open Go.RowKit Go.Proofs
def m4_l17_ConnsFull (a0 : Int) : Option Bool :=
  (m6_l17_awake).bind fun v1 => (iter m4_l17_ConnsFull_s8 fuel (0, ([] : List GConnsConn), 0)).bind fun x => match x with | .inl r => some r | .inr e11 => m4_l17_ConnsFull_k2 a0 v1 e11

set_option maxRecDepth 100000 in
theorem m4_l17_ConnsFull_c {a0 : Int} {r : Bool} (h : m4_l17_ConnsFull a0 = some r) : CallsA Tryd.prog 4 [.one (.i .i64 a0)] (· = .s (.one (.b r))) := by
  unfold m4_l17_ConnsFull at h
  refine callsA_of Tryd.func4 rfl (nt := 118) rfl (Nat.le_of_ble_eq_true rfl) ?_
  intro w0 S0
  refine cseq ?_
  refine cregion ?_
  refine sv rfl (opv_as rfl) ?_
  refine snil ?_
  refine cseq ?_
  refine cregion ?_
  obtain ⟨v1, hv1, h⟩ := bind_eq h
  refine scall1 rfl fn6 opnds_nil (pubA_id rfl) (m6_l17_awake_c hv1) ?_
  refine sv rfl (opv_as rfl) ?_
  refine snil ?_
  refine cseq ?_
  refine cregion ?_
  refine sv rfl (opv_build zi26 pi26 parts_nil (.nil _)) ?_
  refine salloc rfl zi26 ?_
  refine sstore sz26 rfl rfl rfl rfl (Nat.le_of_ble_eq_true rfl) ?_
  refine smem [.box [.raw (.slice none 0 0), .i .i64 0]] rfl ?_
  refine snil ?_
  refine cseq ?_
  refine cseq ?_
  refine cregion ?_
  refine sv rfl (opv_as rfl) ?_
  refine snil ?_
  refine cjoin ((List GConnsConn) × Int) (fun b2 => [(0, .s (.one (.i .i64 a0))), (3, .s (.one (.b v1))), (4, .s (.one (.lp 0 0)))]) (fun b2 => [.box [.sl b2.1.length (b2.1.flatMap eGConnsConn), .i .i64 b2.2]]) (fun b2 => m4_l17_ConnsFull_k2 a0 v1 b2 = some r) (fun _ _ => inbL_of rfl) (fun _ _ => blkinb_of rfl) (fun _ _ => Nat.le_of_ble_eq_true rfl) (fun b2 h => ?_) ?_
  · unfold m4_l17_ConnsFull_k2 at h
    refine cseq ?_
    refine cregion ?_
    refine sv rfl (opv_loadN ti26 rfl (.lp _ _ _ rfl) (Nat.le_of_ble_eq_true rfl)) ?_
    obtain ⟨v3, hv3, h⟩ := bind_eq h
    refine scall1 rfl fn7 (opnds_cons rfl opnds_nil) (pubA_id rfl) (m7_conns_Open_c hv3) ?_
    refine sv rfl (opv_mvt rfl) ?_
    refine sv rfl (opv_extract rfl rfl) ?_
    refine sv rfl (opv_extract rfl rfl) ?_
    refine sv rfl (opv_extract rfl rfl) ?_
    refine salloc rfl zi26 ?_
    refine sstore sz26 rfl rfl rfl rfl (Nat.le_of_ble_eq_true rfl) ?_
    refine smem [.box [.sl b2.1.length (b2.1.flatMap eGConnsConn), .i .i64 b2.2], .box [.sl v3.1.L.length (v3.1.L.flatMap eGConnsConn), .i .i64 v3.1.Next]] rfl ?_
    refine sv rfl (opv_as rfl) ?_
    refine sv rfl (opv_as rfl) ?_
    refine snil ?_
    refine cseq ?_
    refine cregion ?_
    refine sv rfl (opv_loadN ti26 rfl (.lp _ _ _ rfl) (Nat.le_of_ble_eq_true rfl)) ?_
    refine sv rfl (opv_mv rfl) ?_
    refine sv rfl (opv_and rfl rfl) ?_
    obtain ⟨v4, hv4, h⟩ := bind_eq h
    refine scall1 rfl fn9 (opnds_cons rfl (opnds_cons rfl opnds_nil)) (pubA_id rfl) (m9_conns_Close_c hv4) ?_
    refine sv rfl (opv_mvt rfl) ?_
    refine sv rfl (opv_extract rfl rfl) ?_
    refine sv rfl (opv_extract rfl rfl) ?_
    refine sv rfl (opv_extract rfl rfl) ?_
    refine salloc rfl zi45 ?_
    refine sstore sz26 rfl rfl rfl rfl (Nat.le_of_ble_eq_true rfl) ?_
    refine smem [.box [.sl v4.1.L.length (v4.1.L.flatMap eGConnsConn), .i .i64 v4.1.Next], .box [.sl v3.1.L.length (v3.1.L.flatMap eGConnsConn), .i .i64 v3.1.Next], .box [.i .i64 0, .i .i64 0, .i .i64 0, .i .i64 0, .raw (.slice none 0 0), .i .i64 0, .i .i64 0, .i .u64 ((0#64).toNat : Int), .i .i64 0, .raw (.slice none 0 0), .raw (.slice none 0 0)]] rfl ?_
    refine sstore sz45 rfl rfl rfl rfl (Nat.le_of_ble_eq_true rfl) ?_
    refine smem [.box [.sl v4.1.L.length (v4.1.L.flatMap eGConnsConn), .i .i64 v4.1.Next], .box [.sl v3.1.L.length (v3.1.L.flatMap eGConnsConn), .i .i64 v3.1.Next], .box [.i .i64 v4.2.1.ID, .i .i64 v4.2.1.Who, .i .i64 v4.2.1.Epoch, .i .i64 v4.2.1.Tx, .sl v4.2.1.Stream.Buf.length (v4.2.1.Stream.Buf.flatMap eU8), .i .i64 v4.2.1.Stream.Dead, .i .i64 v4.2.1.Pipe.Win.Base, .i .u64 (v4.2.1.Pipe.Win.Bits.toNat : Int), .i .i64 v4.2.1.Pipe.Next, .sl v4.2.1.Pipe.Wait.length (v4.2.1.Pipe.Wait.flatMap eGMsgReq), .sl v4.2.1.Pipe.Past.length (v4.2.1.Pipe.Past.flatMap eGMsgReply)]] rfl ?_
    refine sv rfl (opv_as rfl) ?_
    refine snil ?_
    refine cseq ?_
    refine cregion ?_
    refine sv rfl (opv_loadN ti26 rfl (.lp _ _ _ rfl) (Nat.le_of_ble_eq_true rfl)) ?_
    refine sv rfl (opv_mv rfl) ?_
    refine sv rfl (opv_and rfl rfl) ?_
    obtain ⟨v5, hv5, h⟩ := bind_eq h
    refine scall1 rfl fn11 (opnds_cons rfl (opnds_cons rfl opnds_nil)) (pubA_id rfl) (m11_conns_Find_c hv5) ?_
    refine sv rfl (opv_mvt rfl) ?_
    refine sv rfl (opv_extract rfl rfl) ?_
    refine sv rfl (opv_extract rfl rfl) ?_
    refine salloc rfl zi45 ?_
    refine sstore sz45 rfl rfl rfl rfl (Nat.le_of_ble_eq_true rfl) ?_
    refine smem [.box [.sl v4.1.L.length (v4.1.L.flatMap eGConnsConn), .i .i64 v4.1.Next], .box [.sl v3.1.L.length (v3.1.L.flatMap eGConnsConn), .i .i64 v3.1.Next], .box [.i .i64 v4.2.1.ID, .i .i64 v4.2.1.Who, .i .i64 v4.2.1.Epoch, .i .i64 v4.2.1.Tx, .sl v4.2.1.Stream.Buf.length (v4.2.1.Stream.Buf.flatMap eU8), .i .i64 v4.2.1.Stream.Dead, .i .i64 v4.2.1.Pipe.Win.Base, .i .u64 (v4.2.1.Pipe.Win.Bits.toNat : Int), .i .i64 v4.2.1.Pipe.Next, .sl v4.2.1.Pipe.Wait.length (v4.2.1.Pipe.Wait.flatMap eGMsgReq), .sl v4.2.1.Pipe.Past.length (v4.2.1.Pipe.Past.flatMap eGMsgReply)], .box [.i .i64 v5.1.ID, .i .i64 v5.1.Who, .i .i64 v5.1.Epoch, .i .i64 v5.1.Tx, .sl v5.1.Stream.Buf.length (v5.1.Stream.Buf.flatMap eU8), .i .i64 v5.1.Stream.Dead, .i .i64 v5.1.Pipe.Win.Base, .i .u64 (v5.1.Pipe.Win.Bits.toNat : Int), .i .i64 v5.1.Pipe.Next, .sl v5.1.Pipe.Wait.length (v5.1.Pipe.Wait.flatMap eGMsgReq), .sl v5.1.Pipe.Past.length (v5.1.Pipe.Past.flatMap eGMsgReply)]] rfl ?_
    refine sv rfl (opv_as rfl) ?_
    refine snil ?_
    refine cseq ?_
    refine cregion ?_
    refine sv rfl (opv_loadN ti26 rfl (.lp _ _ _ rfl) (Nat.le_of_ble_eq_true rfl)) ?_
    obtain ⟨v6, hv6, h⟩ := bind_eq h
    refine scall1 rfl fn7 (opnds_cons rfl opnds_nil) (pubA_id rfl) (m7_conns_Open_c hv6) ?_
    refine sv rfl (opv_mvt rfl) ?_
    refine sv rfl (opv_extract rfl rfl) ?_
    refine sv rfl (opv_extract rfl rfl) ?_
    refine sv rfl (opv_extract rfl rfl) ?_
    refine sstore sz26 rfl rfl rfl rfl (Nat.le_of_ble_eq_true rfl) ?_
    refine smem [.box [.sl v6.1.L.length (v6.1.L.flatMap eGConnsConn), .i .i64 v6.1.Next], .box [.sl v3.1.L.length (v3.1.L.flatMap eGConnsConn), .i .i64 v3.1.Next], .box [.i .i64 v4.2.1.ID, .i .i64 v4.2.1.Who, .i .i64 v4.2.1.Epoch, .i .i64 v4.2.1.Tx, .sl v4.2.1.Stream.Buf.length (v4.2.1.Stream.Buf.flatMap eU8), .i .i64 v4.2.1.Stream.Dead, .i .i64 v4.2.1.Pipe.Win.Base, .i .u64 (v4.2.1.Pipe.Win.Bits.toNat : Int), .i .i64 v4.2.1.Pipe.Next, .sl v4.2.1.Pipe.Wait.length (v4.2.1.Pipe.Wait.flatMap eGMsgReq), .sl v4.2.1.Pipe.Past.length (v4.2.1.Pipe.Past.flatMap eGMsgReply)], .box [.i .i64 v5.1.ID, .i .i64 v5.1.Who, .i .i64 v5.1.Epoch, .i .i64 v5.1.Tx, .sl v5.1.Stream.Buf.length (v5.1.Stream.Buf.flatMap eU8), .i .i64 v5.1.Stream.Dead, .i .i64 v5.1.Pipe.Win.Base, .i .u64 (v5.1.Pipe.Win.Bits.toNat : Int), .i .i64 v5.1.Pipe.Next, .sl v5.1.Pipe.Wait.length (v5.1.Pipe.Wait.flatMap eGMsgReq), .sl v5.1.Pipe.Past.length (v5.1.Pipe.Past.flatMap eGMsgReply)]] rfl ?_
    refine sv rfl (opv_as rfl) ?_
    refine sv rfl (opv_as rfl) ?_
    refine snil ?_
    refine cseq ?_
    refine cregion ?_
    refine sv rfl (opv_loadN ti26 rfl (.lp _ _ _ rfl) (Nat.le_of_ble_eq_true rfl)) ?_
    obtain ⟨v7, hv7, h⟩ := bind_eq h
    refine scall1 rfl fn11 (opnds_cons rfl (opnds_cons rfl opnds_nil)) (pubA_id rfl) (m11_conns_Find_c hv7) ?_
    refine sv rfl (opv_mvt rfl) ?_
    refine sv rfl (opv_extract rfl rfl) ?_
    refine sv rfl (opv_extract rfl rfl) ?_
    refine salloc rfl zi45 ?_
    refine sstore sz45 rfl rfl rfl rfl (Nat.le_of_ble_eq_true rfl) ?_
    refine smem [.box [.sl v6.1.L.length (v6.1.L.flatMap eGConnsConn), .i .i64 v6.1.Next], .box [.sl v3.1.L.length (v3.1.L.flatMap eGConnsConn), .i .i64 v3.1.Next], .box [.i .i64 v4.2.1.ID, .i .i64 v4.2.1.Who, .i .i64 v4.2.1.Epoch, .i .i64 v4.2.1.Tx, .sl v4.2.1.Stream.Buf.length (v4.2.1.Stream.Buf.flatMap eU8), .i .i64 v4.2.1.Stream.Dead, .i .i64 v4.2.1.Pipe.Win.Base, .i .u64 (v4.2.1.Pipe.Win.Bits.toNat : Int), .i .i64 v4.2.1.Pipe.Next, .sl v4.2.1.Pipe.Wait.length (v4.2.1.Pipe.Wait.flatMap eGMsgReq), .sl v4.2.1.Pipe.Past.length (v4.2.1.Pipe.Past.flatMap eGMsgReply)], .box [.i .i64 v5.1.ID, .i .i64 v5.1.Who, .i .i64 v5.1.Epoch, .i .i64 v5.1.Tx, .sl v5.1.Stream.Buf.length (v5.1.Stream.Buf.flatMap eU8), .i .i64 v5.1.Stream.Dead, .i .i64 v5.1.Pipe.Win.Base, .i .u64 (v5.1.Pipe.Win.Bits.toNat : Int), .i .i64 v5.1.Pipe.Next, .sl v5.1.Pipe.Wait.length (v5.1.Pipe.Wait.flatMap eGMsgReq), .sl v5.1.Pipe.Past.length (v5.1.Pipe.Past.flatMap eGMsgReply)], .box [.i .i64 v7.1.ID, .i .i64 v7.1.Who, .i .i64 v7.1.Epoch, .i .i64 v7.1.Tx, .sl v7.1.Stream.Buf.length (v7.1.Stream.Buf.flatMap eU8), .i .i64 v7.1.Stream.Dead, .i .i64 v7.1.Pipe.Win.Base, .i .u64 (v7.1.Pipe.Win.Bits.toNat : Int), .i .i64 v7.1.Pipe.Next, .sl v7.1.Pipe.Wait.length (v7.1.Pipe.Wait.flatMap eGMsgReq), .sl v7.1.Pipe.Past.length (v7.1.Pipe.Past.flatMap eGMsgReply)]] rfl ?_
    refine sv rfl (opv_as rfl) ?_
    refine snil ?_
    refine cseq ?_
    refine cregion ?_
    refine sv rfl (opv_mv rfl) ?_
    refine sv rfl (opv_mv rfl) ?_
    refine ssplit 73 rfl (fun hc => ?_) (fun hc => ?_)
    · replace h := ite_t hc h
      clear hc
      refine son rfl rfl rfl ?_
      refine sv rfl (opv_mv rfl) ?_
      refine son rfl rfl rfl ?_
      refine sv rfl (opv_ieql rfl rfl) ?_
      refine sv rfl (opv_pick_t rfl rfl) ?_
      refine sv rfl (opv_mv rfl) ?_
      refine ssplit 77 rfl (fun hc => ?_) (fun hc => ?_)
      · replace h := ite_t hc h
        clear hc
        refine son rfl rfl rfl ?_
        refine sv rfl (opv_mv rfl) ?_
        refine sv rfl (opv_pick_t rfl rfl) ?_
        refine sv rfl (opv_mv rfl) ?_
        refine ssplit 80 rfl (fun hc => ?_) (fun hc => ?_)
        · replace h := ite_t hc h
          clear hc
          refine son rfl rfl rfl ?_
          refine sv rfl (opv_fieldAddr_lp fi45_0 rfl) ?_
          refine son rfl rfl rfl ?_
          refine sv rfl (opv_load1 ti3 rfl (.lp _ _ _ rfl) rfl) ?_
          refine son rfl rfl rfl ?_
          refine sv rfl (opv_mv rfl) ?_
          refine son rfl rfl rfl ?_
          refine sv rfl (opv_and rfl rfl) ?_
          refine son rfl rfl rfl ?_
          refine sv rfl (opv_ieql rfl rfl) ?_
          refine sv rfl (opv_pick_t rfl rfl) ?_
          refine sv rfl (opv_mv rfl) ?_
          refine ssplit 87 rfl (fun hc => ?_) (fun hc => ?_)
          · replace h := ite_t hc h
            clear hc
            refine son rfl rfl rfl ?_
            refine sv rfl (opv_mv rfl) ?_
            refine son rfl rfl rfl ?_
            refine sv rfl (opv_not rfl) ?_
            refine sv rfl (opv_pick_t rfl rfl) ?_
            refine sv rfl (opv_mv rfl) ?_
            refine ssplit 91 rfl (fun hc => ?_) (fun hc => ?_)
            · replace h := ite_t hc h
              clear hc
              refine son rfl rfl rfl ?_
              refine sv rfl (opv_mv rfl) ?_
              refine son rfl rfl rfl ?_
              refine sv rfl (opv_ieql rfl rfl) ?_
              refine sv rfl (opv_pick_t rfl rfl) ?_
              refine sv rfl (opv_mv rfl) ?_
              refine ssplit 95 rfl (fun hc => ?_) (fun hc => ?_)
              · replace h := ite_t hc h
                clear hc
                refine son rfl rfl rfl ?_
                refine sv rfl (opv_mv rfl) ?_
                refine son rfl rfl rfl ?_
                refine sv rfl (opv_ieql rfl rfl) ?_
                refine sv rfl (opv_pick_t rfl rfl) ?_
                refine sv rfl (opv_mv rfl) ?_
                refine ssplit 99 rfl (fun hc => ?_) (fun hc => ?_)
                · replace h := ite_t hc h
                  clear hc
                  refine son rfl rfl rfl ?_
                  refine sv rfl (opv_mv rfl) ?_
                  refine sv rfl (opv_pick_t rfl rfl) ?_
                  refine sv rfl (opv_mv rfl) ?_
                  refine ssplit 102 rfl (fun hc => ?_) (fun hc => ?_)
                  · replace h := ite_t hc h
                    clear hc
                    refine son rfl rfl rfl ?_
                    refine sv rfl (opv_fieldAddr_lp fi45_1 rfl) ?_
                    refine son rfl rfl rfl ?_
                    refine sv rfl (opv_load1 ti3 rfl (.lp _ _ _ rfl) rfl) ?_
                    refine son rfl rfl rfl ?_
                    refine sv rfl (opv_ieql rfl rfl) ?_
                    refine sv rfl (opv_pick_t rfl rfl) ?_
                    refine sv rfl (opv_mv rfl) ?_
                    refine ssplit 107 rfl (fun hc => ?_) (fun hc => ?_)
                    · replace h := ite_t hc h
                      clear hc
                      refine son rfl rfl rfl ?_
                      refine sv rfl (opv_fieldAddr_lp fi45_3 rfl) ?_
                      refine son rfl rfl rfl ?_
                      refine sv rfl (opv_load1 ti3 rfl (.lp _ _ _ rfl) rfl) ?_
                      refine son rfl rfl rfl ?_
                      refine sv rfl (opv_ieql rfl rfl) ?_
                      refine sv rfl (opv_pick_t rfl rfl) ?_
                      refine sv rfl (opv_mv rfl) ?_
                      refine ssplit 112 rfl (fun hc => ?_) (fun hc => ?_)
                      · replace h := ite_t hc h
                        clear hc
                        refine son rfl rfl rfl ?_
                        refine sv rfl (opv_fieldAddr_lp fi26_0 rfl) ?_
                        refine son rfl rfl rfl ?_
                        refine sv rfl (opv_load1 ti24 rfl (.lp _ _ _ rfl) rfl) ?_
                        refine son rfl rfl rfl ?_
                        refine sv rfl (opv_len_sl si24 rfl) ?_
                        refine son rfl rfl rfl ?_
                        refine sv rfl (opv_ieql rfl rfl) ?_
                        refine sv rfl (opv_pick_t rfl rfl) ?_
                        refine sv rfl (opv_as rfl) ?_
                        refine snil ?_
                        refine cret ?_
                        obtain rfl := Option.some.inj h
                        refine ⟨Or.inr rfl, _, _, _, (resVs_cons (ResV.tmp _ _ rfl) resVs_nil), (pubA_id rfl), ?_⟩
                        rfl
                      · replace h := ite_f hc h
                        clear hc
                        refine soff rfl rfl rfl rfl ?_
                        refine soff rfl rfl rfl rfl ?_
                        refine soff rfl rfl rfl rfl ?_
                        refine soff rfl rfl rfl rfl ?_
                        refine sv rfl (opv_pick_f rfl rfl) ?_
                        refine sv rfl (opv_as rfl) ?_
                        refine snil ?_
                        refine cret ?_
                        obtain rfl := Option.some.inj h
                        refine ⟨Or.inr rfl, _, _, _, (resVs_cons (ResV.tmp _ _ rfl) resVs_nil), (pubA_id rfl), ?_⟩
                        rfl
                    · replace h := ite_f hc h
                      clear hc
                      refine soff rfl rfl rfl rfl ?_
                      refine soff rfl rfl rfl rfl ?_
                      refine soff rfl rfl rfl rfl ?_
                      refine sv rfl (opv_pick_f rfl rfl) ?_
                      refine sv rfl (opv_mv rfl) ?_
                      refine soff rfl rfl rfl rfl ?_
                      refine soff rfl rfl rfl rfl ?_
                      refine soff rfl rfl rfl rfl ?_
                      refine soff rfl rfl rfl rfl ?_
                      refine sv rfl (opv_pick_f rfl rfl) ?_
                      refine sv rfl (opv_as rfl) ?_
                      refine snil ?_
                      refine cret ?_
                      obtain rfl := Option.some.inj h
                      refine ⟨Or.inr rfl, _, _, _, (resVs_cons (ResV.tmp _ _ rfl) resVs_nil), (pubA_id rfl), ?_⟩
                      rfl
                  · replace h := ite_f hc h
                    clear hc
                    refine soff rfl rfl rfl rfl ?_
                    refine soff rfl rfl rfl rfl ?_
                    refine soff rfl rfl rfl rfl ?_
                    refine sv rfl (opv_pick_f rfl rfl) ?_
                    refine sv rfl (opv_mv rfl) ?_
                    refine soff rfl rfl rfl rfl ?_
                    refine soff rfl rfl rfl rfl ?_
                    refine soff rfl rfl rfl rfl ?_
                    refine sv rfl (opv_pick_f rfl rfl) ?_
                    refine sv rfl (opv_mv rfl) ?_
                    refine soff rfl rfl rfl rfl ?_
                    refine soff rfl rfl rfl rfl ?_
                    refine soff rfl rfl rfl rfl ?_
                    refine soff rfl rfl rfl rfl ?_
                    refine sv rfl (opv_pick_f rfl rfl) ?_
                    refine sv rfl (opv_as rfl) ?_
                    refine snil ?_
                    refine cret ?_
                    obtain rfl := Option.some.inj h
                    refine ⟨Or.inr rfl, _, _, _, (resVs_cons (ResV.tmp _ _ rfl) resVs_nil), (pubA_id rfl), ?_⟩
                    rfl
                · replace h := ite_f hc h
                  clear hc
                  refine soff rfl rfl rfl rfl ?_
                  refine sv rfl (opv_pick_f rfl rfl) ?_
                  refine sv rfl (opv_mv rfl) ?_
                  refine soff rfl rfl rfl rfl ?_
                  refine soff rfl rfl rfl rfl ?_
                  refine soff rfl rfl rfl rfl ?_
                  refine sv rfl (opv_pick_f rfl rfl) ?_
                  refine sv rfl (opv_mv rfl) ?_
                  refine soff rfl rfl rfl rfl ?_
                  refine soff rfl rfl rfl rfl ?_
                  refine soff rfl rfl rfl rfl ?_
                  refine sv rfl (opv_pick_f rfl rfl) ?_
                  refine sv rfl (opv_mv rfl) ?_
                  refine soff rfl rfl rfl rfl ?_
                  refine soff rfl rfl rfl rfl ?_
                  refine soff rfl rfl rfl rfl ?_
                  refine soff rfl rfl rfl rfl ?_
                  refine sv rfl (opv_pick_f rfl rfl) ?_
                  refine sv rfl (opv_as rfl) ?_
                  refine snil ?_
                  refine cret ?_
                  obtain rfl := Option.some.inj h
                  refine ⟨Or.inr rfl, _, _, _, (resVs_cons (ResV.tmp _ _ rfl) resVs_nil), (pubA_id rfl), ?_⟩
                  rfl
              · replace h := ite_f hc h
                clear hc
                refine soff rfl rfl rfl rfl ?_
                refine soff rfl rfl rfl rfl ?_
                refine sv rfl (opv_pick_f rfl rfl) ?_
                refine sv rfl (opv_mv rfl) ?_
                refine soff rfl rfl rfl rfl ?_
                refine sv rfl (opv_pick_f rfl rfl) ?_
                refine sv rfl (opv_mv rfl) ?_
                refine soff rfl rfl rfl rfl ?_
                refine soff rfl rfl rfl rfl ?_
                refine soff rfl rfl rfl rfl ?_
                refine sv rfl (opv_pick_f rfl rfl) ?_
                refine sv rfl (opv_mv rfl) ?_
                refine soff rfl rfl rfl rfl ?_
                refine soff rfl rfl rfl rfl ?_
                refine soff rfl rfl rfl rfl ?_
                refine sv rfl (opv_pick_f rfl rfl) ?_
                refine sv rfl (opv_mv rfl) ?_
                refine soff rfl rfl rfl rfl ?_
                refine soff rfl rfl rfl rfl ?_
                refine soff rfl rfl rfl rfl ?_
                refine soff rfl rfl rfl rfl ?_
                refine sv rfl (opv_pick_f rfl rfl) ?_
                refine sv rfl (opv_as rfl) ?_
                refine snil ?_
                refine cret ?_
                obtain rfl := Option.some.inj h
                refine ⟨Or.inr rfl, _, _, _, (resVs_cons (ResV.tmp _ _ rfl) resVs_nil), (pubA_id rfl), ?_⟩
                rfl
            · replace h := ite_f hc h
              clear hc
              refine soff rfl rfl rfl rfl ?_
              refine soff rfl rfl rfl rfl ?_
              refine sv rfl (opv_pick_f rfl rfl) ?_
              refine sv rfl (opv_mv rfl) ?_
              refine soff rfl rfl rfl rfl ?_
              refine soff rfl rfl rfl rfl ?_
              refine sv rfl (opv_pick_f rfl rfl) ?_
              refine sv rfl (opv_mv rfl) ?_
              refine soff rfl rfl rfl rfl ?_
              refine sv rfl (opv_pick_f rfl rfl) ?_
              refine sv rfl (opv_mv rfl) ?_
              refine soff rfl rfl rfl rfl ?_
              refine soff rfl rfl rfl rfl ?_
              refine soff rfl rfl rfl rfl ?_
              refine sv rfl (opv_pick_f rfl rfl) ?_
              refine sv rfl (opv_mv rfl) ?_
              refine soff rfl rfl rfl rfl ?_
              refine soff rfl rfl rfl rfl ?_
              refine soff rfl rfl rfl rfl ?_
              refine sv rfl (opv_pick_f rfl rfl) ?_
              refine sv rfl (opv_mv rfl) ?_
              refine soff rfl rfl rfl rfl ?_
              refine soff rfl rfl rfl rfl ?_
              refine soff rfl rfl rfl rfl ?_
              refine soff rfl rfl rfl rfl ?_
              refine sv rfl (opv_pick_f rfl rfl) ?_
              refine sv rfl (opv_as rfl) ?_
              refine snil ?_
              refine cret ?_
              obtain rfl := Option.some.inj h
              refine ⟨Or.inr rfl, _, _, _, (resVs_cons (ResV.tmp _ _ rfl) resVs_nil), (pubA_id rfl), ?_⟩
              rfl
          · replace h := ite_f hc h
            clear hc
            refine soff rfl rfl rfl rfl ?_
            refine soff rfl rfl rfl rfl ?_
            refine sv rfl (opv_pick_f rfl rfl) ?_
            refine sv rfl (opv_mv rfl) ?_
            refine soff rfl rfl rfl rfl ?_
            refine soff rfl rfl rfl rfl ?_
            refine sv rfl (opv_pick_f rfl rfl) ?_
            refine sv rfl (opv_mv rfl) ?_
            refine soff rfl rfl rfl rfl ?_
            refine soff rfl rfl rfl rfl ?_
            refine sv rfl (opv_pick_f rfl rfl) ?_
            refine sv rfl (opv_mv rfl) ?_
            refine soff rfl rfl rfl rfl ?_
            refine sv rfl (opv_pick_f rfl rfl) ?_
            refine sv rfl (opv_mv rfl) ?_
            refine soff rfl rfl rfl rfl ?_
            refine soff rfl rfl rfl rfl ?_
            refine soff rfl rfl rfl rfl ?_
            refine sv rfl (opv_pick_f rfl rfl) ?_
            refine sv rfl (opv_mv rfl) ?_
            refine soff rfl rfl rfl rfl ?_
            refine soff rfl rfl rfl rfl ?_
            refine soff rfl rfl rfl rfl ?_
            refine sv rfl (opv_pick_f rfl rfl) ?_
            refine sv rfl (opv_mv rfl) ?_
            refine soff rfl rfl rfl rfl ?_
            refine soff rfl rfl rfl rfl ?_
            refine soff rfl rfl rfl rfl ?_
            refine soff rfl rfl rfl rfl ?_
            refine sv rfl (opv_pick_f rfl rfl) ?_
            refine sv rfl (opv_as rfl) ?_
            refine snil ?_
            refine cret ?_
            obtain rfl := Option.some.inj h
            refine ⟨Or.inr rfl, _, _, _, (resVs_cons (ResV.tmp _ _ rfl) resVs_nil), (pubA_id rfl), ?_⟩
            rfl
        · replace h := ite_f hc h
          clear hc
          refine soff rfl rfl rfl rfl ?_
          refine soff rfl rfl rfl rfl ?_
          refine soff rfl rfl rfl rfl ?_
          refine soff rfl rfl rfl rfl ?_
          refine soff rfl rfl rfl rfl ?_
          refine sv rfl (opv_pick_f rfl rfl) ?_
          refine sv rfl (opv_mv rfl) ?_
          refine soff rfl rfl rfl rfl ?_
          refine soff rfl rfl rfl rfl ?_
          refine sv rfl (opv_pick_f rfl rfl) ?_
          refine sv rfl (opv_mv rfl) ?_
          refine soff rfl rfl rfl rfl ?_
          refine soff rfl rfl rfl rfl ?_
          refine sv rfl (opv_pick_f rfl rfl) ?_
          refine sv rfl (opv_mv rfl) ?_
          refine soff rfl rfl rfl rfl ?_
          refine soff rfl rfl rfl rfl ?_
          refine sv rfl (opv_pick_f rfl rfl) ?_
          refine sv rfl (opv_mv rfl) ?_
          refine soff rfl rfl rfl rfl ?_
          refine sv rfl (opv_pick_f rfl rfl) ?_
          refine sv rfl (opv_mv rfl) ?_
          refine soff rfl rfl rfl rfl ?_
          refine soff rfl rfl rfl rfl ?_
          refine soff rfl rfl rfl rfl ?_
          refine sv rfl (opv_pick_f rfl rfl) ?_
          refine sv rfl (opv_mv rfl) ?_
          refine soff rfl rfl rfl rfl ?_
          refine soff rfl rfl rfl rfl ?_
          refine soff rfl rfl rfl rfl ?_
          refine sv rfl (opv_pick_f rfl rfl) ?_
          refine sv rfl (opv_mv rfl) ?_
          refine soff rfl rfl rfl rfl ?_
          refine soff rfl rfl rfl rfl ?_
          refine soff rfl rfl rfl rfl ?_
          refine soff rfl rfl rfl rfl ?_
          refine sv rfl (opv_pick_f rfl rfl) ?_
          refine sv rfl (opv_as rfl) ?_
          refine snil ?_
          refine cret ?_
          obtain rfl := Option.some.inj h
          refine ⟨Or.inr rfl, _, _, _, (resVs_cons (ResV.tmp _ _ rfl) resVs_nil), (pubA_id rfl), ?_⟩
          rfl
      · replace h := ite_f hc h
        clear hc
        refine soff rfl rfl rfl rfl ?_
        refine sv rfl (opv_pick_f rfl rfl) ?_
        refine sv rfl (opv_mv rfl) ?_
        refine soff rfl rfl rfl rfl ?_
        refine soff rfl rfl rfl rfl ?_
        refine soff rfl rfl rfl rfl ?_
        refine soff rfl rfl rfl rfl ?_
        refine soff rfl rfl rfl rfl ?_
        refine sv rfl (opv_pick_f rfl rfl) ?_
        refine sv rfl (opv_mv rfl) ?_
        refine soff rfl rfl rfl rfl ?_
        refine soff rfl rfl rfl rfl ?_
        refine sv rfl (opv_pick_f rfl rfl) ?_
        refine sv rfl (opv_mv rfl) ?_
        refine soff rfl rfl rfl rfl ?_
        refine soff rfl rfl rfl rfl ?_
        refine sv rfl (opv_pick_f rfl rfl) ?_
        refine sv rfl (opv_mv rfl) ?_
        refine soff rfl rfl rfl rfl ?_
        refine soff rfl rfl rfl rfl ?_
        refine sv rfl (opv_pick_f rfl rfl) ?_
        refine sv rfl (opv_mv rfl) ?_
        refine soff rfl rfl rfl rfl ?_
        refine sv rfl (opv_pick_f rfl rfl) ?_
        refine sv rfl (opv_mv rfl) ?_
        refine soff rfl rfl rfl rfl ?_
        refine soff rfl rfl rfl rfl ?_
        refine soff rfl rfl rfl rfl ?_
        refine sv rfl (opv_pick_f rfl rfl) ?_
        refine sv rfl (opv_mv rfl) ?_
        refine soff rfl rfl rfl rfl ?_
        refine soff rfl rfl rfl rfl ?_
        refine soff rfl rfl rfl rfl ?_
        refine sv rfl (opv_pick_f rfl rfl) ?_
        refine sv rfl (opv_mv rfl) ?_
        refine soff rfl rfl rfl rfl ?_
        refine soff rfl rfl rfl rfl ?_
        refine soff rfl rfl rfl rfl ?_
        refine soff rfl rfl rfl rfl ?_
        refine sv rfl (opv_pick_f rfl rfl) ?_
        refine sv rfl (opv_as rfl) ?_
        refine snil ?_
        refine cret ?_
        obtain rfl := Option.some.inj h
        refine ⟨Or.inr rfl, _, _, _, (resVs_cons (ResV.tmp _ _ rfl) resVs_nil), (pubA_id rfl), ?_⟩
        rfl
    · replace h := ite_f hc h
      clear hc
      refine soff rfl rfl rfl rfl ?_
      refine soff rfl rfl rfl rfl ?_
      refine sv rfl (opv_pick_f rfl rfl) ?_
      refine sv rfl (opv_mv rfl) ?_
      refine soff rfl rfl rfl rfl ?_
      refine sv rfl (opv_pick_f rfl rfl) ?_
      refine sv rfl (opv_mv rfl) ?_
      refine soff rfl rfl rfl rfl ?_
      refine soff rfl rfl rfl rfl ?_
      refine soff rfl rfl rfl rfl ?_
      refine soff rfl rfl rfl rfl ?_
      refine soff rfl rfl rfl rfl ?_
      refine sv rfl (opv_pick_f rfl rfl) ?_
      refine sv rfl (opv_mv rfl) ?_
      refine soff rfl rfl rfl rfl ?_
      refine soff rfl rfl rfl rfl ?_
      refine sv rfl (opv_pick_f rfl rfl) ?_
      refine sv rfl (opv_mv rfl) ?_
      refine soff rfl rfl rfl rfl ?_
      refine soff rfl rfl rfl rfl ?_
      refine sv rfl (opv_pick_f rfl rfl) ?_
      refine sv rfl (opv_mv rfl) ?_
      refine soff rfl rfl rfl rfl ?_
      refine soff rfl rfl rfl rfl ?_
      refine sv rfl (opv_pick_f rfl rfl) ?_
      refine sv rfl (opv_mv rfl) ?_
      refine soff rfl rfl rfl rfl ?_
      refine sv rfl (opv_pick_f rfl rfl) ?_
      refine sv rfl (opv_mv rfl) ?_
      refine soff rfl rfl rfl rfl ?_
      refine soff rfl rfl rfl rfl ?_
      refine soff rfl rfl rfl rfl ?_
      refine sv rfl (opv_pick_f rfl rfl) ?_
      refine sv rfl (opv_mv rfl) ?_
      refine soff rfl rfl rfl rfl ?_
      refine soff rfl rfl rfl rfl ?_
      refine soff rfl rfl rfl rfl ?_
      refine sv rfl (opv_pick_f rfl rfl) ?_
      refine sv rfl (opv_mv rfl) ?_
      refine soff rfl rfl rfl rfl ?_
      refine soff rfl rfl rfl rfl ?_
      refine soff rfl rfl rfl rfl ?_
      refine soff rfl rfl rfl rfl ?_
      refine sv rfl (opv_pick_f rfl rfl) ?_
      refine sv rfl (opv_as rfl) ?_
      refine snil ?_
      refine cret ?_
      obtain rfl := Option.some.inj h
      refine ⟨Or.inr rfl, _, _, _, (resVs_cons (ResV.tmp _ _ rfl) resVs_nil), (pubA_id rfl), ?_⟩
      rfl
  · skip
    refine cblock ?_
    refine cpubbox 0 0 rfl rfl PubL.nil rfl ?_
    obtain ⟨x8, hx8, ho8⟩ := bind_eq h
    refine awc_loop (G := Nat × (Int × (List GConnsConn) × Int)) (fun g => [(0, .s (.one (.i .i64 a0))), (3, .s (.one (.b v1))), (4, .s (.one (.lp 0 0))), (5, .s (.one (.i .i64 g.2.1)))]) (fun g => [.box [.sl g.2.2.1.length (g.2.2.1.flatMap eGConnsConn), .i .i64 g.2.2.2]]) (fun g => iter m4_l17_ConnsFull_s8 g.1 g.2 = some x8) (fun g => g.1) (fuel, (0, ([] : List GConnsConn), 0)) hx8 ⟨rfl, rfl, rfl, rfl, trivial⟩ [] rfl (fun _ _ => inbL_of rfl) (fun _ _ => blkinb_of rfl) (fun _ _ => Nat.le_of_ble_eq_true rfl) ?_
    clear hx8 h
    rintro ⟨n8, s8⟩ h
    obtain ⟨n8, y8, rfl, h, hk8⟩ := iter_eq h
    unfold m4_l17_ConnsFull_s8 at h
    refine cseq ?_
    refine cseq ?_
    refine cregion ?_
    refine sv rfl (opv_mv rfl) ?_
    refine sv rfl (opv_lss rfl rfl) ?_
    refine snil ?_
    refine ccond rfl (fun hc => ?_) (fun hc => ?_)
    · replace h := ite_t hc h
      clear hc
      refine cskip ?_
      refine then_normal ?_
      refine cseq ?_
      refine cblock ?_
      refine cseq ?_
      refine cregion ?_
      refine sv rfl (opv_loadN ti26 rfl (.lp _ _ _ rfl) (Nat.le_of_ble_eq_true rfl)) ?_
      obtain ⟨v9, hv9, h⟩ := bind_eq h
      refine scall1 rfl fn7 (opnds_cons rfl opnds_nil) (pubA_id rfl) (m7_conns_Open_c hv9) ?_
      refine sv rfl (opv_mvt rfl) ?_
      refine sv rfl (opv_extract rfl rfl) ?_
      refine sv rfl (opv_extract rfl rfl) ?_
      refine sv rfl (opv_extract rfl rfl) ?_
      refine salloc rfl zi26 ?_
      refine sstore sz26 rfl rfl rfl rfl (Nat.le_of_ble_eq_true rfl) ?_
      refine smem [.box [.sl s8.2.1.length (s8.2.1.flatMap eGConnsConn), .i .i64 s8.2.2], .box [.sl v9.1.L.length (v9.1.L.flatMap eGConnsConn), .i .i64 v9.1.Next]] rfl ?_
      refine sv rfl (opv_as rfl) ?_
      refine sv rfl (opv_as rfl) ?_
      refine snil ?_
      refine cseq ?_
      refine cseq ?_
      refine cjoin3 (Unit) (fun b10 => [(0, .s (.one (.i .i64 a0))), (3, .s (.one (.b v1))), (4, .s (.one (.lp 0 0))), (5, .s (.one (.i .i64 s8.1))), (6, .s (.one (.lp 1 0)))]) (fun b10 => [.box [.sl s8.2.1.length (s8.2.1.flatMap eGConnsConn), .i .i64 s8.2.2], .box [.sl v9.1.L.length (v9.1.L.flatMap eGConnsConn), .i .i64 v9.1.Next]]) (fun b10 => m4_l17_ConnsFull_k10 s8 v9 b10 = some y8) (fun _ _ => inbL_of rfl) (fun _ _ => blkinb_of rfl) (fun _ _ => Nat.le_of_ble_eq_true rfl) (fun b10 h => ?_) ?_
      · unfold m4_l17_ConnsFull_k10 at h
        refine cregion ?_
        refine sv rfl (opv_loadN ti26 rfl (.lp _ _ _ rfl) (Nat.le_of_ble_eq_true rfl)) ?_
        refine sstore sz26 rfl rfl rfl rfl (Nat.le_of_ble_eq_true rfl) ?_
        refine smem [.box [.sl v9.1.L.length (v9.1.L.flatMap eGConnsConn), .i .i64 v9.1.Next], .box [.sl v9.1.L.length (v9.1.L.flatMap eGConnsConn), .i .i64 v9.1.Next]] rfl ?_
        refine snil0 ?_
        refine block_normal ?_
        refine then_normal ?_
        refine cregion ?_
        refine sv rfl (opv_mv rfl) ?_
        refine sv rfl (opv_add rfl rfl) ?_
        refine sv rfl (opv_as rfl) ?_
        refine snil ?_
        obtain rfl := Option.some.inj h
        exact ⟨(n8, ((wI (s8.1 + 1)), v9.1.L, v9.1.Next)), _, hk8, ⟨rfl, rfl, rfl, rfl, trivial⟩, rfl, Nat.lt_succ_self _⟩
      · skip
        refine cregion ?_
        refine sv rfl (opv_mv rfl) ?_
        refine sv rfl (opv_ineq rfl rfl) ?_
        refine sv rfl (opv_mv rfl) ?_
        refine ssplit 34 rfl (fun hc => ?_) (fun hc => ?_)
        · replace h := ite_t hc h
          clear hc
          refine soff rfl rfl rfl rfl ?_
          refine soff rfl rfl rfl rfl ?_
          refine soff rfl rfl rfl rfl ?_
          refine sv rfl (opv_pick_t rfl rfl) ?_
          refine snil ?_
          refine ccond rfl (fun _ => ?_) (fun hx => Bool.noConfusion hx)
          refine cseq ?_
          refine cregion ?_
          refine sv rfl (opv_as rfl) ?_
          refine snil ?_
          refine cret ?_
          refine then_ret ?_
          refine block_ret ?_
          refine then_ret ?_
          refine then_ret ?_
          refine block_ret ?_
          refine then_ret ?_
          obtain rfl := Option.some.inj h
          obtain rfl : Sum.inl _ = x8 := hk8
          replace ho8 : some _ = some _ := ho8
          obtain rfl := Option.some.inj ho8
          refine ⟨Or.inr rfl, _, _, _, (resVs_cons (ResV.tmp _ _ rfl) resVs_nil), (pubA_id rfl), ?_⟩
          rfl
        · replace h := ite_f hc h
          clear hc
          refine son rfl rfl rfl ?_
          refine sv rfl (opv_mv rfl) ?_
          refine son rfl rfl rfl ?_
          refine sv rfl (opv_mv rfl) ?_
          refine son rfl rfl rfl ?_
          refine sv rfl (opv_ineq rfl rfl) ?_
          refine sv rfl (opv_pick_f rfl rfl) ?_
          refine snil ?_
          refine ccond rfl (fun hc => ?_) (fun hc => ?_)
          · replace h := ite_t hc h
            clear hc
            refine cseq ?_
            refine cregion ?_
            refine sv rfl (opv_as rfl) ?_
            refine snil ?_
            refine cret ?_
            refine then_ret ?_
            refine block_ret ?_
            refine then_ret ?_
            refine then_ret ?_
            refine block_ret ?_
            refine then_ret ?_
            obtain rfl := Option.some.inj h
            obtain rfl : Sum.inl _ = x8 := hk8
            replace ho8 : some _ = some _ := ho8
            obtain rfl := Option.some.inj ho8
            refine ⟨Or.inr rfl, _, _, _, (resVs_cons (ResV.tmp _ _ rfl) resVs_nil), (pubA_id rfl), ?_⟩
            rfl
          · replace h := ite_f hc h
            clear hc
            refine cskip ?_
            refine then_normal ?_
            exact ⟨(), _, h, ⟨rfl, rfl, rfl, rfl, rfl, trivial⟩, rfl⟩
    · replace h := ite_f hc h
      clear hc
      refine cexit ?_
      refine then_exit ?_
      refine then_exit ?_
      refine block_hit ?_
      refine then_normal ?_
      obtain rfl := Option.some.inj h
      obtain rfl : _ = x8 := hk8
      exact ⟨(s8.2.1, s8.2.2), _, ho8, ⟨rfl, rfl, rfl, trivial⟩, rfl⟩


end Go.Proofs.YtlnpkincpgbmcaaDoor.Abs
