/-
  t
-/
import Derived.Test.YtlpanhfojeaamaaDoorT16b
namespace Go.Proofs.YtlpanhfojeaamaaDoor.Abs
open Go.RowKit Go.Proofs
def m7_l16_PipeSame (a0 : Int) (a1 : GR05Reply) (a2 : GR05Req) : Option Bool :=
  (m8_l16_awake).bind fun v1 => (m11_r05_FewReply (GR05Reply.mk a1.Kind a1.Seq a1.Code a1.N a1.Found a1.Val a1.List)).bind fun v14 => if (!v14) then (some v1) else ((m10_r05_Few (GR05Req.mk a2.Kind a2.Seq a2.Token a2.Attempt a2.RO a2.Key a2.Val (GApiRange.mk a2.Rng.Lo a2.Rng.Hi a2.Rng.Open))).bind fun v15 => if (!v15) then (some v1) else (m7_l16_PipeSame_k2 a0 a1 a2 v1 ()))

set_option maxRecDepth 100000 in
theorem m7_l16_PipeSame_c {a0 : Int} {a1 : GR05Reply} {a2 : GR05Req} {r : Bool} (h : m7_l16_PipeSame a0 a1 a2 = some r) : CallsA Tryd.prog 7 [.one (.i .i64 a0), .agg [.i .i64 a1.Kind, .i .i64 a1.Seq, .i .i64 a1.Code, .i .i64 a1.N, .b a1.Found, .sl a1.Val.length (a1.Val.flatMap eU8), .sl a1.List.length (a1.List.flatMap eGApiKV)], .agg [.i .i64 a2.Kind, .i .i64 a2.Seq, .i .i64 a2.Token, .i .i64 a2.Attempt, .b a2.RO, .sl a2.Key.length (a2.Key.flatMap eU8), .sl a2.Val.length (a2.Val.flatMap eU8), .sl a2.Rng.Lo.length (a2.Rng.Lo.flatMap eU8), .sl a2.Rng.Hi.length (a2.Rng.Hi.flatMap eU8), .b a2.Rng.Open]] (· = .s (.one (.b r))) := by
  unfold m7_l16_PipeSame at h
  refine callsA_of Tryd.func7 rfl (nt := 123) rfl (Nat.le_of_ble_eq_true rfl) ?_
  intro w0 S0
  refine cseq ?_
  refine cregion ?_
  refine sbox rfl rfl ?_
  refine sbox rfl rfl ?_
  refine sv rfl (opv_as rfl) ?_
  refine snil ?_
  refine cseq ?_
  refine cregion ?_
  obtain ⟨v1, hv1, h⟩ := bind_eq h
  refine scall1 rfl fn8 opnds_nil (pubA_id rfl) (m8_l16_awake_c hv1) ?_
  refine sv rfl (opv_as rfl) ?_
  refine snil ?_
  refine cseq ?_
  refine cseq ?_
  refine cjoin3 (Unit) (fun b2 => [(0, .s (.one (.i .i64 a0))), (4, .s (.one (.lp 0 0))), (5, .s (.one (.lp 1 0))), (7, .s (.one (.b v1)))]) (fun b2 => [.box [.i .i64 a1.Kind, .i .i64 a1.Seq, .i .i64 a1.Code, .i .i64 a1.N, .b a1.Found, .sl a1.Val.length (a1.Val.flatMap eU8), .sl a1.List.length (a1.List.flatMap eGApiKV)], .box [.i .i64 a2.Kind, .i .i64 a2.Seq, .i .i64 a2.Token, .i .i64 a2.Attempt, .b a2.RO, .sl a2.Key.length (a2.Key.flatMap eU8), .sl a2.Val.length (a2.Val.flatMap eU8), .sl a2.Rng.Lo.length (a2.Rng.Lo.flatMap eU8), .sl a2.Rng.Hi.length (a2.Rng.Hi.flatMap eU8), .b a2.Rng.Open]]) (fun b2 => m7_l16_PipeSame_k2 a0 a1 a2 v1 b2 = some r) (fun _ _ => inbL_of rfl) (fun _ _ => blkinb_of rfl) (fun _ _ => Nat.le_of_ble_eq_true rfl) (fun b2 h => ?_) ?_
  · unfold m7_l16_PipeSame_k2 at h
    refine cseq ?_
    refine cregion ?_
    refine sv rfl (opv_mv rfl) ?_
    refine sv rfl (opv_and rfl rfl) ?_
    refine sv rfl (opv_as rfl) ?_
    refine snil ?_
    refine cseq ?_
    refine cregion ?_
    refine sv rfl (opv_build zi46 pi46 parts_nil (.nil _)) ?_
    refine salloc rfl zi46 ?_
    refine sstore sz46 rfl rfl rfl rfl (Nat.le_of_ble_eq_true rfl) ?_
    refine smem [.box [.i .i64 a1.Kind, .i .i64 a1.Seq, .i .i64 a1.Code, .i .i64 a1.N, .b a1.Found, .sl a1.Val.length (a1.Val.flatMap eU8), .sl a1.List.length (a1.List.flatMap eGApiKV)], .box [.i .i64 a2.Kind, .i .i64 a2.Seq, .i .i64 a2.Token, .i .i64 a2.Attempt, .b a2.RO, .sl a2.Key.length (a2.Key.flatMap eU8), .sl a2.Val.length (a2.Val.flatMap eU8), .sl a2.Rng.Lo.length (a2.Rng.Lo.flatMap eU8), .sl a2.Rng.Hi.length (a2.Rng.Hi.flatMap eU8), .b a2.Rng.Open], .box [.i .i64 0, .i .u64 ((0#64).toNat : Int), .i .i64 0, .raw (.slice none 0 0), .raw (.slice none 0 0)]] rfl ?_
    refine snil ?_
    refine cseq ?_
    refine cseq ?_
    refine cregion ?_
    refine sv rfl (opv_as rfl) ?_
    refine snil ?_
    refine cjoin (Int × (BitVec 64) × Int × (List GMsgReq) × (List GMsgReply)) (fun b3 => [(4, .s (.one (.lp 0 0))), (5, .s (.one (.lp 1 0))), (7, .s (.one (.b v1))), (8, .s (.one (.i .i64 (wI ((BitVec.ofInt 64 a0 &&& BitVec.ofInt 64 7).toNat : Int))))), (9, .s (.one (.lp 2 0)))]) (fun b3 => [.box [.i .i64 a1.Kind, .i .i64 a1.Seq, .i .i64 a1.Code, .i .i64 a1.N, .b a1.Found, .sl a1.Val.length (a1.Val.flatMap eU8), .sl a1.List.length (a1.List.flatMap eGApiKV)], .box [.i .i64 a2.Kind, .i .i64 a2.Seq, .i .i64 a2.Token, .i .i64 a2.Attempt, .b a2.RO, .sl a2.Key.length (a2.Key.flatMap eU8), .sl a2.Val.length (a2.Val.flatMap eU8), .sl a2.Rng.Lo.length (a2.Rng.Lo.flatMap eU8), .sl a2.Rng.Hi.length (a2.Rng.Hi.flatMap eU8), .b a2.Rng.Open], .box [.i .i64 b3.1, .i .u64 (b3.2.1.toNat : Int), .i .i64 b3.2.2.1, .sl b3.2.2.2.1.length (b3.2.2.2.1.flatMap eGMsgReq), .sl b3.2.2.2.2.length (b3.2.2.2.2.flatMap eGMsgReply)]]) (fun b3 => m7_l16_PipeSame_k3 a0 a1 a2 v1 b3 = some r) (fun _ _ => inbL_of rfl) (fun _ _ => blkinb_of rfl) (fun _ _ => Nat.le_of_ble_eq_true rfl) (fun b3 h => ?_) ?_
    · unfold m7_l16_PipeSame_k3 at h
      refine cseq ?_
      refine cregion ?_
      refine sv rfl (opv_mv rfl) ?_
      refine sv rfl (opv_fieldAddr_lp fi33_1 rfl) ?_
      refine sstore sz3 rfl rfl rfl rfl (Nat.le_of_ble_eq_true rfl) ?_
      refine smem [.box [.i .i64 a1.Kind, .i .i64 a1.Seq, .i .i64 a1.Code, .i .i64 a1.N, .b a1.Found, .sl a1.Val.length (a1.Val.flatMap eU8), .sl a1.List.length (a1.List.flatMap eGApiKV)], .box [.i .i64 a2.Kind, .i .i64 (wI ((BitVec.ofInt 64 a0 &&& BitVec.ofInt 64 7).toNat : Int)), .i .i64 a2.Token, .i .i64 a2.Attempt, .b a2.RO, .sl a2.Key.length (a2.Key.flatMap eU8), .sl a2.Val.length (a2.Val.flatMap eU8), .sl a2.Rng.Lo.length (a2.Rng.Lo.flatMap eU8), .sl a2.Rng.Hi.length (a2.Rng.Hi.flatMap eU8), .b a2.Rng.Open], .box [.i .i64 b3.1, .i .u64 (b3.2.1.toNat : Int), .i .i64 b3.2.2.1, .sl b3.2.2.2.1.length (b3.2.2.2.1.flatMap eGMsgReq), .sl b3.2.2.2.2.length (b3.2.2.2.2.flatMap eGMsgReply)]] rfl ?_
      refine snil ?_
      refine cseq ?_
      refine chole ?_
      refine chole ?_
      obtain ⟨v4, hv4, h⟩ := bind_eq h
      obtain ⟨v5, hv5, h⟩ := bind_eq h
      refine cdraw_m [9, 10, 11, 12] [0, 0, 2, 7, 15, 31, 31, 31, 31, 0, 0, 1599, 3711, 7935, 16383] [([false, false, false, false], [.box [.i .i64 a1.Kind, .i .i64 a1.Seq, .i .i64 a1.Code, .i .i64 a1.N, .b a1.Found, .sl a1.Val.length (a1.Val.flatMap eU8), .sl a1.List.length (a1.List.flatMap eGApiKV)], .box [.i .i64 a2.Kind, .i .i64 (wI ((BitVec.ofInt 64 a0 &&& BitVec.ofInt 64 7).toNat : Int)), .i .i64 a2.Token, .i .i64 a2.Attempt, .b a2.RO, .sl a2.Key.length (a2.Key.flatMap eU8), .sl a2.Val.length (a2.Val.flatMap eU8), .sl a2.Rng.Lo.length (a2.Rng.Lo.flatMap eU8), .sl a2.Rng.Hi.length (a2.Rng.Hi.flatMap eU8), .b a2.Rng.Open], .box [.i .i64 b3.1, .i .u64 (b3.2.1.toNat : Int), .i .i64 b3.2.2.1, .sl b3.2.2.2.1.length (b3.2.2.2.1.flatMap eGMsgReq), .sl b3.2.2.2.2.length (b3.2.2.2.2.flatMap eGMsgReply)], .hole, .hole]), ([false, true, false, false], [.box [.i .i64 a1.Kind, .i .i64 a1.Seq, .i .i64 a1.Code, .i .i64 a1.N, .b a1.Found, .sl a1.Val.length (a1.Val.flatMap eU8), .sl a1.List.length (a1.List.flatMap eGApiKV)], .box [.i .i64 a2.Kind, .i .i64 (wI ((BitVec.ofInt 64 a0 &&& BitVec.ofInt 64 7).toNat : Int)), .i .i64 a2.Token, .i .i64 a2.Attempt, .b a2.RO, .sl a2.Key.length (a2.Key.flatMap eU8), .sl a2.Val.length (a2.Val.flatMap eU8), .sl a2.Rng.Lo.length (a2.Rng.Lo.flatMap eU8), .sl a2.Rng.Hi.length (a2.Rng.Hi.flatMap eU8), .b a2.Rng.Open], .box [.i .i64 b3.1, .i .u64 (b3.2.1.toNat : Int), .i .i64 b3.2.2.1, .sl b3.2.2.2.1.length (b3.2.2.2.1.flatMap eGMsgReq), .sl b3.2.2.2.2.length (b3.2.2.2.2.flatMap eGMsgReply)], .hole, .box [.i .i64 0, .i .i64 0, .i .i64 0, .i .i64 0, .b false, .raw (.slice none 0 0), .raw (.slice none 0 0)]]), ([true, false, false, false], [.box [.i .i64 a1.Kind, .i .i64 a1.Seq, .i .i64 a1.Code, .i .i64 a1.N, .b a1.Found, .sl a1.Val.length (a1.Val.flatMap eU8), .sl a1.List.length (a1.List.flatMap eGApiKV)], .box [.i .i64 a2.Kind, .i .i64 (wI ((BitVec.ofInt 64 a0 &&& BitVec.ofInt 64 7).toNat : Int)), .i .i64 a2.Token, .i .i64 a2.Attempt, .b a2.RO, .sl a2.Key.length (a2.Key.flatMap eU8), .sl a2.Val.length (a2.Val.flatMap eU8), .sl a2.Rng.Lo.length (a2.Rng.Lo.flatMap eU8), .sl a2.Rng.Hi.length (a2.Rng.Hi.flatMap eU8), .b a2.Rng.Open], .box [.i .i64 b3.1, .i .u64 (b3.2.1.toNat : Int), .i .i64 b3.2.2.1, .sl b3.2.2.2.1.length (b3.2.2.2.1.flatMap eGMsgReq), .sl b3.2.2.2.2.length (b3.2.2.2.2.flatMap eGMsgReply)], .box [.i .i64 0, .i .u64 ((0#64).toNat : Int), .i .i64 0, .raw (.slice none 0 0), .raw (.slice none 0 0)], .hole]), ([true, true, false, false], [.box [.i .i64 a1.Kind, .i .i64 a1.Seq, .i .i64 a1.Code, .i .i64 a1.N, .b a1.Found, .sl a1.Val.length (a1.Val.flatMap eU8), .sl a1.List.length (a1.List.flatMap eGApiKV)], .box [.i .i64 a2.Kind, .i .i64 (wI ((BitVec.ofInt 64 a0 &&& BitVec.ofInt 64 7).toNat : Int)), .i .i64 a2.Token, .i .i64 a2.Attempt, .b a2.RO, .sl a2.Key.length (a2.Key.flatMap eU8), .sl a2.Val.length (a2.Val.flatMap eU8), .sl a2.Rng.Lo.length (a2.Rng.Lo.flatMap eU8), .sl a2.Rng.Hi.length (a2.Rng.Hi.flatMap eU8), .b a2.Rng.Open], .box [.i .i64 b3.1, .i .u64 (b3.2.1.toNat : Int), .i .i64 b3.2.2.1, .sl b3.2.2.2.1.length (b3.2.2.2.1.flatMap eGMsgReq), .sl b3.2.2.2.2.length (b3.2.2.2.2.flatMap eGMsgReply)], .box [.i .i64 0, .i .u64 ((0#64).toNat : Int), .i .i64 0, .raw (.slice none 0 0), .raw (.slice none 0 0)], .box [.i .i64 0, .i .i64 0, .i .i64 0, .i .i64 0, .b false, .raw (.slice none 0 0), .raw (.slice none 0 0)]]), ([true, true, true, false], [.box [.i .i64 a1.Kind, .i .i64 a1.Seq, .i .i64 a1.Code, .i .i64 a1.N, .b a1.Found, .sl a1.Val.length (a1.Val.flatMap eU8), .sl a1.List.length (a1.List.flatMap eGApiKV)], .box [.i .i64 a2.Kind, .i .i64 (wI ((BitVec.ofInt 64 a0 &&& BitVec.ofInt 64 7).toNat : Int)), .i .i64 a2.Token, .i .i64 a2.Attempt, .b a2.RO, .sl a2.Key.length (a2.Key.flatMap eU8), .sl a2.Val.length (a2.Val.flatMap eU8), .sl a2.Rng.Lo.length (a2.Rng.Lo.flatMap eU8), .sl a2.Rng.Hi.length (a2.Rng.Hi.flatMap eU8), .b a2.Rng.Open], .box [.i .i64 b3.1, .i .u64 (b3.2.1.toNat : Int), .i .i64 b3.2.2.1, .sl b3.2.2.2.1.length (b3.2.2.2.1.flatMap eGMsgReq), .sl b3.2.2.2.2.length (b3.2.2.2.2.flatMap eGMsgReply)], .box [.i .i64 v5.1.Win.Base, .i .u64 (v5.1.Win.Bits.toNat : Int), .i .i64 v5.1.Next, .sl v5.1.Wait.length (v5.1.Wait.flatMap eGMsgReq), .sl v5.1.Past.length (v5.1.Past.flatMap eGMsgReply)], .box [.i .i64 0, .i .i64 0, .i .i64 0, .i .i64 0, .b false, .raw (.slice none 0 0), .raw (.slice none 0 0)]]), ([true, true, true, true], [.box [.i .i64 a1.Kind, .i .i64 a1.Seq, .i .i64 a1.Code, .i .i64 a1.N, .b a1.Found, .sl a1.Val.length (a1.Val.flatMap eU8), .sl a1.List.length (a1.List.flatMap eGApiKV)], .box [.i .i64 a2.Kind, .i .i64 (wI ((BitVec.ofInt 64 a0 &&& BitVec.ofInt 64 7).toNat : Int)), .i .i64 a2.Token, .i .i64 a2.Attempt, .b a2.RO, .sl a2.Key.length (a2.Key.flatMap eU8), .sl a2.Val.length (a2.Val.flatMap eU8), .sl a2.Rng.Lo.length (a2.Rng.Lo.flatMap eU8), .sl a2.Rng.Hi.length (a2.Rng.Hi.flatMap eU8), .b a2.Rng.Open], .box [.i .i64 b3.1, .i .u64 (b3.2.1.toNat : Int), .i .i64 b3.2.2.1, .sl b3.2.2.2.1.length (b3.2.2.2.1.flatMap eGMsgReq), .sl b3.2.2.2.2.length (b3.2.2.2.2.flatMap eGMsgReply)], .box [.i .i64 v5.1.Win.Base, .i .u64 (v5.1.Win.Bits.toNat : Int), .i .i64 v5.1.Next, .sl v5.1.Wait.length (v5.1.Wait.flatMap eGMsgReq), .sl v5.1.Past.length (v5.1.Past.flatMap eGMsgReply)], .box [.i .i64 v5.2.1.Kind, .i .i64 v5.2.1.Seq, .i .i64 v5.2.1.Code, .i .i64 v5.2.1.N, .b v5.2.1.Found, .sl v5.2.1.Val.length (v5.2.1.Val.flatMap eU8), .sl v5.2.1.List.length (v5.2.1.List.flatMap eGApiKV)]])] (by kernel_rfl) mixed (by kernel_rfl) (by decide) rfl (by kernel_rfl) rfl rfl ?_
      refine mev (md := [.box [.i .i64 a1.Kind, .i .i64 a1.Seq, .i .i64 a1.Code, .i .i64 a1.N, .b a1.Found, .sl a1.Val.length (a1.Val.flatMap eU8), .sl a1.List.length (a1.List.flatMap eGApiKV)], .box [.i .i64 a2.Kind, .i .i64 (wI ((BitVec.ofInt 64 a0 &&& BitVec.ofInt 64 7).toNat : Int)), .i .i64 a2.Token, .i .i64 a2.Attempt, .b a2.RO, .sl a2.Key.length (a2.Key.flatMap eU8), .sl a2.Val.length (a2.Val.flatMap eU8), .sl a2.Rng.Lo.length (a2.Rng.Lo.flatMap eU8), .sl a2.Rng.Hi.length (a2.Rng.Hi.flatMap eU8), .b a2.Rng.Open], .box [.i .i64 b3.1, .i .u64 (b3.2.1.toNat : Int), .i .i64 b3.2.2.1, .sl b3.2.2.2.1.length (b3.2.2.2.1.flatMap eGMsgReq), .sl b3.2.2.2.2.length (b3.2.2.2.2.flatMap eGMsgReply)], .dead, .dead]) (alle_t rfl ⟨rfl, ⟨rfl, ⟨rfl, ⟨trivial, ⟨trivial, trivial⟩⟩⟩⟩⟩ (alle_t rfl ⟨rfl, ⟨rfl, ⟨rfl, ⟨trivial, ⟨trivial, trivial⟩⟩⟩⟩⟩ (alle_t rfl ⟨rfl, ⟨rfl, ⟨rfl, ⟨trivial, ⟨trivial, trivial⟩⟩⟩⟩⟩ (alle_t rfl ⟨rfl, ⟨rfl, ⟨rfl, ⟨trivial, ⟨trivial, trivial⟩⟩⟩⟩⟩ (alle_f rfl (alle_f rfl alle_nil)))))) rfl rfl (opv_loadN ti46 rfl (.lp _ _ _ rfl) (Nat.le_of_ble_eq_true rfl)) ?_
      refine mev (md := [.box [.i .i64 a1.Kind, .i .i64 a1.Seq, .i .i64 a1.Code, .i .i64 a1.N, .b a1.Found, .sl a1.Val.length (a1.Val.flatMap eU8), .sl a1.List.length (a1.List.flatMap eGApiKV)], .box [.i .i64 a2.Kind, .i .i64 (wI ((BitVec.ofInt 64 a0 &&& BitVec.ofInt 64 7).toNat : Int)), .i .i64 a2.Token, .i .i64 a2.Attempt, .b a2.RO, .sl a2.Key.length (a2.Key.flatMap eU8), .sl a2.Val.length (a2.Val.flatMap eU8), .sl a2.Rng.Lo.length (a2.Rng.Lo.flatMap eU8), .sl a2.Rng.Hi.length (a2.Rng.Hi.flatMap eU8), .b a2.Rng.Open], .box [.i .i64 b3.1, .i .u64 (b3.2.1.toNat : Int), .i .i64 b3.2.2.1, .sl b3.2.2.2.1.length (b3.2.2.2.1.flatMap eGMsgReq), .sl b3.2.2.2.2.length (b3.2.2.2.2.flatMap eGMsgReply)], .dead, .dead]) (alle_t rfl ⟨rfl, ⟨rfl, ⟨rfl, ⟨trivial, ⟨trivial, trivial⟩⟩⟩⟩⟩ (alle_t rfl ⟨rfl, ⟨rfl, ⟨rfl, ⟨trivial, ⟨trivial, trivial⟩⟩⟩⟩⟩ (alle_t rfl ⟨rfl, ⟨rfl, ⟨rfl, ⟨trivial, ⟨trivial, trivial⟩⟩⟩⟩⟩ (alle_t rfl ⟨rfl, ⟨rfl, ⟨rfl, ⟨trivial, ⟨trivial, trivial⟩⟩⟩⟩⟩ (alle_f rfl (alle_f rfl alle_nil)))))) rfl rfl (opv_loadN ti33 rfl (.lp _ _ _ rfl) (Nat.le_of_ble_eq_true rfl)) ?_
      refine med (md := [.box [.i .i64 a1.Kind, .i .i64 a1.Seq, .i .i64 a1.Code, .i .i64 a1.N, .b a1.Found, .sl a1.Val.length (a1.Val.flatMap eU8), .sl a1.List.length (a1.List.flatMap eGApiKV)], .box [.i .i64 a2.Kind, .i .i64 (wI ((BitVec.ofInt 64 a0 &&& BitVec.ofInt 64 7).toNat : Int)), .i .i64 a2.Token, .i .i64 a2.Attempt, .b a2.RO, .sl a2.Key.length (a2.Key.flatMap eU8), .sl a2.Val.length (a2.Val.flatMap eU8), .sl a2.Rng.Lo.length (a2.Rng.Lo.flatMap eU8), .sl a2.Rng.Hi.length (a2.Rng.Hi.flatMap eU8), .b a2.Rng.Open], .box [.i .i64 b3.1, .i .u64 (b3.2.1.toNat : Int), .i .i64 b3.2.2.1, .sl b3.2.2.2.1.length (b3.2.2.2.1.flatMap eGMsgReq), .sl b3.2.2.2.2.length (b3.2.2.2.2.flatMap eGMsgReply)], .dead, .dead]) (alle_t rfl ⟨rfl, ⟨rfl, ⟨rfl, ⟨trivial, ⟨trivial, trivial⟩⟩⟩⟩⟩ (alle_t rfl ⟨rfl, ⟨rfl, ⟨rfl, ⟨trivial, ⟨trivial, trivial⟩⟩⟩⟩⟩ (alle_t rfl ⟨rfl, ⟨rfl, ⟨rfl, ⟨trivial, ⟨trivial, trivial⟩⟩⟩⟩⟩ (alle_t rfl ⟨rfl, ⟨rfl, ⟨rfl, ⟨trivial, ⟨trivial, trivial⟩⟩⟩⟩⟩ (alle_f rfl (alle_f rfl alle_nil)))))) rfl rfl (opD_call fn14 (opnds_cons rfl opnds_nil) rfl (m14_l16_req_c hv4)) ?_
      refine med (md := [.box [.i .i64 a1.Kind, .i .i64 a1.Seq, .i .i64 a1.Code, .i .i64 a1.N, .b a1.Found, .sl a1.Val.length (a1.Val.flatMap eU8), .sl a1.List.length (a1.List.flatMap eGApiKV)], .box [.i .i64 a2.Kind, .i .i64 (wI ((BitVec.ofInt 64 a0 &&& BitVec.ofInt 64 7).toNat : Int)), .i .i64 a2.Token, .i .i64 a2.Attempt, .b a2.RO, .sl a2.Key.length (a2.Key.flatMap eU8), .sl a2.Val.length (a2.Val.flatMap eU8), .sl a2.Rng.Lo.length (a2.Rng.Lo.flatMap eU8), .sl a2.Rng.Hi.length (a2.Rng.Hi.flatMap eU8), .b a2.Rng.Open], .box [.i .i64 b3.1, .i .u64 (b3.2.1.toNat : Int), .i .i64 b3.2.2.1, .sl b3.2.2.2.1.length (b3.2.2.2.1.flatMap eGMsgReq), .sl b3.2.2.2.2.length (b3.2.2.2.2.flatMap eGMsgReply)], .dead, .dead]) (alle_t rfl ⟨rfl, ⟨rfl, ⟨rfl, ⟨trivial, ⟨trivial, trivial⟩⟩⟩⟩⟩ (alle_t rfl ⟨rfl, ⟨rfl, ⟨rfl, ⟨trivial, ⟨trivial, trivial⟩⟩⟩⟩⟩ (alle_t rfl ⟨rfl, ⟨rfl, ⟨rfl, ⟨trivial, ⟨trivial, trivial⟩⟩⟩⟩⟩ (alle_t rfl ⟨rfl, ⟨rfl, ⟨rfl, ⟨trivial, ⟨trivial, trivial⟩⟩⟩⟩⟩ (alle_f rfl (alle_f rfl alle_nil)))))) rfl rfl (opD_call fn13 (opnds_cons rfl (opnds_cons rfl opnds_nil)) rfl (m13_pipe_Offer_c hv5)) ?_
      refine mem2 rfl rfl (fun _ => opv_mvt rfl) ?_
      refine mev (md := [.box [.i .i64 a1.Kind, .i .i64 a1.Seq, .i .i64 a1.Code, .i .i64 a1.N, .b a1.Found, .sl a1.Val.length (a1.Val.flatMap eU8), .sl a1.List.length (a1.List.flatMap eGApiKV)], .box [.i .i64 a2.Kind, .i .i64 (wI ((BitVec.ofInt 64 a0 &&& BitVec.ofInt 64 7).toNat : Int)), .i .i64 a2.Token, .i .i64 a2.Attempt, .b a2.RO, .sl a2.Key.length (a2.Key.flatMap eU8), .sl a2.Val.length (a2.Val.flatMap eU8), .sl a2.Rng.Lo.length (a2.Rng.Lo.flatMap eU8), .sl a2.Rng.Hi.length (a2.Rng.Hi.flatMap eU8), .b a2.Rng.Open], .box [.i .i64 b3.1, .i .u64 (b3.2.1.toNat : Int), .i .i64 b3.2.2.1, .sl b3.2.2.2.1.length (b3.2.2.2.1.flatMap eGMsgReq), .sl b3.2.2.2.2.length (b3.2.2.2.2.flatMap eGMsgReply)], .dead, .dead]) (alle_t rfl ⟨rfl, ⟨rfl, ⟨rfl, ⟨trivial, ⟨trivial, trivial⟩⟩⟩⟩⟩ (alle_t rfl ⟨rfl, ⟨rfl, ⟨rfl, ⟨trivial, ⟨trivial, trivial⟩⟩⟩⟩⟩ (alle_t rfl ⟨rfl, ⟨rfl, ⟨rfl, ⟨trivial, ⟨trivial, trivial⟩⟩⟩⟩⟩ (alle_t rfl ⟨rfl, ⟨rfl, ⟨rfl, ⟨trivial, ⟨trivial, trivial⟩⟩⟩⟩⟩ (alle_f rfl (alle_f rfl alle_nil)))))) rfl rfl (opv_extract rfl rfl) ?_
      refine mev (md := [.box [.i .i64 a1.Kind, .i .i64 a1.Seq, .i .i64 a1.Code, .i .i64 a1.N, .b a1.Found, .sl a1.Val.length (a1.Val.flatMap eU8), .sl a1.List.length (a1.List.flatMap eGApiKV)], .box [.i .i64 a2.Kind, .i .i64 (wI ((BitVec.ofInt 64 a0 &&& BitVec.ofInt 64 7).toNat : Int)), .i .i64 a2.Token, .i .i64 a2.Attempt, .b a2.RO, .sl a2.Key.length (a2.Key.flatMap eU8), .sl a2.Val.length (a2.Val.flatMap eU8), .sl a2.Rng.Lo.length (a2.Rng.Lo.flatMap eU8), .sl a2.Rng.Hi.length (a2.Rng.Hi.flatMap eU8), .b a2.Rng.Open], .box [.i .i64 b3.1, .i .u64 (b3.2.1.toNat : Int), .i .i64 b3.2.2.1, .sl b3.2.2.2.1.length (b3.2.2.2.1.flatMap eGMsgReq), .sl b3.2.2.2.2.length (b3.2.2.2.2.flatMap eGMsgReply)], .dead, .dead]) (alle_t rfl ⟨rfl, ⟨rfl, ⟨rfl, ⟨trivial, ⟨trivial, trivial⟩⟩⟩⟩⟩ (alle_t rfl ⟨rfl, ⟨rfl, ⟨rfl, ⟨trivial, ⟨trivial, trivial⟩⟩⟩⟩⟩ (alle_t rfl ⟨rfl, ⟨rfl, ⟨rfl, ⟨trivial, ⟨trivial, trivial⟩⟩⟩⟩⟩ (alle_t rfl ⟨rfl, ⟨rfl, ⟨rfl, ⟨trivial, ⟨trivial, trivial⟩⟩⟩⟩⟩ (alle_t rfl ⟨rfl, ⟨rfl, ⟨rfl, ⟨trivial, ⟨trivial, trivial⟩⟩⟩⟩⟩ (alle_f rfl alle_nil)))))) rfl rfl (opv_extract rfl rfl) ?_
      refine mev (md := [.box [.i .i64 a1.Kind, .i .i64 a1.Seq, .i .i64 a1.Code, .i .i64 a1.N, .b a1.Found, .sl a1.Val.length (a1.Val.flatMap eU8), .sl a1.List.length (a1.List.flatMap eGApiKV)], .box [.i .i64 a2.Kind, .i .i64 (wI ((BitVec.ofInt 64 a0 &&& BitVec.ofInt 64 7).toNat : Int)), .i .i64 a2.Token, .i .i64 a2.Attempt, .b a2.RO, .sl a2.Key.length (a2.Key.flatMap eU8), .sl a2.Val.length (a2.Val.flatMap eU8), .sl a2.Rng.Lo.length (a2.Rng.Lo.flatMap eU8), .sl a2.Rng.Hi.length (a2.Rng.Hi.flatMap eU8), .b a2.Rng.Open], .box [.i .i64 b3.1, .i .u64 (b3.2.1.toNat : Int), .i .i64 b3.2.2.1, .sl b3.2.2.2.1.length (b3.2.2.2.1.flatMap eGMsgReq), .sl b3.2.2.2.2.length (b3.2.2.2.2.flatMap eGMsgReply)], .dead, .dead]) (alle_t rfl ⟨rfl, ⟨rfl, ⟨rfl, ⟨trivial, ⟨trivial, trivial⟩⟩⟩⟩⟩ (alle_t rfl ⟨rfl, ⟨rfl, ⟨rfl, ⟨trivial, ⟨trivial, trivial⟩⟩⟩⟩⟩ (alle_t rfl ⟨rfl, ⟨rfl, ⟨rfl, ⟨trivial, ⟨trivial, trivial⟩⟩⟩⟩⟩ (alle_t rfl ⟨rfl, ⟨rfl, ⟨rfl, ⟨trivial, ⟨trivial, trivial⟩⟩⟩⟩⟩ (alle_t rfl ⟨rfl, ⟨rfl, ⟨rfl, ⟨trivial, ⟨trivial, trivial⟩⟩⟩⟩⟩ (alle_t rfl ⟨rfl, ⟨rfl, ⟨rfl, ⟨trivial, ⟨trivial, trivial⟩⟩⟩⟩⟩ alle_nil)))))) rfl rfl (opv_extract rfl rfl) ?_
      refine mev (md := [.box [.i .i64 a1.Kind, .i .i64 a1.Seq, .i .i64 a1.Code, .i .i64 a1.N, .b a1.Found, .sl a1.Val.length (a1.Val.flatMap eU8), .sl a1.List.length (a1.List.flatMap eGApiKV)], .box [.i .i64 a2.Kind, .i .i64 (wI ((BitVec.ofInt 64 a0 &&& BitVec.ofInt 64 7).toNat : Int)), .i .i64 a2.Token, .i .i64 a2.Attempt, .b a2.RO, .sl a2.Key.length (a2.Key.flatMap eU8), .sl a2.Val.length (a2.Val.flatMap eU8), .sl a2.Rng.Lo.length (a2.Rng.Lo.flatMap eU8), .sl a2.Rng.Hi.length (a2.Rng.Hi.flatMap eU8), .b a2.Rng.Open], .box [.i .i64 b3.1, .i .u64 (b3.2.1.toNat : Int), .i .i64 b3.2.2.1, .sl b3.2.2.2.1.length (b3.2.2.2.1.flatMap eGMsgReq), .sl b3.2.2.2.2.length (b3.2.2.2.2.flatMap eGMsgReply)], .dead, .dead]) (alle_t rfl ⟨rfl, ⟨rfl, ⟨rfl, ⟨trivial, ⟨trivial, trivial⟩⟩⟩⟩⟩ (alle_t rfl ⟨rfl, ⟨rfl, ⟨rfl, ⟨trivial, ⟨trivial, trivial⟩⟩⟩⟩⟩ (alle_t rfl ⟨rfl, ⟨rfl, ⟨rfl, ⟨trivial, ⟨trivial, trivial⟩⟩⟩⟩⟩ (alle_t rfl ⟨rfl, ⟨rfl, ⟨rfl, ⟨trivial, ⟨trivial, trivial⟩⟩⟩⟩⟩ (alle_t rfl ⟨rfl, ⟨rfl, ⟨rfl, ⟨trivial, ⟨trivial, trivial⟩⟩⟩⟩⟩ (alle_t rfl ⟨rfl, ⟨rfl, ⟨rfl, ⟨trivial, ⟨trivial, trivial⟩⟩⟩⟩⟩ alle_nil)))))) rfl rfl (opv_extract rfl rfl) ?_
      refine mee (x := .s (.one (.lp 3 0))) 0 rfl rfl ?_ ?_
      · refine alle_t rfl ⟨_, rfl, fun ζ => ?_⟩ ?_
        · refine salloc_at 3 rfl zi46 rfl ?_
          exact eend
        refine alle_t rfl ⟨_, rfl, fun ζ => ?_⟩ ?_
        · refine salloc_at 3 rfl zi46 rfl ?_
          exact eend
        refine alle_f rfl ?_
        refine alle_f rfl ?_
        refine alle_f rfl ?_
        refine alle_f rfl ?_
        exact alle_nil
      refine mee (x := .s (.one (.lp 4 0))) 1 rfl rfl ?_ ?_
      · refine alle_t rfl ⟨_, rfl, fun ζ => ?_⟩ ?_
        · refine salloc_at 4 rfl zi48 rfl ?_
          exact eend
        refine alle_f rfl ?_
        refine alle_t rfl ⟨_, rfl, fun ζ => ?_⟩ ?_
        · refine salloc_at 4 rfl zi48 rfl ?_
          exact eend
        refine alle_f rfl ?_
        refine alle_f rfl ?_
        refine alle_f rfl ?_
        exact alle_nil
      refine mee0 2 rfl ?_ ?_
      · refine alle_f rfl ?_
        refine alle_f rfl ?_
        refine alle_f rfl ?_
        refine alle_t rfl ⟨_, rfl, fun ζ => ?_⟩ ?_
        · refine sstore sz46 rfl rfl rfl rfl (Nat.le_of_ble_eq_true rfl) ?_
          refine smem [.box [.i .i64 a1.Kind, .i .i64 a1.Seq, .i .i64 a1.Code, .i .i64 a1.N, .b a1.Found, .sl a1.Val.length (a1.Val.flatMap eU8), .sl a1.List.length (a1.List.flatMap eGApiKV)], .box [.i .i64 a2.Kind, .i .i64 (wI ((BitVec.ofInt 64 a0 &&& BitVec.ofInt 64 7).toNat : Int)), .i .i64 a2.Token, .i .i64 a2.Attempt, .b a2.RO, .sl a2.Key.length (a2.Key.flatMap eU8), .sl a2.Val.length (a2.Val.flatMap eU8), .sl a2.Rng.Lo.length (a2.Rng.Lo.flatMap eU8), .sl a2.Rng.Hi.length (a2.Rng.Hi.flatMap eU8), .b a2.Rng.Open], .box [.i .i64 b3.1, .i .u64 (b3.2.1.toNat : Int), .i .i64 b3.2.2.1, .sl b3.2.2.2.1.length (b3.2.2.2.1.flatMap eGMsgReq), .sl b3.2.2.2.2.length (b3.2.2.2.2.flatMap eGMsgReply)], .box [.i .i64 v5.1.Win.Base, .i .u64 (v5.1.Win.Bits.toNat : Int), .i .i64 v5.1.Next, .sl v5.1.Wait.length (v5.1.Wait.flatMap eGMsgReq), .sl v5.1.Past.length (v5.1.Past.flatMap eGMsgReply)], .box [.i .i64 0, .i .i64 0, .i .i64 0, .i .i64 0, .b false, .raw (.slice none 0 0), .raw (.slice none 0 0)]] rfl ?_
          exact eend
        refine alle_f rfl ?_
        refine alle_f rfl ?_
        exact alle_nil
      refine mee0 3 rfl ?_ ?_
      · refine alle_f rfl ?_
        refine alle_f rfl ?_
        refine alle_f rfl ?_
        refine alle_f rfl ?_
        refine alle_t rfl ⟨_, rfl, fun ζ => ?_⟩ ?_
        · refine sstore sz48 rfl rfl rfl rfl (Nat.le_of_ble_eq_true rfl) ?_
          refine smem [.box [.i .i64 a1.Kind, .i .i64 a1.Seq, .i .i64 a1.Code, .i .i64 a1.N, .b a1.Found, .sl a1.Val.length (a1.Val.flatMap eU8), .sl a1.List.length (a1.List.flatMap eGApiKV)], .box [.i .i64 a2.Kind, .i .i64 (wI ((BitVec.ofInt 64 a0 &&& BitVec.ofInt 64 7).toNat : Int)), .i .i64 a2.Token, .i .i64 a2.Attempt, .b a2.RO, .sl a2.Key.length (a2.Key.flatMap eU8), .sl a2.Val.length (a2.Val.flatMap eU8), .sl a2.Rng.Lo.length (a2.Rng.Lo.flatMap eU8), .sl a2.Rng.Hi.length (a2.Rng.Hi.flatMap eU8), .b a2.Rng.Open], .box [.i .i64 b3.1, .i .u64 (b3.2.1.toNat : Int), .i .i64 b3.2.2.1, .sl b3.2.2.2.1.length (b3.2.2.2.1.flatMap eGMsgReq), .sl b3.2.2.2.2.length (b3.2.2.2.2.flatMap eGMsgReply)], .box [.i .i64 v5.1.Win.Base, .i .u64 (v5.1.Win.Bits.toNat : Int), .i .i64 v5.1.Next, .sl v5.1.Wait.length (v5.1.Wait.flatMap eGMsgReq), .sl v5.1.Past.length (v5.1.Past.flatMap eGMsgReply)], .box [.i .i64 v5.2.1.Kind, .i .i64 v5.2.1.Seq, .i .i64 v5.2.1.Code, .i .i64 v5.2.1.N, .b v5.2.1.Found, .sl v5.2.1.Val.length (v5.2.1.Val.flatMap eU8), .sl v5.2.1.List.length (v5.2.1.List.flatMap eGApiKV)]] rfl ?_
          exact eend
        refine alle_f rfl ?_
        exact alle_nil
      refine mem2 rfl rfl (fun _ => opv_as rfl) ?_
      refine mem2 rfl rfl (fun _ => opv_as rfl) ?_
      refine mnil2 ?_
      refine then_normal ?_
      refine cseq ?_
      refine cseq ?_
      refine cregion ?_
      refine sv rfl (opv_loadN ti33 rfl (.lp _ _ _ rfl) (Nat.le_of_ble_eq_true rfl)) ?_
      obtain ⟨v6, hv6, h⟩ := bind_eq h
      refine scall1 rfl fn31 (opnds_cons rfl opnds_nil) (pubA_id rfl) (m31_r05_SaneReq_c hv6) ?_
      refine sv rfl (opv_not rfl) ?_
      refine snil ?_
      refine ccond rfl (fun hc => ?_) (fun hc => ?_)
      · replace h := ite_t hc h
        clear hc
        refine cseq ?_
        refine cregion ?_
        refine sv rfl (opv_mv rfl) ?_
        refine sv rfl (opv_mv rfl) ?_
        refine ssplit 82 rfl (fun hc => ?_) (fun hc => ?_)
        · replace h := ite_t hc h
          clear hc
          refine son rfl rfl rfl ?_
          refine sv rfl (opv_mv rfl) ?_
          refine son rfl rfl rfl ?_
          refine sv rfl (opv_ieql rfl rfl) ?_
          refine sv rfl (opv_pick_t rfl rfl) ?_
          refine sv rfl (opv_as rfl) ?_
          refine snil ?_
          refine cret ?_
          refine then_ret ?_
          obtain rfl := Option.some.inj h
          refine ⟨Or.inr rfl, _, _, _, (resVs_cons (ResV.tmp _ _ rfl) resVs_nil), (pubA_id rfl), ?_⟩
          rfl
        · replace h := ite_f hc h
          clear hc
          refine soff rfl rfl rfl rfl ?_
          refine soff rfl rfl rfl rfl ?_
          refine sv rfl (opv_pick_f rfl rfl) ?_
          refine sv rfl (opv_as rfl) ?_
          refine snil ?_
          refine cret ?_
          refine then_ret ?_
          obtain rfl := Option.some.inj h
          refine ⟨Or.inr rfl, _, _, _, (resVs_cons (ResV.tmp _ _ rfl) resVs_nil), (pubA_id rfl), ?_⟩
          rfl
      · replace h := ite_f hc h
        clear hc
        refine cskip ?_
        refine then_normal ?_
        refine cseq ?_
        refine chole ?_
        refine chole ?_
        obtain ⟨v7, hv7, h⟩ := bind_eq h
        obtain ⟨v8, hv8, h⟩ := bind_eq h
        refine cdraw_m [8, 9, 10, 11] [0, 0, 2, 7, 15, 31, 31, 31, 0, 0, 831, 1919, 4095] [([false, false, false, false], [.box [.i .i64 a1.Kind, .i .i64 a1.Seq, .i .i64 a1.Code, .i .i64 a1.N, .b a1.Found, .sl a1.Val.length (a1.Val.flatMap eU8), .sl a1.List.length (a1.List.flatMap eGApiKV)], .box [.i .i64 a2.Kind, .i .i64 (wI ((BitVec.ofInt 64 a0 &&& BitVec.ofInt 64 7).toNat : Int)), .i .i64 a2.Token, .i .i64 a2.Attempt, .b a2.RO, .sl a2.Key.length (a2.Key.flatMap eU8), .sl a2.Val.length (a2.Val.flatMap eU8), .sl a2.Rng.Lo.length (a2.Rng.Lo.flatMap eU8), .sl a2.Rng.Hi.length (a2.Rng.Hi.flatMap eU8), .b a2.Rng.Open], .box [.i .i64 b3.1, .i .u64 (b3.2.1.toNat : Int), .i .i64 b3.2.2.1, .sl b3.2.2.2.1.length (b3.2.2.2.1.flatMap eGMsgReq), .sl b3.2.2.2.2.length (b3.2.2.2.2.flatMap eGMsgReply)], .box [.i .i64 v5.1.Win.Base, .i .u64 (v5.1.Win.Bits.toNat : Int), .i .i64 v5.1.Next, .sl v5.1.Wait.length (v5.1.Wait.flatMap eGMsgReq), .sl v5.1.Past.length (v5.1.Past.flatMap eGMsgReply)], .box [.i .i64 v5.2.1.Kind, .i .i64 v5.2.1.Seq, .i .i64 v5.2.1.Code, .i .i64 v5.2.1.N, .b v5.2.1.Found, .sl v5.2.1.Val.length (v5.2.1.Val.flatMap eU8), .sl v5.2.1.List.length (v5.2.1.List.flatMap eGApiKV)], .hole, .hole]), ([false, true, false, false], [.box [.i .i64 a1.Kind, .i .i64 a1.Seq, .i .i64 a1.Code, .i .i64 a1.N, .b a1.Found, .sl a1.Val.length (a1.Val.flatMap eU8), .sl a1.List.length (a1.List.flatMap eGApiKV)], .box [.i .i64 a2.Kind, .i .i64 (wI ((BitVec.ofInt 64 a0 &&& BitVec.ofInt 64 7).toNat : Int)), .i .i64 a2.Token, .i .i64 a2.Attempt, .b a2.RO, .sl a2.Key.length (a2.Key.flatMap eU8), .sl a2.Val.length (a2.Val.flatMap eU8), .sl a2.Rng.Lo.length (a2.Rng.Lo.flatMap eU8), .sl a2.Rng.Hi.length (a2.Rng.Hi.flatMap eU8), .b a2.Rng.Open], .box [.i .i64 b3.1, .i .u64 (b3.2.1.toNat : Int), .i .i64 b3.2.2.1, .sl b3.2.2.2.1.length (b3.2.2.2.1.flatMap eGMsgReq), .sl b3.2.2.2.2.length (b3.2.2.2.2.flatMap eGMsgReply)], .box [.i .i64 v5.1.Win.Base, .i .u64 (v5.1.Win.Bits.toNat : Int), .i .i64 v5.1.Next, .sl v5.1.Wait.length (v5.1.Wait.flatMap eGMsgReq), .sl v5.1.Past.length (v5.1.Past.flatMap eGMsgReply)], .box [.i .i64 v5.2.1.Kind, .i .i64 v5.2.1.Seq, .i .i64 v5.2.1.Code, .i .i64 v5.2.1.N, .b v5.2.1.Found, .sl v5.2.1.Val.length (v5.2.1.Val.flatMap eU8), .sl v5.2.1.List.length (v5.2.1.List.flatMap eGApiKV)], .hole, .box [.i .i64 0, .i .i64 0, .i .i64 0, .i .i64 0, .b false, .raw (.slice none 0 0), .raw (.slice none 0 0)]]), ([true, false, false, false], [.box [.i .i64 a1.Kind, .i .i64 a1.Seq, .i .i64 a1.Code, .i .i64 a1.N, .b a1.Found, .sl a1.Val.length (a1.Val.flatMap eU8), .sl a1.List.length (a1.List.flatMap eGApiKV)], .box [.i .i64 a2.Kind, .i .i64 (wI ((BitVec.ofInt 64 a0 &&& BitVec.ofInt 64 7).toNat : Int)), .i .i64 a2.Token, .i .i64 a2.Attempt, .b a2.RO, .sl a2.Key.length (a2.Key.flatMap eU8), .sl a2.Val.length (a2.Val.flatMap eU8), .sl a2.Rng.Lo.length (a2.Rng.Lo.flatMap eU8), .sl a2.Rng.Hi.length (a2.Rng.Hi.flatMap eU8), .b a2.Rng.Open], .box [.i .i64 b3.1, .i .u64 (b3.2.1.toNat : Int), .i .i64 b3.2.2.1, .sl b3.2.2.2.1.length (b3.2.2.2.1.flatMap eGMsgReq), .sl b3.2.2.2.2.length (b3.2.2.2.2.flatMap eGMsgReply)], .box [.i .i64 v5.1.Win.Base, .i .u64 (v5.1.Win.Bits.toNat : Int), .i .i64 v5.1.Next, .sl v5.1.Wait.length (v5.1.Wait.flatMap eGMsgReq), .sl v5.1.Past.length (v5.1.Past.flatMap eGMsgReply)], .box [.i .i64 v5.2.1.Kind, .i .i64 v5.2.1.Seq, .i .i64 v5.2.1.Code, .i .i64 v5.2.1.N, .b v5.2.1.Found, .sl v5.2.1.Val.length (v5.2.1.Val.flatMap eU8), .sl v5.2.1.List.length (v5.2.1.List.flatMap eGApiKV)], .box [.i .i64 0, .i .u64 ((0#64).toNat : Int), .i .i64 0, .raw (.slice none 0 0), .raw (.slice none 0 0)], .hole]), ([true, true, false, false], [.box [.i .i64 a1.Kind, .i .i64 a1.Seq, .i .i64 a1.Code, .i .i64 a1.N, .b a1.Found, .sl a1.Val.length (a1.Val.flatMap eU8), .sl a1.List.length (a1.List.flatMap eGApiKV)], .box [.i .i64 a2.Kind, .i .i64 (wI ((BitVec.ofInt 64 a0 &&& BitVec.ofInt 64 7).toNat : Int)), .i .i64 a2.Token, .i .i64 a2.Attempt, .b a2.RO, .sl a2.Key.length (a2.Key.flatMap eU8), .sl a2.Val.length (a2.Val.flatMap eU8), .sl a2.Rng.Lo.length (a2.Rng.Lo.flatMap eU8), .sl a2.Rng.Hi.length (a2.Rng.Hi.flatMap eU8), .b a2.Rng.Open], .box [.i .i64 b3.1, .i .u64 (b3.2.1.toNat : Int), .i .i64 b3.2.2.1, .sl b3.2.2.2.1.length (b3.2.2.2.1.flatMap eGMsgReq), .sl b3.2.2.2.2.length (b3.2.2.2.2.flatMap eGMsgReply)], .box [.i .i64 v5.1.Win.Base, .i .u64 (v5.1.Win.Bits.toNat : Int), .i .i64 v5.1.Next, .sl v5.1.Wait.length (v5.1.Wait.flatMap eGMsgReq), .sl v5.1.Past.length (v5.1.Past.flatMap eGMsgReply)], .box [.i .i64 v5.2.1.Kind, .i .i64 v5.2.1.Seq, .i .i64 v5.2.1.Code, .i .i64 v5.2.1.N, .b v5.2.1.Found, .sl v5.2.1.Val.length (v5.2.1.Val.flatMap eU8), .sl v5.2.1.List.length (v5.2.1.List.flatMap eGApiKV)], .box [.i .i64 0, .i .u64 ((0#64).toNat : Int), .i .i64 0, .raw (.slice none 0 0), .raw (.slice none 0 0)], .box [.i .i64 0, .i .i64 0, .i .i64 0, .i .i64 0, .b false, .raw (.slice none 0 0), .raw (.slice none 0 0)]]), ([true, true, true, false], [.box [.i .i64 a1.Kind, .i .i64 a1.Seq, .i .i64 a1.Code, .i .i64 a1.N, .b a1.Found, .sl a1.Val.length (a1.Val.flatMap eU8), .sl a1.List.length (a1.List.flatMap eGApiKV)], .box [.i .i64 a2.Kind, .i .i64 (wI ((BitVec.ofInt 64 a0 &&& BitVec.ofInt 64 7).toNat : Int)), .i .i64 a2.Token, .i .i64 a2.Attempt, .b a2.RO, .sl a2.Key.length (a2.Key.flatMap eU8), .sl a2.Val.length (a2.Val.flatMap eU8), .sl a2.Rng.Lo.length (a2.Rng.Lo.flatMap eU8), .sl a2.Rng.Hi.length (a2.Rng.Hi.flatMap eU8), .b a2.Rng.Open], .box [.i .i64 b3.1, .i .u64 (b3.2.1.toNat : Int), .i .i64 b3.2.2.1, .sl b3.2.2.2.1.length (b3.2.2.2.1.flatMap eGMsgReq), .sl b3.2.2.2.2.length (b3.2.2.2.2.flatMap eGMsgReply)], .box [.i .i64 v5.1.Win.Base, .i .u64 (v5.1.Win.Bits.toNat : Int), .i .i64 v5.1.Next, .sl v5.1.Wait.length (v5.1.Wait.flatMap eGMsgReq), .sl v5.1.Past.length (v5.1.Past.flatMap eGMsgReply)], .box [.i .i64 v5.2.1.Kind, .i .i64 v5.2.1.Seq, .i .i64 v5.2.1.Code, .i .i64 v5.2.1.N, .b v5.2.1.Found, .sl v5.2.1.Val.length (v5.2.1.Val.flatMap eU8), .sl v5.2.1.List.length (v5.2.1.List.flatMap eGApiKV)], .box [.i .i64 v8.1.Win.Base, .i .u64 (v8.1.Win.Bits.toNat : Int), .i .i64 v8.1.Next, .sl v8.1.Wait.length (v8.1.Wait.flatMap eGMsgReq), .sl v8.1.Past.length (v8.1.Past.flatMap eGMsgReply)], .box [.i .i64 0, .i .i64 0, .i .i64 0, .i .i64 0, .b false, .raw (.slice none 0 0), .raw (.slice none 0 0)]]), ([true, true, true, true], [.box [.i .i64 a1.Kind, .i .i64 a1.Seq, .i .i64 a1.Code, .i .i64 a1.N, .b a1.Found, .sl a1.Val.length (a1.Val.flatMap eU8), .sl a1.List.length (a1.List.flatMap eGApiKV)], .box [.i .i64 a2.Kind, .i .i64 (wI ((BitVec.ofInt 64 a0 &&& BitVec.ofInt 64 7).toNat : Int)), .i .i64 a2.Token, .i .i64 a2.Attempt, .b a2.RO, .sl a2.Key.length (a2.Key.flatMap eU8), .sl a2.Val.length (a2.Val.flatMap eU8), .sl a2.Rng.Lo.length (a2.Rng.Lo.flatMap eU8), .sl a2.Rng.Hi.length (a2.Rng.Hi.flatMap eU8), .b a2.Rng.Open], .box [.i .i64 b3.1, .i .u64 (b3.2.1.toNat : Int), .i .i64 b3.2.2.1, .sl b3.2.2.2.1.length (b3.2.2.2.1.flatMap eGMsgReq), .sl b3.2.2.2.2.length (b3.2.2.2.2.flatMap eGMsgReply)], .box [.i .i64 v5.1.Win.Base, .i .u64 (v5.1.Win.Bits.toNat : Int), .i .i64 v5.1.Next, .sl v5.1.Wait.length (v5.1.Wait.flatMap eGMsgReq), .sl v5.1.Past.length (v5.1.Past.flatMap eGMsgReply)], .box [.i .i64 v5.2.1.Kind, .i .i64 v5.2.1.Seq, .i .i64 v5.2.1.Code, .i .i64 v5.2.1.N, .b v5.2.1.Found, .sl v5.2.1.Val.length (v5.2.1.Val.flatMap eU8), .sl v5.2.1.List.length (v5.2.1.List.flatMap eGApiKV)], .box [.i .i64 v8.1.Win.Base, .i .u64 (v8.1.Win.Bits.toNat : Int), .i .i64 v8.1.Next, .sl v8.1.Wait.length (v8.1.Wait.flatMap eGMsgReq), .sl v8.1.Past.length (v8.1.Past.flatMap eGMsgReply)], .box [.i .i64 v8.2.1.Kind, .i .i64 v8.2.1.Seq, .i .i64 v8.2.1.Code, .i .i64 v8.2.1.N, .b v8.2.1.Found, .sl v8.2.1.Val.length (v8.2.1.Val.flatMap eU8), .sl v8.2.1.List.length (v8.2.1.List.flatMap eGApiKV)]])] (by kernel_rfl) mixed (by kernel_rfl) (by decide) rfl (by kernel_rfl) rfl rfl ?_
        refine mev (md := [.box [.i .i64 a1.Kind, .i .i64 a1.Seq, .i .i64 a1.Code, .i .i64 a1.N, .b a1.Found, .sl a1.Val.length (a1.Val.flatMap eU8), .sl a1.List.length (a1.List.flatMap eGApiKV)], .box [.i .i64 a2.Kind, .i .i64 (wI ((BitVec.ofInt 64 a0 &&& BitVec.ofInt 64 7).toNat : Int)), .i .i64 a2.Token, .i .i64 a2.Attempt, .b a2.RO, .sl a2.Key.length (a2.Key.flatMap eU8), .sl a2.Val.length (a2.Val.flatMap eU8), .sl a2.Rng.Lo.length (a2.Rng.Lo.flatMap eU8), .sl a2.Rng.Hi.length (a2.Rng.Hi.flatMap eU8), .b a2.Rng.Open], .box [.i .i64 b3.1, .i .u64 (b3.2.1.toNat : Int), .i .i64 b3.2.2.1, .sl b3.2.2.2.1.length (b3.2.2.2.1.flatMap eGMsgReq), .sl b3.2.2.2.2.length (b3.2.2.2.2.flatMap eGMsgReply)], .box [.i .i64 v5.1.Win.Base, .i .u64 (v5.1.Win.Bits.toNat : Int), .i .i64 v5.1.Next, .sl v5.1.Wait.length (v5.1.Wait.flatMap eGMsgReq), .sl v5.1.Past.length (v5.1.Past.flatMap eGMsgReply)], .box [.i .i64 v5.2.1.Kind, .i .i64 v5.2.1.Seq, .i .i64 v5.2.1.Code, .i .i64 v5.2.1.N, .b v5.2.1.Found, .sl v5.2.1.Val.length (v5.2.1.Val.flatMap eU8), .sl v5.2.1.List.length (v5.2.1.List.flatMap eGApiKV)], .dead, .dead]) (alle_t rfl ⟨rfl, ⟨rfl, ⟨rfl, ⟨rfl, ⟨rfl, ⟨trivial, ⟨trivial, trivial⟩⟩⟩⟩⟩⟩⟩ (alle_t rfl ⟨rfl, ⟨rfl, ⟨rfl, ⟨rfl, ⟨rfl, ⟨trivial, ⟨trivial, trivial⟩⟩⟩⟩⟩⟩⟩ (alle_t rfl ⟨rfl, ⟨rfl, ⟨rfl, ⟨rfl, ⟨rfl, ⟨trivial, ⟨trivial, trivial⟩⟩⟩⟩⟩⟩⟩ (alle_t rfl ⟨rfl, ⟨rfl, ⟨rfl, ⟨rfl, ⟨rfl, ⟨trivial, ⟨trivial, trivial⟩⟩⟩⟩⟩⟩⟩ (alle_f rfl (alle_f rfl alle_nil)))))) rfl rfl (opv_loadN ti46 rfl (.lp _ _ _ rfl) (Nat.le_of_ble_eq_true rfl)) ?_
        refine mev (md := [.box [.i .i64 a1.Kind, .i .i64 a1.Seq, .i .i64 a1.Code, .i .i64 a1.N, .b a1.Found, .sl a1.Val.length (a1.Val.flatMap eU8), .sl a1.List.length (a1.List.flatMap eGApiKV)], .box [.i .i64 a2.Kind, .i .i64 (wI ((BitVec.ofInt 64 a0 &&& BitVec.ofInt 64 7).toNat : Int)), .i .i64 a2.Token, .i .i64 a2.Attempt, .b a2.RO, .sl a2.Key.length (a2.Key.flatMap eU8), .sl a2.Val.length (a2.Val.flatMap eU8), .sl a2.Rng.Lo.length (a2.Rng.Lo.flatMap eU8), .sl a2.Rng.Hi.length (a2.Rng.Hi.flatMap eU8), .b a2.Rng.Open], .box [.i .i64 b3.1, .i .u64 (b3.2.1.toNat : Int), .i .i64 b3.2.2.1, .sl b3.2.2.2.1.length (b3.2.2.2.1.flatMap eGMsgReq), .sl b3.2.2.2.2.length (b3.2.2.2.2.flatMap eGMsgReply)], .box [.i .i64 v5.1.Win.Base, .i .u64 (v5.1.Win.Bits.toNat : Int), .i .i64 v5.1.Next, .sl v5.1.Wait.length (v5.1.Wait.flatMap eGMsgReq), .sl v5.1.Past.length (v5.1.Past.flatMap eGMsgReply)], .box [.i .i64 v5.2.1.Kind, .i .i64 v5.2.1.Seq, .i .i64 v5.2.1.Code, .i .i64 v5.2.1.N, .b v5.2.1.Found, .sl v5.2.1.Val.length (v5.2.1.Val.flatMap eU8), .sl v5.2.1.List.length (v5.2.1.List.flatMap eGApiKV)], .dead, .dead]) (alle_t rfl ⟨rfl, ⟨rfl, ⟨rfl, ⟨rfl, ⟨rfl, ⟨trivial, ⟨trivial, trivial⟩⟩⟩⟩⟩⟩⟩ (alle_t rfl ⟨rfl, ⟨rfl, ⟨rfl, ⟨rfl, ⟨rfl, ⟨trivial, ⟨trivial, trivial⟩⟩⟩⟩⟩⟩⟩ (alle_t rfl ⟨rfl, ⟨rfl, ⟨rfl, ⟨rfl, ⟨rfl, ⟨trivial, ⟨trivial, trivial⟩⟩⟩⟩⟩⟩⟩ (alle_t rfl ⟨rfl, ⟨rfl, ⟨rfl, ⟨rfl, ⟨rfl, ⟨trivial, ⟨trivial, trivial⟩⟩⟩⟩⟩⟩⟩ (alle_f rfl (alle_f rfl alle_nil)))))) rfl rfl (opv_loadN ti37 rfl (.lp _ _ _ rfl) (Nat.le_of_ble_eq_true rfl)) ?_
        refine med (md := [.box [.i .i64 a1.Kind, .i .i64 a1.Seq, .i .i64 a1.Code, .i .i64 a1.N, .b a1.Found, .sl a1.Val.length (a1.Val.flatMap eU8), .sl a1.List.length (a1.List.flatMap eGApiKV)], .box [.i .i64 a2.Kind, .i .i64 (wI ((BitVec.ofInt 64 a0 &&& BitVec.ofInt 64 7).toNat : Int)), .i .i64 a2.Token, .i .i64 a2.Attempt, .b a2.RO, .sl a2.Key.length (a2.Key.flatMap eU8), .sl a2.Val.length (a2.Val.flatMap eU8), .sl a2.Rng.Lo.length (a2.Rng.Lo.flatMap eU8), .sl a2.Rng.Hi.length (a2.Rng.Hi.flatMap eU8), .b a2.Rng.Open], .box [.i .i64 b3.1, .i .u64 (b3.2.1.toNat : Int), .i .i64 b3.2.2.1, .sl b3.2.2.2.1.length (b3.2.2.2.1.flatMap eGMsgReq), .sl b3.2.2.2.2.length (b3.2.2.2.2.flatMap eGMsgReply)], .box [.i .i64 v5.1.Win.Base, .i .u64 (v5.1.Win.Bits.toNat : Int), .i .i64 v5.1.Next, .sl v5.1.Wait.length (v5.1.Wait.flatMap eGMsgReq), .sl v5.1.Past.length (v5.1.Past.flatMap eGMsgReply)], .box [.i .i64 v5.2.1.Kind, .i .i64 v5.2.1.Seq, .i .i64 v5.2.1.Code, .i .i64 v5.2.1.N, .b v5.2.1.Found, .sl v5.2.1.Val.length (v5.2.1.Val.flatMap eU8), .sl v5.2.1.List.length (v5.2.1.List.flatMap eGApiKV)], .dead, .dead]) (alle_t rfl ⟨rfl, ⟨rfl, ⟨rfl, ⟨rfl, ⟨rfl, ⟨trivial, ⟨trivial, trivial⟩⟩⟩⟩⟩⟩⟩ (alle_t rfl ⟨rfl, ⟨rfl, ⟨rfl, ⟨rfl, ⟨rfl, ⟨trivial, ⟨trivial, trivial⟩⟩⟩⟩⟩⟩⟩ (alle_t rfl ⟨rfl, ⟨rfl, ⟨rfl, ⟨rfl, ⟨rfl, ⟨trivial, ⟨trivial, trivial⟩⟩⟩⟩⟩⟩⟩ (alle_t rfl ⟨rfl, ⟨rfl, ⟨rfl, ⟨rfl, ⟨rfl, ⟨trivial, ⟨trivial, trivial⟩⟩⟩⟩⟩⟩⟩ (alle_f rfl (alle_f rfl alle_nil)))))) rfl rfl (opD_call fn17 (opnds_cons rfl opnds_nil) rfl (m17_l16_reply_c hv7)) ?_
        refine med (md := [.box [.i .i64 a1.Kind, .i .i64 a1.Seq, .i .i64 a1.Code, .i .i64 a1.N, .b a1.Found, .sl a1.Val.length (a1.Val.flatMap eU8), .sl a1.List.length (a1.List.flatMap eGApiKV)], .box [.i .i64 a2.Kind, .i .i64 (wI ((BitVec.ofInt 64 a0 &&& BitVec.ofInt 64 7).toNat : Int)), .i .i64 a2.Token, .i .i64 a2.Attempt, .b a2.RO, .sl a2.Key.length (a2.Key.flatMap eU8), .sl a2.Val.length (a2.Val.flatMap eU8), .sl a2.Rng.Lo.length (a2.Rng.Lo.flatMap eU8), .sl a2.Rng.Hi.length (a2.Rng.Hi.flatMap eU8), .b a2.Rng.Open], .box [.i .i64 b3.1, .i .u64 (b3.2.1.toNat : Int), .i .i64 b3.2.2.1, .sl b3.2.2.2.1.length (b3.2.2.2.1.flatMap eGMsgReq), .sl b3.2.2.2.2.length (b3.2.2.2.2.flatMap eGMsgReply)], .box [.i .i64 v5.1.Win.Base, .i .u64 (v5.1.Win.Bits.toNat : Int), .i .i64 v5.1.Next, .sl v5.1.Wait.length (v5.1.Wait.flatMap eGMsgReq), .sl v5.1.Past.length (v5.1.Past.flatMap eGMsgReply)], .box [.i .i64 v5.2.1.Kind, .i .i64 v5.2.1.Seq, .i .i64 v5.2.1.Code, .i .i64 v5.2.1.N, .b v5.2.1.Found, .sl v5.2.1.Val.length (v5.2.1.Val.flatMap eU8), .sl v5.2.1.List.length (v5.2.1.List.flatMap eGApiKV)], .dead, .dead]) (alle_t rfl ⟨rfl, ⟨rfl, ⟨rfl, ⟨rfl, ⟨rfl, ⟨trivial, ⟨trivial, trivial⟩⟩⟩⟩⟩⟩⟩ (alle_t rfl ⟨rfl, ⟨rfl, ⟨rfl, ⟨rfl, ⟨rfl, ⟨trivial, ⟨trivial, trivial⟩⟩⟩⟩⟩⟩⟩ (alle_t rfl ⟨rfl, ⟨rfl, ⟨rfl, ⟨rfl, ⟨rfl, ⟨trivial, ⟨trivial, trivial⟩⟩⟩⟩⟩⟩⟩ (alle_t rfl ⟨rfl, ⟨rfl, ⟨rfl, ⟨rfl, ⟨rfl, ⟨trivial, ⟨trivial, trivial⟩⟩⟩⟩⟩⟩⟩ (alle_f rfl (alle_f rfl alle_nil)))))) rfl rfl (opD_call fn16 (opnds_cons rfl (opnds_cons rfl opnds_nil)) rfl (m16_pipe_Answer_c hv8)) ?_
        refine mem2 rfl rfl (fun _ => opv_mvt rfl) ?_
        refine mev (md := [.box [.i .i64 a1.Kind, .i .i64 a1.Seq, .i .i64 a1.Code, .i .i64 a1.N, .b a1.Found, .sl a1.Val.length (a1.Val.flatMap eU8), .sl a1.List.length (a1.List.flatMap eGApiKV)], .box [.i .i64 a2.Kind, .i .i64 (wI ((BitVec.ofInt 64 a0 &&& BitVec.ofInt 64 7).toNat : Int)), .i .i64 a2.Token, .i .i64 a2.Attempt, .b a2.RO, .sl a2.Key.length (a2.Key.flatMap eU8), .sl a2.Val.length (a2.Val.flatMap eU8), .sl a2.Rng.Lo.length (a2.Rng.Lo.flatMap eU8), .sl a2.Rng.Hi.length (a2.Rng.Hi.flatMap eU8), .b a2.Rng.Open], .box [.i .i64 b3.1, .i .u64 (b3.2.1.toNat : Int), .i .i64 b3.2.2.1, .sl b3.2.2.2.1.length (b3.2.2.2.1.flatMap eGMsgReq), .sl b3.2.2.2.2.length (b3.2.2.2.2.flatMap eGMsgReply)], .box [.i .i64 v5.1.Win.Base, .i .u64 (v5.1.Win.Bits.toNat : Int), .i .i64 v5.1.Next, .sl v5.1.Wait.length (v5.1.Wait.flatMap eGMsgReq), .sl v5.1.Past.length (v5.1.Past.flatMap eGMsgReply)], .box [.i .i64 v5.2.1.Kind, .i .i64 v5.2.1.Seq, .i .i64 v5.2.1.Code, .i .i64 v5.2.1.N, .b v5.2.1.Found, .sl v5.2.1.Val.length (v5.2.1.Val.flatMap eU8), .sl v5.2.1.List.length (v5.2.1.List.flatMap eGApiKV)], .dead, .dead]) (alle_t rfl ⟨rfl, ⟨rfl, ⟨rfl, ⟨rfl, ⟨rfl, ⟨trivial, ⟨trivial, trivial⟩⟩⟩⟩⟩⟩⟩ (alle_t rfl ⟨rfl, ⟨rfl, ⟨rfl, ⟨rfl, ⟨rfl, ⟨trivial, ⟨trivial, trivial⟩⟩⟩⟩⟩⟩⟩ (alle_t rfl ⟨rfl, ⟨rfl, ⟨rfl, ⟨rfl, ⟨rfl, ⟨trivial, ⟨trivial, trivial⟩⟩⟩⟩⟩⟩⟩ (alle_t rfl ⟨rfl, ⟨rfl, ⟨rfl, ⟨rfl, ⟨rfl, ⟨trivial, ⟨trivial, trivial⟩⟩⟩⟩⟩⟩⟩ (alle_f rfl (alle_f rfl alle_nil)))))) rfl rfl (opv_extract rfl rfl) ?_
        refine mev (md := [.box [.i .i64 a1.Kind, .i .i64 a1.Seq, .i .i64 a1.Code, .i .i64 a1.N, .b a1.Found, .sl a1.Val.length (a1.Val.flatMap eU8), .sl a1.List.length (a1.List.flatMap eGApiKV)], .box [.i .i64 a2.Kind, .i .i64 (wI ((BitVec.ofInt 64 a0 &&& BitVec.ofInt 64 7).toNat : Int)), .i .i64 a2.Token, .i .i64 a2.Attempt, .b a2.RO, .sl a2.Key.length (a2.Key.flatMap eU8), .sl a2.Val.length (a2.Val.flatMap eU8), .sl a2.Rng.Lo.length (a2.Rng.Lo.flatMap eU8), .sl a2.Rng.Hi.length (a2.Rng.Hi.flatMap eU8), .b a2.Rng.Open], .box [.i .i64 b3.1, .i .u64 (b3.2.1.toNat : Int), .i .i64 b3.2.2.1, .sl b3.2.2.2.1.length (b3.2.2.2.1.flatMap eGMsgReq), .sl b3.2.2.2.2.length (b3.2.2.2.2.flatMap eGMsgReply)], .box [.i .i64 v5.1.Win.Base, .i .u64 (v5.1.Win.Bits.toNat : Int), .i .i64 v5.1.Next, .sl v5.1.Wait.length (v5.1.Wait.flatMap eGMsgReq), .sl v5.1.Past.length (v5.1.Past.flatMap eGMsgReply)], .box [.i .i64 v5.2.1.Kind, .i .i64 v5.2.1.Seq, .i .i64 v5.2.1.Code, .i .i64 v5.2.1.N, .b v5.2.1.Found, .sl v5.2.1.Val.length (v5.2.1.Val.flatMap eU8), .sl v5.2.1.List.length (v5.2.1.List.flatMap eGApiKV)], .dead, .dead]) (alle_t rfl ⟨rfl, ⟨rfl, ⟨rfl, ⟨rfl, ⟨rfl, ⟨trivial, ⟨trivial, trivial⟩⟩⟩⟩⟩⟩⟩ (alle_t rfl ⟨rfl, ⟨rfl, ⟨rfl, ⟨rfl, ⟨rfl, ⟨trivial, ⟨trivial, trivial⟩⟩⟩⟩⟩⟩⟩ (alle_t rfl ⟨rfl, ⟨rfl, ⟨rfl, ⟨rfl, ⟨rfl, ⟨trivial, ⟨trivial, trivial⟩⟩⟩⟩⟩⟩⟩ (alle_t rfl ⟨rfl, ⟨rfl, ⟨rfl, ⟨rfl, ⟨rfl, ⟨trivial, ⟨trivial, trivial⟩⟩⟩⟩⟩⟩⟩ (alle_t rfl ⟨rfl, ⟨rfl, ⟨rfl, ⟨rfl, ⟨rfl, ⟨trivial, ⟨trivial, trivial⟩⟩⟩⟩⟩⟩⟩ (alle_f rfl alle_nil)))))) rfl rfl (opv_extract rfl rfl) ?_
        refine mev (md := [.box [.i .i64 a1.Kind, .i .i64 a1.Seq, .i .i64 a1.Code, .i .i64 a1.N, .b a1.Found, .sl a1.Val.length (a1.Val.flatMap eU8), .sl a1.List.length (a1.List.flatMap eGApiKV)], .box [.i .i64 a2.Kind, .i .i64 (wI ((BitVec.ofInt 64 a0 &&& BitVec.ofInt 64 7).toNat : Int)), .i .i64 a2.Token, .i .i64 a2.Attempt, .b a2.RO, .sl a2.Key.length (a2.Key.flatMap eU8), .sl a2.Val.length (a2.Val.flatMap eU8), .sl a2.Rng.Lo.length (a2.Rng.Lo.flatMap eU8), .sl a2.Rng.Hi.length (a2.Rng.Hi.flatMap eU8), .b a2.Rng.Open], .box [.i .i64 b3.1, .i .u64 (b3.2.1.toNat : Int), .i .i64 b3.2.2.1, .sl b3.2.2.2.1.length (b3.2.2.2.1.flatMap eGMsgReq), .sl b3.2.2.2.2.length (b3.2.2.2.2.flatMap eGMsgReply)], .box [.i .i64 v5.1.Win.Base, .i .u64 (v5.1.Win.Bits.toNat : Int), .i .i64 v5.1.Next, .sl v5.1.Wait.length (v5.1.Wait.flatMap eGMsgReq), .sl v5.1.Past.length (v5.1.Past.flatMap eGMsgReply)], .box [.i .i64 v5.2.1.Kind, .i .i64 v5.2.1.Seq, .i .i64 v5.2.1.Code, .i .i64 v5.2.1.N, .b v5.2.1.Found, .sl v5.2.1.Val.length (v5.2.1.Val.flatMap eU8), .sl v5.2.1.List.length (v5.2.1.List.flatMap eGApiKV)], .dead, .dead]) (alle_t rfl ⟨rfl, ⟨rfl, ⟨rfl, ⟨rfl, ⟨rfl, ⟨trivial, ⟨trivial, trivial⟩⟩⟩⟩⟩⟩⟩ (alle_t rfl ⟨rfl, ⟨rfl, ⟨rfl, ⟨rfl, ⟨rfl, ⟨trivial, ⟨trivial, trivial⟩⟩⟩⟩⟩⟩⟩ (alle_t rfl ⟨rfl, ⟨rfl, ⟨rfl, ⟨rfl, ⟨rfl, ⟨trivial, ⟨trivial, trivial⟩⟩⟩⟩⟩⟩⟩ (alle_t rfl ⟨rfl, ⟨rfl, ⟨rfl, ⟨rfl, ⟨rfl, ⟨trivial, ⟨trivial, trivial⟩⟩⟩⟩⟩⟩⟩ (alle_t rfl ⟨rfl, ⟨rfl, ⟨rfl, ⟨rfl, ⟨rfl, ⟨trivial, ⟨trivial, trivial⟩⟩⟩⟩⟩⟩⟩ (alle_t rfl ⟨rfl, ⟨rfl, ⟨rfl, ⟨rfl, ⟨rfl, ⟨trivial, ⟨trivial, trivial⟩⟩⟩⟩⟩⟩⟩ alle_nil)))))) rfl rfl (opv_extract rfl rfl) ?_
        refine mee (x := .s (.one (.lp 5 0))) 0 rfl rfl ?_ ?_
        · refine alle_t rfl ⟨_, rfl, fun ζ => ?_⟩ ?_
          · refine salloc_at 5 rfl zi46 rfl ?_
            exact eend
          refine alle_t rfl ⟨_, rfl, fun ζ => ?_⟩ ?_
          · refine salloc_at 5 rfl zi46 rfl ?_
            exact eend
          refine alle_f rfl ?_
          refine alle_f rfl ?_
          refine alle_f rfl ?_
          refine alle_f rfl ?_
          exact alle_nil
        refine mee (x := .s (.one (.lp 6 0))) 1 rfl rfl ?_ ?_
        · refine alle_t rfl ⟨_, rfl, fun ζ => ?_⟩ ?_
          · refine salloc_at 6 rfl zi48 rfl ?_
            exact eend
          refine alle_f rfl ?_
          refine alle_t rfl ⟨_, rfl, fun ζ => ?_⟩ ?_
          · refine salloc_at 6 rfl zi48 rfl ?_
            exact eend
          refine alle_f rfl ?_
          refine alle_f rfl ?_
          refine alle_f rfl ?_
          exact alle_nil
        refine mee0 2 rfl ?_ ?_
        · refine alle_f rfl ?_
          refine alle_f rfl ?_
          refine alle_f rfl ?_
          refine alle_t rfl ⟨_, rfl, fun ζ => ?_⟩ ?_
          · refine sstore sz46 rfl rfl rfl rfl (Nat.le_of_ble_eq_true rfl) ?_
            refine smem [.box [.i .i64 a1.Kind, .i .i64 a1.Seq, .i .i64 a1.Code, .i .i64 a1.N, .b a1.Found, .sl a1.Val.length (a1.Val.flatMap eU8), .sl a1.List.length (a1.List.flatMap eGApiKV)], .box [.i .i64 a2.Kind, .i .i64 (wI ((BitVec.ofInt 64 a0 &&& BitVec.ofInt 64 7).toNat : Int)), .i .i64 a2.Token, .i .i64 a2.Attempt, .b a2.RO, .sl a2.Key.length (a2.Key.flatMap eU8), .sl a2.Val.length (a2.Val.flatMap eU8), .sl a2.Rng.Lo.length (a2.Rng.Lo.flatMap eU8), .sl a2.Rng.Hi.length (a2.Rng.Hi.flatMap eU8), .b a2.Rng.Open], .box [.i .i64 b3.1, .i .u64 (b3.2.1.toNat : Int), .i .i64 b3.2.2.1, .sl b3.2.2.2.1.length (b3.2.2.2.1.flatMap eGMsgReq), .sl b3.2.2.2.2.length (b3.2.2.2.2.flatMap eGMsgReply)], .box [.i .i64 v5.1.Win.Base, .i .u64 (v5.1.Win.Bits.toNat : Int), .i .i64 v5.1.Next, .sl v5.1.Wait.length (v5.1.Wait.flatMap eGMsgReq), .sl v5.1.Past.length (v5.1.Past.flatMap eGMsgReply)], .box [.i .i64 v5.2.1.Kind, .i .i64 v5.2.1.Seq, .i .i64 v5.2.1.Code, .i .i64 v5.2.1.N, .b v5.2.1.Found, .sl v5.2.1.Val.length (v5.2.1.Val.flatMap eU8), .sl v5.2.1.List.length (v5.2.1.List.flatMap eGApiKV)], .box [.i .i64 v8.1.Win.Base, .i .u64 (v8.1.Win.Bits.toNat : Int), .i .i64 v8.1.Next, .sl v8.1.Wait.length (v8.1.Wait.flatMap eGMsgReq), .sl v8.1.Past.length (v8.1.Past.flatMap eGMsgReply)], .box [.i .i64 0, .i .i64 0, .i .i64 0, .i .i64 0, .b false, .raw (.slice none 0 0), .raw (.slice none 0 0)]] rfl ?_
            exact eend
          refine alle_f rfl ?_
          refine alle_f rfl ?_
          exact alle_nil
        refine mee0 3 rfl ?_ ?_
        · refine alle_f rfl ?_
          refine alle_f rfl ?_
          refine alle_f rfl ?_
          refine alle_f rfl ?_
          refine alle_t rfl ⟨_, rfl, fun ζ => ?_⟩ ?_
          · refine sstore sz48 rfl rfl rfl rfl (Nat.le_of_ble_eq_true rfl) ?_
            refine smem [.box [.i .i64 a1.Kind, .i .i64 a1.Seq, .i .i64 a1.Code, .i .i64 a1.N, .b a1.Found, .sl a1.Val.length (a1.Val.flatMap eU8), .sl a1.List.length (a1.List.flatMap eGApiKV)], .box [.i .i64 a2.Kind, .i .i64 (wI ((BitVec.ofInt 64 a0 &&& BitVec.ofInt 64 7).toNat : Int)), .i .i64 a2.Token, .i .i64 a2.Attempt, .b a2.RO, .sl a2.Key.length (a2.Key.flatMap eU8), .sl a2.Val.length (a2.Val.flatMap eU8), .sl a2.Rng.Lo.length (a2.Rng.Lo.flatMap eU8), .sl a2.Rng.Hi.length (a2.Rng.Hi.flatMap eU8), .b a2.Rng.Open], .box [.i .i64 b3.1, .i .u64 (b3.2.1.toNat : Int), .i .i64 b3.2.2.1, .sl b3.2.2.2.1.length (b3.2.2.2.1.flatMap eGMsgReq), .sl b3.2.2.2.2.length (b3.2.2.2.2.flatMap eGMsgReply)], .box [.i .i64 v5.1.Win.Base, .i .u64 (v5.1.Win.Bits.toNat : Int), .i .i64 v5.1.Next, .sl v5.1.Wait.length (v5.1.Wait.flatMap eGMsgReq), .sl v5.1.Past.length (v5.1.Past.flatMap eGMsgReply)], .box [.i .i64 v5.2.1.Kind, .i .i64 v5.2.1.Seq, .i .i64 v5.2.1.Code, .i .i64 v5.2.1.N, .b v5.2.1.Found, .sl v5.2.1.Val.length (v5.2.1.Val.flatMap eU8), .sl v5.2.1.List.length (v5.2.1.List.flatMap eGApiKV)], .box [.i .i64 v8.1.Win.Base, .i .u64 (v8.1.Win.Bits.toNat : Int), .i .i64 v8.1.Next, .sl v8.1.Wait.length (v8.1.Wait.flatMap eGMsgReq), .sl v8.1.Past.length (v8.1.Past.flatMap eGMsgReply)], .box [.i .i64 v8.2.1.Kind, .i .i64 v8.2.1.Seq, .i .i64 v8.2.1.Code, .i .i64 v8.2.1.N, .b v8.2.1.Found, .sl v8.2.1.Val.length (v8.2.1.Val.flatMap eU8), .sl v8.2.1.List.length (v8.2.1.List.flatMap eGApiKV)]] rfl ?_
            exact eend
          refine alle_f rfl ?_
          exact alle_nil
        refine mem2 rfl rfl (fun _ => opv_as rfl) ?_
        refine mnil2 ?_
        refine then_normal ?_
        refine cseq ?_
        refine cregion ?_
        refine sv rfl (opv_mv rfl) ?_
        refine sv rfl (opv_mv rfl) ?_
        refine ssplit 95 rfl (fun hc => ?_) (fun hc => ?_)
        · replace h := ite_t hc h
          clear hc
          refine son rfl rfl rfl ?_
          refine sv rfl (opv_mv rfl) ?_
          refine son rfl rfl rfl ?_
          refine sv rfl (opv_ieql rfl rfl) ?_
          refine sv rfl (opv_pick_t rfl rfl) ?_
          refine sv rfl (opv_mv rfl) ?_
          refine ssplit 99 rfl (fun hc => ?_) (fun hc => ?_)
          · replace h := ite_t hc h
            clear hc
            refine son rfl rfl rfl ?_
            refine sv rfl (opv_mv rfl) ?_
            refine sv rfl (opv_pick_t rfl rfl) ?_
            refine sv rfl (opv_mv rfl) ?_
            refine ssplit 102 rfl (fun hc => ?_) (fun hc => ?_)
            · replace h := ite_t hc h
              clear hc
              refine son rfl rfl rfl ?_
              refine sv rfl (opv_fieldAddr_lp fi48_3 rfl) ?_
              refine son rfl rfl rfl ?_
              refine sv rfl (opv_load1 ti3 rfl (.lp _ _ _ rfl) rfl) ?_
              refine son rfl rfl rfl ?_
              refine sv rfl (opv_mv rfl) ?_
              refine son rfl rfl rfl ?_
              refine sv rfl (opv_ieql rfl rfl) ?_
              refine sv rfl (opv_pick_t rfl rfl) ?_
              refine sv rfl (opv_mv rfl) ?_
              refine ssplit 108 rfl (fun hc => ?_) (fun hc => ?_)
              · replace h := ite_t hc h
                clear hc
                refine son rfl rfl rfl ?_
                refine sv rfl (opv_fieldAddr_lp fi48_0 rfl) ?_
                refine son rfl rfl rfl ?_
                refine sv rfl (opv_load1 ti3 rfl (.lp _ _ _ rfl) rfl) ?_
                refine son rfl rfl rfl ?_
                refine sv rfl (opv_ieql rfl rfl) ?_
                refine sv rfl (opv_pick_t rfl rfl) ?_
                refine sv rfl (opv_mv rfl) ?_
                refine ssplit 113 rfl (fun hc => ?_) (fun hc => ?_)
                · replace h := ite_t hc h
                  clear hc
                  refine son rfl rfl rfl ?_
                  refine sv rfl (opv_fieldAddr_lp fi48_1 rfl) ?_
                  refine son rfl rfl rfl ?_
                  refine sv rfl (opv_load1 ti3 rfl (.lp _ _ _ rfl) rfl) ?_
                  refine son rfl rfl rfl ?_
                  refine sv rfl (opv_mv rfl) ?_
                  refine son rfl rfl rfl ?_
                  refine sv rfl (opv_ieql rfl rfl) ?_
                  refine sv rfl (opv_pick_t rfl rfl) ?_
                  refine sv rfl (opv_mv rfl) ?_
                  refine ssplit 119 rfl (fun hc => ?_) (fun hc => ?_)
                  · replace h := ite_t hc h
                    clear hc
                    refine son rfl rfl rfl ?_
                    refine sv rfl (opv_mv rfl) ?_
                    refine son rfl rfl rfl ?_
                    refine sv rfl (opv_ieql rfl rfl) ?_
                    refine sv rfl (opv_pick_t rfl rfl) ?_
                    refine sv rfl (opv_as rfl) ?_
                    refine snil ?_
                    refine cret ?_
                    obtain rfl := Option.some.inj h
                    refine ⟨Or.inr rfl, _, _, _, (resVs_cons (ResV.tmp _ _ rfl) resVs_nil), (pubA_id rfl), ?_⟩
                    rfl
                  · replace h := ite_f hc h
                    clear hc
                    refine soff rfl rfl rfl rfl ?_
                    refine soff rfl rfl rfl rfl ?_
                    refine sv rfl (opv_pick_f rfl rfl) ?_
                    refine sv rfl (opv_as rfl) ?_
                    refine snil ?_
                    refine cret ?_
                    obtain rfl := Option.some.inj h
                    refine ⟨Or.inr rfl, _, _, _, (resVs_cons (ResV.tmp _ _ rfl) resVs_nil), (pubA_id rfl), ?_⟩
                    rfl
                · replace h := ite_f hc h
                  clear hc
                  refine soff rfl rfl rfl rfl ?_
                  refine soff rfl rfl rfl rfl ?_
                  refine soff rfl rfl rfl rfl ?_
                  refine soff rfl rfl rfl rfl ?_
                  refine sv rfl (opv_pick_f rfl rfl) ?_
                  refine sv rfl (opv_mv rfl) ?_
                  refine soff rfl rfl rfl rfl ?_
                  refine soff rfl rfl rfl rfl ?_
                  refine sv rfl (opv_pick_f rfl rfl) ?_
                  refine sv rfl (opv_as rfl) ?_
                  refine snil ?_
                  refine cret ?_
                  obtain rfl := Option.some.inj h
                  refine ⟨Or.inr rfl, _, _, _, (resVs_cons (ResV.tmp _ _ rfl) resVs_nil), (pubA_id rfl), ?_⟩
                  rfl
              · replace h := ite_f hc h
                clear hc
                refine soff rfl rfl rfl rfl ?_
                refine soff rfl rfl rfl rfl ?_
                refine soff rfl rfl rfl rfl ?_
                refine sv rfl (opv_pick_f rfl rfl) ?_
                refine sv rfl (opv_mv rfl) ?_
                refine soff rfl rfl rfl rfl ?_
                refine soff rfl rfl rfl rfl ?_
                refine soff rfl rfl rfl rfl ?_
                refine soff rfl rfl rfl rfl ?_
                refine sv rfl (opv_pick_f rfl rfl) ?_
                refine sv rfl (opv_mv rfl) ?_
                refine soff rfl rfl rfl rfl ?_
                refine soff rfl rfl rfl rfl ?_
                refine sv rfl (opv_pick_f rfl rfl) ?_
                refine sv rfl (opv_as rfl) ?_
                refine snil ?_
                refine cret ?_
                obtain rfl := Option.some.inj h
                refine ⟨Or.inr rfl, _, _, _, (resVs_cons (ResV.tmp _ _ rfl) resVs_nil), (pubA_id rfl), ?_⟩
                rfl
            · replace h := ite_f hc h
              clear hc
              refine soff rfl rfl rfl rfl ?_
              refine soff rfl rfl rfl rfl ?_
              refine soff rfl rfl rfl rfl ?_
              refine soff rfl rfl rfl rfl ?_
              refine sv rfl (opv_pick_f rfl rfl) ?_
              refine sv rfl (opv_mv rfl) ?_
              refine soff rfl rfl rfl rfl ?_
              refine soff rfl rfl rfl rfl ?_
              refine soff rfl rfl rfl rfl ?_
              refine sv rfl (opv_pick_f rfl rfl) ?_
              refine sv rfl (opv_mv rfl) ?_
              refine soff rfl rfl rfl rfl ?_
              refine soff rfl rfl rfl rfl ?_
              refine soff rfl rfl rfl rfl ?_
              refine soff rfl rfl rfl rfl ?_
              refine sv rfl (opv_pick_f rfl rfl) ?_
              refine sv rfl (opv_mv rfl) ?_
              refine soff rfl rfl rfl rfl ?_
              refine soff rfl rfl rfl rfl ?_
              refine sv rfl (opv_pick_f rfl rfl) ?_
              refine sv rfl (opv_as rfl) ?_
              refine snil ?_
              refine cret ?_
              obtain rfl := Option.some.inj h
              refine ⟨Or.inr rfl, _, _, _, (resVs_cons (ResV.tmp _ _ rfl) resVs_nil), (pubA_id rfl), ?_⟩
              rfl
          · replace h := ite_f hc h
            clear hc
            refine soff rfl rfl rfl rfl ?_
            refine sv rfl (opv_pick_f rfl rfl) ?_
            refine sv rfl (opv_mv rfl) ?_
            refine soff rfl rfl rfl rfl ?_
            refine soff rfl rfl rfl rfl ?_
            refine soff rfl rfl rfl rfl ?_
            refine soff rfl rfl rfl rfl ?_
            refine sv rfl (opv_pick_f rfl rfl) ?_
            refine sv rfl (opv_mv rfl) ?_
            refine soff rfl rfl rfl rfl ?_
            refine soff rfl rfl rfl rfl ?_
            refine soff rfl rfl rfl rfl ?_
            refine sv rfl (opv_pick_f rfl rfl) ?_
            refine sv rfl (opv_mv rfl) ?_
            refine soff rfl rfl rfl rfl ?_
            refine soff rfl rfl rfl rfl ?_
            refine soff rfl rfl rfl rfl ?_
            refine soff rfl rfl rfl rfl ?_
            refine sv rfl (opv_pick_f rfl rfl) ?_
            refine sv rfl (opv_mv rfl) ?_
            refine soff rfl rfl rfl rfl ?_
            refine soff rfl rfl rfl rfl ?_
            refine sv rfl (opv_pick_f rfl rfl) ?_
            refine sv rfl (opv_as rfl) ?_
            refine snil ?_
            refine cret ?_
            obtain rfl := Option.some.inj h
            refine ⟨Or.inr rfl, _, _, _, (resVs_cons (ResV.tmp _ _ rfl) resVs_nil), (pubA_id rfl), ?_⟩
            rfl
        · replace h := ite_f hc h
          clear hc
          refine soff rfl rfl rfl rfl ?_
          refine soff rfl rfl rfl rfl ?_
          refine sv rfl (opv_pick_f rfl rfl) ?_
          refine sv rfl (opv_mv rfl) ?_
          refine soff rfl rfl rfl rfl ?_
          refine sv rfl (opv_pick_f rfl rfl) ?_
          refine sv rfl (opv_mv rfl) ?_
          refine soff rfl rfl rfl rfl ?_
          refine soff rfl rfl rfl rfl ?_
          refine soff rfl rfl rfl rfl ?_
          refine soff rfl rfl rfl rfl ?_
          refine sv rfl (opv_pick_f rfl rfl) ?_
          refine sv rfl (opv_mv rfl) ?_
          refine soff rfl rfl rfl rfl ?_
          refine soff rfl rfl rfl rfl ?_
          refine soff rfl rfl rfl rfl ?_
          refine sv rfl (opv_pick_f rfl rfl) ?_
          refine sv rfl (opv_mv rfl) ?_
          refine soff rfl rfl rfl rfl ?_
          refine soff rfl rfl rfl rfl ?_
          refine soff rfl rfl rfl rfl ?_
          refine soff rfl rfl rfl rfl ?_
          refine sv rfl (opv_pick_f rfl rfl) ?_
          refine sv rfl (opv_mv rfl) ?_
          refine soff rfl rfl rfl rfl ?_
          refine soff rfl rfl rfl rfl ?_
          refine sv rfl (opv_pick_f rfl rfl) ?_
          refine sv rfl (opv_as rfl) ?_
          refine snil ?_
          refine cret ?_
          obtain rfl := Option.some.inj h
          refine ⟨Or.inr rfl, _, _, _, (resVs_cons (ResV.tmp _ _ rfl) resVs_nil), (pubA_id rfl), ?_⟩
          rfl
    · skip
      refine cblock ?_
      refine cpubbox 2 3 rfl rfl PubL.nil rfl ?_
      refine cpubbox 2 4 rfl rfl PubL.nil rfl ?_
      obtain ⟨x9, hx9, ho9⟩ := bind_eq h
      refine awc_loop (G := Nat × (Int × Int × (BitVec 64) × Int × (List GMsgReq) × (List GMsgReply))) (fun g => [(4, .s (.one (.lp 0 0))), (5, .s (.one (.lp 1 0))), (7, .s (.one (.b v1))), (8, .s (.one (.i .i64 (wI ((BitVec.ofInt 64 a0 &&& BitVec.ofInt 64 7).toNat : Int))))), (9, .s (.one (.lp 2 0))), (10, .s (.one (.i .i64 g.2.1)))]) (fun g => [.box [.i .i64 a1.Kind, .i .i64 a1.Seq, .i .i64 a1.Code, .i .i64 a1.N, .b a1.Found, .sl a1.Val.length (a1.Val.flatMap eU8), .sl a1.List.length (a1.List.flatMap eGApiKV)], .box [.i .i64 a2.Kind, .i .i64 a2.Seq, .i .i64 a2.Token, .i .i64 a2.Attempt, .b a2.RO, .sl a2.Key.length (a2.Key.flatMap eU8), .sl a2.Val.length (a2.Val.flatMap eU8), .sl a2.Rng.Lo.length (a2.Rng.Lo.flatMap eU8), .sl a2.Rng.Hi.length (a2.Rng.Hi.flatMap eU8), .b a2.Rng.Open], .box [.i .i64 g.2.2.1, .i .u64 (g.2.2.2.1.toNat : Int), .i .i64 g.2.2.2.2.1, .sl g.2.2.2.2.2.1.length (g.2.2.2.2.2.1.flatMap eGMsgReq), .sl g.2.2.2.2.2.2.length (g.2.2.2.2.2.2.flatMap eGMsgReply)]]) (fun g => iter (m7_l16_PipeSame_s9 a0) g.1 g.2 = some x9) (fun g => g.1) (fuel, (0, 0, 0#64, 0, ([] : List GMsgReq), ([] : List GMsgReply))) hx9 ⟨rfl, rfl, rfl, rfl, rfl, rfl, trivial⟩ [] rfl (fun _ _ => inbL_of rfl) (fun _ _ => blkinb_of rfl) (fun _ _ => Nat.le_of_ble_eq_true rfl) ?_
      clear hx9 h
      rintro ⟨n9, s9⟩ h
      obtain ⟨n9, y9, rfl, h, hk9⟩ := iter_eq h
      unfold m7_l16_PipeSame_s9 at h
      refine cseq ?_
      refine cseq ?_
      refine cregion ?_
      refine sv rfl (opv_mv rfl) ?_
      refine sv rfl (opv_mv rfl) ?_
      refine sv rfl (opv_leq rfl rfl) ?_
      refine snil ?_
      refine ccond rfl (fun hc => ?_) (fun hc => ?_)
      · replace h := ite_t hc h
        clear hc
        refine cskip ?_
        refine then_normal ?_
        refine cseq ?_
        refine cblock ?_
        refine cseq ?_
        refine cregion ?_
        refine sv rfl (opv_loadN ti46 rfl (.lp _ _ _ rfl) (Nat.le_of_ble_eq_true rfl)) ?_
        refine sv rfl (opv_mv rfl) ?_
        refine sv rfl (opv_build zi51 pi51 (parts_cons rfl (parts_cons rfl parts_nil)) (.cons _ _ _ _ _ _ _ rfl rfl (Nat.le_of_ble_eq_true rfl) (.cons _ _ _ _ _ _ _ rfl rfl (Nat.le_of_ble_eq_true rfl) (.nil _)))) ?_
        obtain ⟨v10, hv10, h⟩ := bind_eq h
        refine scall1 rfl fn13 (opnds_cons rfl (opnds_cons rfl opnds_nil)) (pubC rfl) (m13_pipe_Offer_c hv10) ?_
        refine sv rfl (opv_mvt rfl) ?_
        refine sv rfl (opv_extract rfl rfl) ?_
        refine sv rfl (opv_extract rfl rfl) ?_
        refine sv rfl (opv_extract rfl rfl) ?_
        refine sv rfl (opv_extract rfl rfl) ?_
        refine salloc rfl zi46 ?_
        refine salloc rfl zi48 ?_
        refine sstore sz46 rfl rfl rfl rfl (Nat.le_of_ble_eq_true rfl) ?_
        refine smem [.box [.i .i64 a1.Kind, .i .i64 a1.Seq, .i .i64 a1.Code, .i .i64 a1.N, .b a1.Found, .sl a1.Val.length (a1.Val.flatMap eU8), .sl a1.List.length (a1.List.flatMap eGApiKV)], .box [.i .i64 a2.Kind, .i .i64 a2.Seq, .i .i64 a2.Token, .i .i64 a2.Attempt, .b a2.RO, .sl a2.Key.length (a2.Key.flatMap eU8), .sl a2.Val.length (a2.Val.flatMap eU8), .sl a2.Rng.Lo.length (a2.Rng.Lo.flatMap eU8), .sl a2.Rng.Hi.length (a2.Rng.Hi.flatMap eU8), .b a2.Rng.Open], .box [.i .i64 s9.2.1, .i .u64 (s9.2.2.1.toNat : Int), .i .i64 s9.2.2.2.1, .sl s9.2.2.2.2.1.length (s9.2.2.2.2.1.flatMap eGMsgReq), .sl s9.2.2.2.2.2.length (s9.2.2.2.2.2.flatMap eGMsgReply)], .box [.i .i64 v10.1.Win.Base, .i .u64 (v10.1.Win.Bits.toNat : Int), .i .i64 v10.1.Next, .sl v10.1.Wait.length (v10.1.Wait.flatMap eGMsgReq), .sl v10.1.Past.length (v10.1.Past.flatMap eGMsgReply)], .box [.i .i64 0, .i .i64 0, .i .i64 0, .i .i64 0, .b false, .raw (.slice none 0 0), .raw (.slice none 0 0)]] rfl ?_
        refine sstore sz48 rfl rfl rfl rfl (Nat.le_of_ble_eq_true rfl) ?_
        refine smem [.box [.i .i64 a1.Kind, .i .i64 a1.Seq, .i .i64 a1.Code, .i .i64 a1.N, .b a1.Found, .sl a1.Val.length (a1.Val.flatMap eU8), .sl a1.List.length (a1.List.flatMap eGApiKV)], .box [.i .i64 a2.Kind, .i .i64 a2.Seq, .i .i64 a2.Token, .i .i64 a2.Attempt, .b a2.RO, .sl a2.Key.length (a2.Key.flatMap eU8), .sl a2.Val.length (a2.Val.flatMap eU8), .sl a2.Rng.Lo.length (a2.Rng.Lo.flatMap eU8), .sl a2.Rng.Hi.length (a2.Rng.Hi.flatMap eU8), .b a2.Rng.Open], .box [.i .i64 s9.2.1, .i .u64 (s9.2.2.1.toNat : Int), .i .i64 s9.2.2.2.1, .sl s9.2.2.2.2.1.length (s9.2.2.2.2.1.flatMap eGMsgReq), .sl s9.2.2.2.2.2.length (s9.2.2.2.2.2.flatMap eGMsgReply)], .box [.i .i64 v10.1.Win.Base, .i .u64 (v10.1.Win.Bits.toNat : Int), .i .i64 v10.1.Next, .sl v10.1.Wait.length (v10.1.Wait.flatMap eGMsgReq), .sl v10.1.Past.length (v10.1.Past.flatMap eGMsgReply)], .box [.i .i64 v10.2.1.Kind, .i .i64 v10.2.1.Seq, .i .i64 v10.2.1.Code, .i .i64 v10.2.1.N, .b v10.2.1.Found, .sl v10.2.1.Val.length (v10.2.1.Val.flatMap eU8), .sl v10.2.1.List.length (v10.2.1.List.flatMap eGApiKV)]] rfl ?_
        refine sv rfl (opv_as rfl) ?_
        refine sv rfl (opv_as rfl) ?_
        refine snil ?_
        refine cseq ?_
        refine cregion ?_
        refine sv rfl (opv_loadN ti46 rfl (.lp _ _ _ rfl) (Nat.le_of_ble_eq_true rfl)) ?_
        refine sv rfl (opv_mv rfl) ?_
        refine sv rfl (opv_build zi48 pi48 (parts_cons rfl parts_nil) (.cons _ _ _ _ _ _ _ rfl rfl (Nat.le_of_ble_eq_true rfl) (.nil _))) ?_
        obtain ⟨v11, hv11, h⟩ := bind_eq h
        refine scall1 rfl fn16 (opnds_cons rfl (opnds_cons rfl opnds_nil)) (pubC rfl) (m16_pipe_Answer_c hv11) ?_
        refine sv rfl (opv_mvt rfl) ?_
        refine sv rfl (opv_extract rfl rfl) ?_
        refine sv rfl (opv_extract rfl rfl) ?_
        refine sv rfl (opv_extract rfl rfl) ?_
        refine salloc rfl zi46 ?_
        refine salloc rfl zi48 ?_
        refine sstore sz46 rfl rfl rfl rfl (Nat.le_of_ble_eq_true rfl) ?_
        refine smem [.box [.i .i64 a1.Kind, .i .i64 a1.Seq, .i .i64 a1.Code, .i .i64 a1.N, .b a1.Found, .sl a1.Val.length (a1.Val.flatMap eU8), .sl a1.List.length (a1.List.flatMap eGApiKV)], .box [.i .i64 a2.Kind, .i .i64 a2.Seq, .i .i64 a2.Token, .i .i64 a2.Attempt, .b a2.RO, .sl a2.Key.length (a2.Key.flatMap eU8), .sl a2.Val.length (a2.Val.flatMap eU8), .sl a2.Rng.Lo.length (a2.Rng.Lo.flatMap eU8), .sl a2.Rng.Hi.length (a2.Rng.Hi.flatMap eU8), .b a2.Rng.Open], .box [.i .i64 s9.2.1, .i .u64 (s9.2.2.1.toNat : Int), .i .i64 s9.2.2.2.1, .sl s9.2.2.2.2.1.length (s9.2.2.2.2.1.flatMap eGMsgReq), .sl s9.2.2.2.2.2.length (s9.2.2.2.2.2.flatMap eGMsgReply)], .box [.i .i64 v10.1.Win.Base, .i .u64 (v10.1.Win.Bits.toNat : Int), .i .i64 v10.1.Next, .sl v10.1.Wait.length (v10.1.Wait.flatMap eGMsgReq), .sl v10.1.Past.length (v10.1.Past.flatMap eGMsgReply)], .box [.i .i64 v10.2.1.Kind, .i .i64 v10.2.1.Seq, .i .i64 v10.2.1.Code, .i .i64 v10.2.1.N, .b v10.2.1.Found, .sl v10.2.1.Val.length (v10.2.1.Val.flatMap eU8), .sl v10.2.1.List.length (v10.2.1.List.flatMap eGApiKV)], .box [.i .i64 v11.1.Win.Base, .i .u64 (v11.1.Win.Bits.toNat : Int), .i .i64 v11.1.Next, .sl v11.1.Wait.length (v11.1.Wait.flatMap eGMsgReq), .sl v11.1.Past.length (v11.1.Past.flatMap eGMsgReply)], .box [.i .i64 0, .i .i64 0, .i .i64 0, .i .i64 0, .b false, .raw (.slice none 0 0), .raw (.slice none 0 0)]] rfl ?_
        refine sstore sz48 rfl rfl rfl rfl (Nat.le_of_ble_eq_true rfl) ?_
        refine smem [.box [.i .i64 a1.Kind, .i .i64 a1.Seq, .i .i64 a1.Code, .i .i64 a1.N, .b a1.Found, .sl a1.Val.length (a1.Val.flatMap eU8), .sl a1.List.length (a1.List.flatMap eGApiKV)], .box [.i .i64 a2.Kind, .i .i64 a2.Seq, .i .i64 a2.Token, .i .i64 a2.Attempt, .b a2.RO, .sl a2.Key.length (a2.Key.flatMap eU8), .sl a2.Val.length (a2.Val.flatMap eU8), .sl a2.Rng.Lo.length (a2.Rng.Lo.flatMap eU8), .sl a2.Rng.Hi.length (a2.Rng.Hi.flatMap eU8), .b a2.Rng.Open], .box [.i .i64 s9.2.1, .i .u64 (s9.2.2.1.toNat : Int), .i .i64 s9.2.2.2.1, .sl s9.2.2.2.2.1.length (s9.2.2.2.2.1.flatMap eGMsgReq), .sl s9.2.2.2.2.2.length (s9.2.2.2.2.2.flatMap eGMsgReply)], .box [.i .i64 v10.1.Win.Base, .i .u64 (v10.1.Win.Bits.toNat : Int), .i .i64 v10.1.Next, .sl v10.1.Wait.length (v10.1.Wait.flatMap eGMsgReq), .sl v10.1.Past.length (v10.1.Past.flatMap eGMsgReply)], .box [.i .i64 v10.2.1.Kind, .i .i64 v10.2.1.Seq, .i .i64 v10.2.1.Code, .i .i64 v10.2.1.N, .b v10.2.1.Found, .sl v10.2.1.Val.length (v10.2.1.Val.flatMap eU8), .sl v10.2.1.List.length (v10.2.1.List.flatMap eGApiKV)], .box [.i .i64 v11.1.Win.Base, .i .u64 (v11.1.Win.Bits.toNat : Int), .i .i64 v11.1.Next, .sl v11.1.Wait.length (v11.1.Wait.flatMap eGMsgReq), .sl v11.1.Past.length (v11.1.Past.flatMap eGMsgReply)], .box [.i .i64 v11.2.1.Kind, .i .i64 v11.2.1.Seq, .i .i64 v11.2.1.Code, .i .i64 v11.2.1.N, .b v11.2.1.Found, .sl v11.2.1.Val.length (v11.2.1.Val.flatMap eU8), .sl v11.2.1.List.length (v11.2.1.List.flatMap eGApiKV)]] rfl ?_
        refine sv rfl (opv_as rfl) ?_
        refine snil ?_
        refine cseq ?_
        refine cseq ?_
        refine cjoin3 (Unit) (fun b12 => [(4, .s (.one (.lp 0 0))), (5, .s (.one (.lp 1 0))), (7, .s (.one (.b v1))), (8, .s (.one (.i .i64 (wI ((BitVec.ofInt 64 a0 &&& BitVec.ofInt 64 7).toNat : Int))))), (9, .s (.one (.lp 2 0))), (10, .s (.one (.i .i64 s9.1))), (15, .s (.one (.lp 5 0)))]) (fun b12 => [.box [.i .i64 a1.Kind, .i .i64 a1.Seq, .i .i64 a1.Code, .i .i64 a1.N, .b a1.Found, .sl a1.Val.length (a1.Val.flatMap eU8), .sl a1.List.length (a1.List.flatMap eGApiKV)], .box [.i .i64 a2.Kind, .i .i64 a2.Seq, .i .i64 a2.Token, .i .i64 a2.Attempt, .b a2.RO, .sl a2.Key.length (a2.Key.flatMap eU8), .sl a2.Val.length (a2.Val.flatMap eU8), .sl a2.Rng.Lo.length (a2.Rng.Lo.flatMap eU8), .sl a2.Rng.Hi.length (a2.Rng.Hi.flatMap eU8), .b a2.Rng.Open], .box [.i .i64 s9.2.1, .i .u64 (s9.2.2.1.toNat : Int), .i .i64 s9.2.2.2.1, .sl s9.2.2.2.2.1.length (s9.2.2.2.2.1.flatMap eGMsgReq), .sl s9.2.2.2.2.2.length (s9.2.2.2.2.2.flatMap eGMsgReply)], .box [.i .i64 v10.1.Win.Base, .i .u64 (v10.1.Win.Bits.toNat : Int), .i .i64 v10.1.Next, .sl v10.1.Wait.length (v10.1.Wait.flatMap eGMsgReq), .sl v10.1.Past.length (v10.1.Past.flatMap eGMsgReply)], .box [.i .i64 v10.2.1.Kind, .i .i64 v10.2.1.Seq, .i .i64 v10.2.1.Code, .i .i64 v10.2.1.N, .b v10.2.1.Found, .sl v10.2.1.Val.length (v10.2.1.Val.flatMap eU8), .sl v10.2.1.List.length (v10.2.1.List.flatMap eGApiKV)], .box [.i .i64 v11.1.Win.Base, .i .u64 (v11.1.Win.Bits.toNat : Int), .i .i64 v11.1.Next, .sl v11.1.Wait.length (v11.1.Wait.flatMap eGMsgReq), .sl v11.1.Past.length (v11.1.Past.flatMap eGMsgReply)], .box [.i .i64 v11.2.1.Kind, .i .i64 v11.2.1.Seq, .i .i64 v11.2.1.Code, .i .i64 v11.2.1.N, .b v11.2.1.Found, .sl v11.2.1.Val.length (v11.2.1.Val.flatMap eU8), .sl v11.2.1.List.length (v11.2.1.List.flatMap eGApiKV)]]) (fun b12 => m7_l16_PipeSame_k12 s9 v11 b12 = some y9) (fun _ _ => inbL_of rfl) (fun _ _ => blkinb_of rfl) (fun _ _ => Nat.le_of_ble_eq_true rfl) (fun b12 h => ?_) ?_
        · unfold m7_l16_PipeSame_k12 at h
          refine cregion ?_
          refine sv rfl (opv_loadN ti46 rfl (.lp _ _ _ rfl) (Nat.le_of_ble_eq_true rfl)) ?_
          refine sstore sz46 rfl rfl rfl rfl (Nat.le_of_ble_eq_true rfl) ?_
          refine smem [.box [.i .i64 a1.Kind, .i .i64 a1.Seq, .i .i64 a1.Code, .i .i64 a1.N, .b a1.Found, .sl a1.Val.length (a1.Val.flatMap eU8), .sl a1.List.length (a1.List.flatMap eGApiKV)], .box [.i .i64 a2.Kind, .i .i64 a2.Seq, .i .i64 a2.Token, .i .i64 a2.Attempt, .b a2.RO, .sl a2.Key.length (a2.Key.flatMap eU8), .sl a2.Val.length (a2.Val.flatMap eU8), .sl a2.Rng.Lo.length (a2.Rng.Lo.flatMap eU8), .sl a2.Rng.Hi.length (a2.Rng.Hi.flatMap eU8), .b a2.Rng.Open], .box [.i .i64 v11.1.Win.Base, .i .u64 (v11.1.Win.Bits.toNat : Int), .i .i64 v11.1.Next, .sl v11.1.Wait.length (v11.1.Wait.flatMap eGMsgReq), .sl v11.1.Past.length (v11.1.Past.flatMap eGMsgReply)], .box [.i .i64 v10.1.Win.Base, .i .u64 (v10.1.Win.Bits.toNat : Int), .i .i64 v10.1.Next, .sl v10.1.Wait.length (v10.1.Wait.flatMap eGMsgReq), .sl v10.1.Past.length (v10.1.Past.flatMap eGMsgReply)], .box [.i .i64 v10.2.1.Kind, .i .i64 v10.2.1.Seq, .i .i64 v10.2.1.Code, .i .i64 v10.2.1.N, .b v10.2.1.Found, .sl v10.2.1.Val.length (v10.2.1.Val.flatMap eU8), .sl v10.2.1.List.length (v10.2.1.List.flatMap eGApiKV)], .box [.i .i64 v11.1.Win.Base, .i .u64 (v11.1.Win.Bits.toNat : Int), .i .i64 v11.1.Next, .sl v11.1.Wait.length (v11.1.Wait.flatMap eGMsgReq), .sl v11.1.Past.length (v11.1.Past.flatMap eGMsgReply)], .box [.i .i64 v11.2.1.Kind, .i .i64 v11.2.1.Seq, .i .i64 v11.2.1.Code, .i .i64 v11.2.1.N, .b v11.2.1.Found, .sl v11.2.1.Val.length (v11.2.1.Val.flatMap eU8), .sl v11.2.1.List.length (v11.2.1.List.flatMap eGApiKV)]] rfl ?_
          refine snil0 ?_
          refine block_normal ?_
          refine then_normal ?_
          refine cregion ?_
          refine sv rfl (opv_mv rfl) ?_
          refine sv rfl (opv_add rfl rfl) ?_
          refine sv rfl (opv_as rfl) ?_
          refine snil ?_
          obtain rfl := Option.some.inj h
          exact ⟨(n9, ((wI (s9.1 + 1)), v11.1.Win.Base, v11.1.Win.Bits, v11.1.Next, v11.1.Wait, v11.1.Past)), _, hk9, ⟨rfl, rfl, rfl, rfl, rfl, rfl, trivial⟩, rfl, Nat.lt_succ_self _⟩
        · skip
          refine cregion ?_
          refine sv rfl (opv_mv rfl) ?_
          refine sv rfl (opv_ineq rfl rfl) ?_
          refine sv rfl (opv_mv rfl) ?_
          refine ssplit 62 rfl (fun hc => ?_) (fun hc => ?_)
          · replace h := ite_t hc h
            clear hc
            refine soff rfl rfl rfl rfl ?_
            refine soff rfl rfl rfl rfl ?_
            refine sv rfl (opv_pick_t rfl rfl) ?_
            refine snil ?_
            refine ccond rfl (fun _ => ?_) (fun hx => Bool.noConfusion hx)
            refine cseq ?_
            refine cregion ?_
            refine sv rfl (opv_as rfl) ?_
            refine snil ?_
            refine cret ?_
            refine then_ret ?_
            refine block_ret ?_
            refine then_ret ?_
            refine then_ret ?_
            refine block_ret ?_
            refine then_ret ?_
            obtain rfl := Option.some.inj h
            obtain rfl : Sum.inl _ = x9 := hk9
            replace ho9 : some _ = some _ := ho9
            obtain rfl := Option.some.inj ho9
            refine ⟨Or.inr rfl, _, _, _, (resVs_cons (ResV.tmp _ _ rfl) resVs_nil), (pubA_id rfl), ?_⟩
            rfl
          · replace h := ite_f hc h
            clear hc
            refine son rfl rfl rfl ?_
            refine sv rfl (opv_mv rfl) ?_
            refine son rfl rfl rfl ?_
            refine sv rfl (opv_ineq rfl rfl) ?_
            refine sv rfl (opv_pick_f rfl rfl) ?_
            refine snil ?_
            refine ccond rfl (fun hc => ?_) (fun hc => ?_)
            · replace h := ite_t hc h
              clear hc
              refine cseq ?_
              refine cregion ?_
              refine sv rfl (opv_as rfl) ?_
              refine snil ?_
              refine cret ?_
              refine then_ret ?_
              refine block_ret ?_
              refine then_ret ?_
              refine then_ret ?_
              refine block_ret ?_
              refine then_ret ?_
              obtain rfl := Option.some.inj h
              obtain rfl : Sum.inl _ = x9 := hk9
              replace ho9 : some _ = some _ := ho9
              obtain rfl := Option.some.inj ho9
              refine ⟨Or.inr rfl, _, _, _, (resVs_cons (ResV.tmp _ _ rfl) resVs_nil), (pubA_id rfl), ?_⟩
              rfl
            · replace h := ite_f hc h
              clear hc
              refine cskip ?_
              refine then_normal ?_
              exact ⟨(), _, h, ⟨rfl, rfl, rfl, rfl, rfl, rfl, rfl, trivial⟩, rfl⟩
      · replace h := ite_f hc h
        clear hc
        refine cexit ?_
        refine then_exit ?_
        refine then_exit ?_
        refine block_hit ?_
        refine then_normal ?_
        obtain rfl := Option.some.inj h
        obtain rfl : _ = x9 := hk9
        exact ⟨(s9.2.1, s9.2.2.1, s9.2.2.2.1, s9.2.2.2.2.1, s9.2.2.2.2.2), _, ho9, ⟨rfl, rfl, rfl, rfl, rfl, trivial⟩, rfl⟩
  · skip
    refine cregion ?_
    refine sv rfl (opv_loadN ti37 rfl (.lp _ _ _ rfl) (Nat.le_of_ble_eq_true rfl)) ?_
    obtain ⟨v14, hv14, h⟩ := bind_eq h
    refine scall1 rfl fn11 (opnds_cons rfl opnds_nil) (pubA_id rfl) (m11_r05_FewReply_c hv14) ?_
    refine sv rfl (opv_not rfl) ?_
    refine sv rfl (opv_mv rfl) ?_
    refine ssplit 29 rfl (fun hc => ?_) (fun hc => ?_)
    · replace h := ite_t hc h
      clear hc
      refine soff rfl rfl rfl rfl ?_
      refine soff rfl rfl rfl rfl ?_
      refine soff rfl rfl rfl rfl ?_
      refine sv rfl (opv_pick_t rfl rfl) ?_
      refine snil ?_
      refine ccond rfl (fun _ => ?_) (fun hx => Bool.noConfusion hx)
      refine cseq ?_
      refine cregion ?_
      refine sv rfl (opv_mv rfl) ?_
      refine sv rfl (opv_as rfl) ?_
      refine snil ?_
      refine cret ?_
      refine then_ret ?_
      obtain rfl := Option.some.inj h
      refine ⟨Or.inr rfl, _, _, _, (resVs_cons (ResV.tmp _ _ rfl) resVs_nil), (pubA_id rfl), ?_⟩
      rfl
    · replace h := ite_f hc h
      clear hc
      refine son rfl rfl rfl ?_
      refine sv rfl (opv_loadN ti33 rfl (.lp _ _ _ rfl) (Nat.le_of_ble_eq_true rfl)) ?_
      refine son rfl rfl rfl ?_
      obtain ⟨v15, hv15, h⟩ := bind_eq h
      refine scall1 rfl fn10 (opnds_cons rfl opnds_nil) (pubA_id rfl) (m10_r05_Few_c hv15) ?_
      refine son rfl rfl rfl ?_
      refine sv rfl (opv_not rfl) ?_
      refine sv rfl (opv_pick_f rfl rfl) ?_
      refine snil ?_
      refine ccond rfl (fun hc => ?_) (fun hc => ?_)
      · replace h := ite_t hc h
        clear hc
        refine cseq ?_
        refine cregion ?_
        refine sv rfl (opv_mv rfl) ?_
        refine sv rfl (opv_as rfl) ?_
        refine snil ?_
        refine cret ?_
        refine then_ret ?_
        obtain rfl := Option.some.inj h
        refine ⟨Or.inr rfl, _, _, _, (resVs_cons (ResV.tmp _ _ rfl) resVs_nil), (pubA_id rfl), ?_⟩
        rfl
      · replace h := ite_f hc h
        clear hc
        refine cskip ?_
        refine then_normal ?_
        exact ⟨(), _, h, ⟨rfl, rfl, rfl, rfl, trivial⟩, rfl⟩


end Go.Proofs.YtlpanhfojeaamaaDoor.Abs
