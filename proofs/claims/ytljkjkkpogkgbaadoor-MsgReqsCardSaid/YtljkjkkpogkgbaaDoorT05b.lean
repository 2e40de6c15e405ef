/-
  t
-/
import Derived.Test.YtljkjkkpogkgbaaDoorT05a
namespace Go.Proofs.YtljkjkkpogkgbaaDoor.Abs
open Go.RowKit Go.Proofs
def m9_l05_awake  : Option Bool :=
  (m11_msg_PutReq (GMsgReq.mk 7 7 0 0 false ([] : List UInt8) ([] : List UInt8) (GApiRange.mk ([] : List UInt8) ([] : List UInt8) false))).bind fun v1 => (m14_msg_ReadReq v1.1).bind fun v2 => (m22_msg_PutReply (GMsgReply.mk 0 3 0 0 false ([] : List UInt8) ([] : List GApiKV))).bind fun v3 => (m25_msg_ReadReply v3.1).bind fun v4 => if (decide (v1.2 = 0)) then (if (decide (v2.2 = 0)) then (if (decide (v3.2 = 0)) then (if (decide (v4.2 = 0)) then (if (v1.1 == [(UInt8.ofBitVec (7#8)), (UInt8.ofBitVec (7#8)), (UInt8.ofBitVec (0#8)), (UInt8.ofBitVec (0#8)), (UInt8.ofBitVec (0#8))]) then (if (decide (v2.1.Seq = 7)) then (some (decide (v4.1.Seq = 3))) else (some false)) else (some false)) else (some false)) else (some false)) else (some false)) else (some false)

set_option maxRecDepth 100000 in
theorem m9_l05_awake_c  {r : Bool} (h : m9_l05_awake = some r) : CallsA Tryd.prog 9 [] (· = .s (.one (.b r))) := by
  unfold m9_l05_awake at h
  refine callsA_of Tryd.func9 rfl (nt := 60) rfl (Nat.le_of_ble_eq_true rfl) ?_
  intro w0 S0
  refine cseq ?_
  refine cregion ?_
  refine sv rfl (opv_as rfl) ?_
  refine snil ?_
  refine cseq ?_
  refine cregion ?_
  refine sv rfl (opv_build zi32 pi32 (parts_cons rfl (parts_cons rfl parts_nil)) (.cons _ _ _ _ _ _ _ rfl rfl (Nat.le_of_ble_eq_true rfl) (.cons _ _ _ _ _ _ _ rfl rfl (Nat.le_of_ble_eq_true rfl) (.nil _)))) ?_
  obtain ⟨v1, hv1, h⟩ := bind_eq h
  refine scall1 rfl fn11 (opnds_cons rfl opnds_nil) (pubC rfl) (m11_msg_PutReq_c hv1) ?_
  refine sv rfl (opv_mvt rfl) ?_
  refine sv rfl (opv_extract rfl rfl) ?_
  refine sv rfl (opv_extract rfl rfl) ?_
  refine sv rfl (opv_as rfl) ?_
  refine sv rfl (opv_as rfl) ?_
  refine snil ?_
  refine cseq ?_
  refine cregion ?_
  refine sv rfl (opv_mv rfl) ?_
  obtain ⟨v2, hv2, h⟩ := bind_eq h
  refine scall1 rfl fn14 (opnds_cons rfl opnds_nil) (pubA_id rfl) (m14_msg_ReadReq_c hv2) ?_
  refine sv rfl (opv_mvt rfl) ?_
  refine sv rfl (opv_extract rfl rfl) ?_
  refine sv rfl (opv_extract rfl rfl) ?_
  refine salloc rfl zi32 ?_
  refine sstore sz32 rfl rfl rfl rfl (Nat.le_of_ble_eq_true rfl) ?_
  refine smem [.box [.i .i64 v2.1.Kind, .i .i64 v2.1.Seq, .i .i64 v2.1.Token, .i .i64 v2.1.Attempt, .b v2.1.RO, .sl v2.1.Key.length (v2.1.Key.flatMap eU8), .sl v2.1.Val.length (v2.1.Val.flatMap eU8), .sl v2.1.Rng.Lo.length (v2.1.Rng.Lo.flatMap eU8), .sl v2.1.Rng.Hi.length (v2.1.Rng.Hi.flatMap eU8), .b v2.1.Rng.Open]] rfl ?_
  refine sv rfl (opv_as rfl) ?_
  refine snil ?_
  refine cseq ?_
  refine cregion ?_
  refine sv rfl (opv_build zi49 pi49 (parts_cons rfl parts_nil) (.cons _ _ _ _ _ _ _ rfl rfl (Nat.le_of_ble_eq_true rfl) (.nil _))) ?_
  obtain ⟨v3, hv3, h⟩ := bind_eq h
  refine scall1 rfl fn22 (opnds_cons rfl opnds_nil) (pubC rfl) (m22_msg_PutReply_c hv3) ?_
  refine sv rfl (opv_mvt rfl) ?_
  refine sv rfl (opv_extract rfl rfl) ?_
  refine sv rfl (opv_extract rfl rfl) ?_
  refine sv rfl (opv_as rfl) ?_
  refine sv rfl (opv_as rfl) ?_
  refine snil ?_
  refine cseq ?_
  refine cregion ?_
  refine sv rfl (opv_mv rfl) ?_
  obtain ⟨v4, hv4, h⟩ := bind_eq h
  refine scall1 rfl fn25 (opnds_cons rfl opnds_nil) (pubA_id rfl) (m25_msg_ReadReply_c hv4) ?_
  refine sv rfl (opv_mvt rfl) ?_
  refine sv rfl (opv_extract rfl rfl) ?_
  refine sv rfl (opv_extract rfl rfl) ?_
  refine salloc rfl zi49 ?_
  refine sstore sz49 rfl rfl rfl rfl (Nat.le_of_ble_eq_true rfl) ?_
  refine smem [.box [.i .i64 v2.1.Kind, .i .i64 v2.1.Seq, .i .i64 v2.1.Token, .i .i64 v2.1.Attempt, .b v2.1.RO, .sl v2.1.Key.length (v2.1.Key.flatMap eU8), .sl v2.1.Val.length (v2.1.Val.flatMap eU8), .sl v2.1.Rng.Lo.length (v2.1.Rng.Lo.flatMap eU8), .sl v2.1.Rng.Hi.length (v2.1.Rng.Hi.flatMap eU8), .b v2.1.Rng.Open], .box [.i .i64 v4.1.Kind, .i .i64 v4.1.Seq, .i .i64 v4.1.Code, .i .i64 v4.1.N, .b v4.1.Found, .sl v4.1.Val.length (v4.1.Val.flatMap eU8), .sl v4.1.List.length (v4.1.List.flatMap eGApiKV)]] rfl ?_
  refine sv rfl (opv_as rfl) ?_
  refine snil ?_
  refine cseq ?_
  refine cregion ?_
  refine sv rfl (opv_mv rfl) ?_
  refine sv rfl (opv_ieql rfl rfl) ?_
  refine sv rfl (opv_mv rfl) ?_
  refine ssplit 31 rfl (fun hc => ?_) (fun hc => ?_)
  · replace h := ite_t hc h
    clear hc
    refine son rfl rfl rfl ?_
    refine sv rfl (opv_mv rfl) ?_
    refine son rfl rfl rfl ?_
    refine sv rfl (opv_ieql rfl rfl) ?_
    refine sv rfl (opv_pick_t rfl rfl) ?_
    refine sv rfl (opv_mv rfl) ?_
    refine ssplit 35 rfl (fun hc => ?_) (fun hc => ?_)
    · replace h := ite_t hc h
      clear hc
      refine son rfl rfl rfl ?_
      refine sv rfl (opv_mv rfl) ?_
      refine son rfl rfl rfl ?_
      refine sv rfl (opv_ieql rfl rfl) ?_
      refine sv rfl (opv_pick_t rfl rfl) ?_
      refine sv rfl (opv_mv rfl) ?_
      refine ssplit 39 rfl (fun hc => ?_) (fun hc => ?_)
      · replace h := ite_t hc h
        clear hc
        refine son rfl rfl rfl ?_
        refine sv rfl (opv_mv rfl) ?_
        refine son rfl rfl rfl ?_
        refine sv rfl (opv_ieql rfl rfl) ?_
        refine sv rfl (opv_pick_t rfl rfl) ?_
        refine sv rfl (opv_mv rfl) ?_
        refine ssplit 43 rfl (fun hc => ?_) (fun hc => ?_)
        · replace h := ite_t hc h
          clear hc
          refine son rfl rfl rfl ?_
          refine sv rfl (opv_mv rfl) ?_
          refine son rfl rfl rfl ?_
          refine sv rfl (opv_bs (l := v1.1) Tryd.underlying22 Tryd.underlying5 Tryd.underlying9 rfl rfl rfl) ?_
          refine son rfl rfl rfl ?_
          refine sbuildN (out := ([(UInt8.ofBitVec (7#8)), (UInt8.ofBitVec (7#8)), (UInt8.ofBitVec (0#8)), (UInt8.ofBitVec (0#8)), (UInt8.ofBitVec (0#8))] : List UInt8).flatMap eU8) rfl Tryd.underlying22 ei5 (parts_cons rfl (parts_cons rfl (parts_cons rfl (parts_cons rfl (parts_cons rfl parts_nil))))) (.cons _ _ _ _ _ _ _ rfl rfl (Nat.le_of_ble_eq_true rfl) (.cons _ _ _ _ _ _ _ rfl rfl (Nat.le_of_ble_eq_true rfl) (.cons _ _ _ _ _ _ _ rfl rfl (Nat.le_of_ble_eq_true rfl) (.cons _ _ _ _ _ _ _ rfl rfl (Nat.le_of_ble_eq_true rfl) (.cons _ _ _ _ _ _ _ rfl rfl (Nat.le_of_ble_eq_true rfl) (.nil _)))))) rfl (by decide) ?_
          refine son rfl rfl rfl ?_
          refine spub 46 rfl (by (repeat' first | exact PubA.nil _ | apply PubA.cons | apply PubV.one | apply PubV.agg | exact PubL.nil | exact PubL.ls _ _ _ _ _ _ rfl (flat_len (f := eU8) (fun _ => rfl) ([(UInt8.ofBitVec (7#8)), (UInt8.ofBitVec (7#8)), (UInt8.ofBitVec (0#8)), (UInt8.ofBitVec (0#8)), (UInt8.ofBitVec (0#8))] : List UInt8)).symm | exact PubL.ls _ _ _ _ _ _ rfl (flat_len (f := eU8) (fun _ => rfl) _).symm | exact PubL.id _ rfl | exact PubLs.nil _ | apply PubLs.cons)) ?_
          refine sv rfl (opv_bs (l := [(UInt8.ofBitVec (7#8)), (UInt8.ofBitVec (7#8)), (UInt8.ofBitVec (0#8)), (UInt8.ofBitVec (0#8)), (UInt8.ofBitVec (0#8))]) Tryd.underlying22 Tryd.underlying5 Tryd.underlying9 rfl rfl rfl) ?_
          refine son rfl rfl rfl ?_
          refine sv rfl (opv_seql' rfl rfl) ?_
          refine sv rfl (opv_pick_t rfl rfl) ?_
          refine sv rfl (opv_mv rfl) ?_
          refine ssplit 50 rfl (fun hc => ?_) (fun hc => ?_)
          · replace h := ite_t hc h
            clear hc
            refine son rfl rfl rfl ?_
            refine sv rfl (opv_fieldAddr_lp fi32_1 rfl) ?_
            refine son rfl rfl rfl ?_
            refine sv rfl (opv_load1 ti3 rfl (.lp _ _ _ rfl) rfl) ?_
            refine son rfl rfl rfl ?_
            refine sv rfl (opv_ieql rfl rfl) ?_
            refine sv rfl (opv_pick_t rfl rfl) ?_
            refine sv rfl (opv_mv rfl) ?_
            refine ssplit 55 rfl (fun hc => ?_) (fun hc => ?_)
            · replace h := ite_t hc h
              clear hc
              refine son rfl rfl rfl ?_
              refine sv rfl (opv_fieldAddr_lp fi49_1 rfl) ?_
              refine son rfl rfl rfl ?_
              refine sv rfl (opv_load1 ti3 rfl (.lp _ _ _ rfl) rfl) ?_
              refine son rfl rfl rfl ?_
              refine sv rfl (opv_ieql rfl rfl) ?_
              refine sv rfl (opv_pick_t rfl rfl) ?_
              refine sv rfl (opv_as rfl) ?_
              refine snil ?_
              refine cret ?_
              obtain rfl := Option.some.inj h
              refine ⟨Or.inr rfl, _, _, _, (resVs_cons (ResV.tmp _ _ rfl) resVs_nil), (pubA_id rfl), ?_⟩
              rfl
            · replace h := ite_f hc h
              clear hc
              refine soff rfl rfl rfl rfl ?_
              refine soff rfl rfl rfl rfl ?_
              refine soff rfl rfl rfl rfl ?_
              refine sv rfl (opv_pick_f rfl rfl) ?_
              refine sv rfl (opv_as rfl) ?_
              refine snil ?_
              refine cret ?_
              obtain rfl := Option.some.inj h
              refine ⟨Or.inr rfl, _, _, _, (resVs_cons (ResV.tmp _ _ rfl) resVs_nil), (pubA_id rfl), ?_⟩
              rfl
          · replace h := ite_f hc h
            clear hc
            refine soff rfl rfl rfl rfl ?_
            refine soff rfl rfl rfl rfl ?_
            refine soff rfl rfl rfl rfl ?_
            refine sv rfl (opv_pick_f rfl rfl) ?_
            refine sv rfl (opv_mv rfl) ?_
            refine soff rfl rfl rfl rfl ?_
            refine soff rfl rfl rfl rfl ?_
            refine soff rfl rfl rfl rfl ?_
            refine sv rfl (opv_pick_f rfl rfl) ?_
            refine sv rfl (opv_as rfl) ?_
            refine snil ?_
            refine cret ?_
            obtain rfl := Option.some.inj h
            refine ⟨Or.inr rfl, _, _, _, (resVs_cons (ResV.tmp _ _ rfl) resVs_nil), (pubA_id rfl), ?_⟩
            rfl
        · replace h := ite_f hc h
          clear hc
          refine soff rfl rfl rfl rfl ?_
          refine soff rfl rfl rfl rfl ?_
          refine soff rfl rfl rfl rfl ?_
          refine soff rfl rfl rfl rfl ?_
          refine soff rfl rfl rfl rfl ?_
          refine sv rfl (opv_pick_f rfl rfl) ?_
          refine sv rfl (opv_mv rfl) ?_
          refine soff rfl rfl rfl rfl ?_
          refine soff rfl rfl rfl rfl ?_
          refine soff rfl rfl rfl rfl ?_
          refine sv rfl (opv_pick_f rfl rfl) ?_
          refine sv rfl (opv_mv rfl) ?_
          refine soff rfl rfl rfl rfl ?_
          refine soff rfl rfl rfl rfl ?_
          refine soff rfl rfl rfl rfl ?_
          refine sv rfl (opv_pick_f rfl rfl) ?_
          refine sv rfl (opv_as rfl) ?_
          refine snil ?_
          refine cret ?_
          obtain rfl := Option.some.inj h
          refine ⟨Or.inr rfl, _, _, _, (resVs_cons (ResV.tmp _ _ rfl) resVs_nil), (pubA_id rfl), ?_⟩
          rfl
      · replace h := ite_f hc h
        clear hc
        refine soff rfl rfl rfl rfl ?_
        refine soff rfl rfl rfl rfl ?_
        refine sv rfl (opv_pick_f rfl rfl) ?_
        refine sv rfl (opv_mv rfl) ?_
        refine soff rfl rfl rfl rfl ?_
        refine soff rfl rfl rfl rfl ?_
        refine soff rfl rfl rfl rfl ?_
        refine soff rfl rfl rfl rfl ?_
        refine soff rfl rfl rfl rfl ?_
        refine sv rfl (opv_pick_f rfl rfl) ?_
        refine sv rfl (opv_mv rfl) ?_
        refine soff rfl rfl rfl rfl ?_
        refine soff rfl rfl rfl rfl ?_
        refine soff rfl rfl rfl rfl ?_
        refine sv rfl (opv_pick_f rfl rfl) ?_
        refine sv rfl (opv_mv rfl) ?_
        refine soff rfl rfl rfl rfl ?_
        refine soff rfl rfl rfl rfl ?_
        refine soff rfl rfl rfl rfl ?_
        refine sv rfl (opv_pick_f rfl rfl) ?_
        refine sv rfl (opv_as rfl) ?_
        refine snil ?_
        refine cret ?_
        obtain rfl := Option.some.inj h
        refine ⟨Or.inr rfl, _, _, _, (resVs_cons (ResV.tmp _ _ rfl) resVs_nil), (pubA_id rfl), ?_⟩
        rfl
    · replace h := ite_f hc h
      clear hc
      refine soff rfl rfl rfl rfl ?_
      refine soff rfl rfl rfl rfl ?_
      refine sv rfl (opv_pick_f rfl rfl) ?_
      refine sv rfl (opv_mv rfl) ?_
      refine soff rfl rfl rfl rfl ?_
      refine soff rfl rfl rfl rfl ?_
      refine sv rfl (opv_pick_f rfl rfl) ?_
      refine sv rfl (opv_mv rfl) ?_
      refine soff rfl rfl rfl rfl ?_
      refine soff rfl rfl rfl rfl ?_
      refine soff rfl rfl rfl rfl ?_
      refine soff rfl rfl rfl rfl ?_
      refine soff rfl rfl rfl rfl ?_
      refine sv rfl (opv_pick_f rfl rfl) ?_
      refine sv rfl (opv_mv rfl) ?_
      refine soff rfl rfl rfl rfl ?_
      refine soff rfl rfl rfl rfl ?_
      refine soff rfl rfl rfl rfl ?_
      refine sv rfl (opv_pick_f rfl rfl) ?_
      refine sv rfl (opv_mv rfl) ?_
      refine soff rfl rfl rfl rfl ?_
      refine soff rfl rfl rfl rfl ?_
      refine soff rfl rfl rfl rfl ?_
      refine sv rfl (opv_pick_f rfl rfl) ?_
      refine sv rfl (opv_as rfl) ?_
      refine snil ?_
      refine cret ?_
      obtain rfl := Option.some.inj h
      refine ⟨Or.inr rfl, _, _, _, (resVs_cons (ResV.tmp _ _ rfl) resVs_nil), (pubA_id rfl), ?_⟩
      rfl
  · replace h := ite_f hc h
    clear hc
    refine soff rfl rfl rfl rfl ?_
    refine soff rfl rfl rfl rfl ?_
    refine sv rfl (opv_pick_f rfl rfl) ?_
    refine sv rfl (opv_mv rfl) ?_
    refine soff rfl rfl rfl rfl ?_
    refine soff rfl rfl rfl rfl ?_
    refine sv rfl (opv_pick_f rfl rfl) ?_
    refine sv rfl (opv_mv rfl) ?_
    refine soff rfl rfl rfl rfl ?_
    refine soff rfl rfl rfl rfl ?_
    refine sv rfl (opv_pick_f rfl rfl) ?_
    refine sv rfl (opv_mv rfl) ?_
    refine soff rfl rfl rfl rfl ?_
    refine soff rfl rfl rfl rfl ?_
    refine soff rfl rfl rfl rfl ?_
    refine soff rfl rfl rfl rfl ?_
    refine soff rfl rfl rfl rfl ?_
    refine sv rfl (opv_pick_f rfl rfl) ?_
    refine sv rfl (opv_mv rfl) ?_
    refine soff rfl rfl rfl rfl ?_
    refine soff rfl rfl rfl rfl ?_
    refine soff rfl rfl rfl rfl ?_
    refine sv rfl (opv_pick_f rfl rfl) ?_
    refine sv rfl (opv_mv rfl) ?_
    refine soff rfl rfl rfl rfl ?_
    refine soff rfl rfl rfl rfl ?_
    refine soff rfl rfl rfl rfl ?_
    refine sv rfl (opv_pick_f rfl rfl) ?_
    refine sv rfl (opv_as rfl) ?_
    refine snil ?_
    refine cret ?_
    obtain rfl := Option.some.inj h
    refine ⟨Or.inr rfl, _, _, _, (resVs_cons (ResV.tmp _ _ rfl) resVs_nil), (pubA_id rfl), ?_⟩
    rfl

def m10_r05_Few (a0 : GR05Req) : Option Bool :=
  if (decide ((a0.Key.length : Int) ≤ 100)) then (if (decide ((a0.Val.length : Int) ≤ 100)) then (if (decide ((a0.Rng.Lo.length : Int) ≤ 100)) then (some (decide ((a0.Rng.Hi.length : Int) ≤ 100))) else (some false)) else (some false)) else (some false)

set_option maxRecDepth 100000 in
theorem m10_r05_Few_c {a0 : GR05Req} {r : Bool} (h : m10_r05_Few a0 = some r) : CallsA Tryd.prog 10 [.agg [.i .i64 a0.Kind, .i .i64 a0.Seq, .i .i64 a0.Token, .i .i64 a0.Attempt, .b a0.RO, .sl a0.Key.length (a0.Key.flatMap eU8), .sl a0.Val.length (a0.Val.flatMap eU8), .sl a0.Rng.Lo.length (a0.Rng.Lo.flatMap eU8), .sl a0.Rng.Hi.length (a0.Rng.Hi.flatMap eU8), .b a0.Rng.Open]] (· = .s (.one (.b r))) := by
  unfold m10_r05_Few at h
  refine callsA_of Tryd.func10 rfl (nt := 27) rfl (Nat.le_of_ble_eq_true rfl) ?_
  intro w0 S0
  refine cseq ?_
  refine cregion ?_
  refine sbox rfl rfl ?_
  refine sv rfl (opv_as rfl) ?_
  refine snil ?_
  refine cseq ?_
  refine cregion ?_
  refine sv rfl (opv_fieldAddr_lp fi26_5 rfl) ?_
  refine sv rfl (opv_load1 ti22 rfl (.lp _ _ _ rfl) rfl) ?_
  refine sv rfl (opv_len_sl si22 rfl) ?_
  refine sv rfl (opv_leq rfl rfl) ?_
  refine sv rfl (opv_mv rfl) ?_
  refine ssplit 7 rfl (fun hc => ?_) (fun hc => ?_)
  · replace h := ite_t hc h
    clear hc
    refine son rfl rfl rfl ?_
    refine sv rfl (opv_fieldAddr_lp fi26_6 rfl) ?_
    refine son rfl rfl rfl ?_
    refine sv rfl (opv_load1 ti22 rfl (.lp _ _ _ rfl) rfl) ?_
    refine son rfl rfl rfl ?_
    refine sv rfl (opv_len_sl si22 rfl) ?_
    refine son rfl rfl rfl ?_
    refine sv rfl (opv_leq rfl rfl) ?_
    refine sv rfl (opv_pick_t rfl rfl) ?_
    refine sv rfl (opv_mv rfl) ?_
    refine ssplit 13 rfl (fun hc => ?_) (fun hc => ?_)
    · replace h := ite_t hc h
      clear hc
      refine son rfl rfl rfl ?_
      refine sv rfl (opv_fieldAddr_lp fi26_7 rfl) ?_
      refine son rfl rfl rfl ?_
      refine sv rfl (opv_fieldAddr_lp fi24_0 rfl) ?_
      refine son rfl rfl rfl ?_
      refine sv rfl (opv_load1 ti22 rfl (.lp _ _ _ rfl) rfl) ?_
      refine son rfl rfl rfl ?_
      refine sv rfl (opv_len_sl si22 rfl) ?_
      refine son rfl rfl rfl ?_
      refine sv rfl (opv_leq rfl rfl) ?_
      refine sv rfl (opv_pick_t rfl rfl) ?_
      refine sv rfl (opv_mv rfl) ?_
      refine ssplit 20 rfl (fun hc => ?_) (fun hc => ?_)
      · replace h := ite_t hc h
        clear hc
        refine son rfl rfl rfl ?_
        refine sv rfl (opv_fieldAddr_lp fi26_7 rfl) ?_
        refine son rfl rfl rfl ?_
        refine sv rfl (opv_fieldAddr_lp fi24_1 rfl) ?_
        refine son rfl rfl rfl ?_
        refine sv rfl (opv_load1 ti22 rfl (.lp _ _ _ rfl) rfl) ?_
        refine son rfl rfl rfl ?_
        refine sv rfl (opv_len_sl si22 rfl) ?_
        refine son rfl rfl rfl ?_
        refine sv rfl (opv_leq rfl rfl) ?_
        refine sv rfl (opv_pick_t rfl rfl) ?_
        refine sv rfl (opv_as rfl) ?_
        refine snil ?_
        refine cret ?_
        obtain rfl := Option.some.inj h
        refine ⟨Or.inr rfl, _, _, _, (resVs_cons (ResV.tmp _ _ rfl) resVs_nil), (pubA_id rfl), ?_⟩
        rfl
      · replace h := ite_f hc h
        clear hc
        refine soff rfl rfl rfl rfl ?_
        refine soff rfl rfl rfl rfl ?_
        refine soff rfl rfl rfl rfl ?_
        refine soff rfl rfl rfl rfl ?_
        refine soff rfl rfl rfl rfl ?_
        refine sv rfl (opv_pick_f rfl rfl) ?_
        refine sv rfl (opv_as rfl) ?_
        refine snil ?_
        refine cret ?_
        obtain rfl := Option.some.inj h
        refine ⟨Or.inr rfl, _, _, _, (resVs_cons (ResV.tmp _ _ rfl) resVs_nil), (pubA_id rfl), ?_⟩
        rfl
    · replace h := ite_f hc h
      clear hc
      refine soff rfl rfl rfl rfl ?_
      refine soff rfl rfl rfl rfl ?_
      refine soff rfl rfl rfl rfl ?_
      refine soff rfl rfl rfl rfl ?_
      refine soff rfl rfl rfl rfl ?_
      refine sv rfl (opv_pick_f rfl rfl) ?_
      refine sv rfl (opv_mv rfl) ?_
      refine soff rfl rfl rfl rfl ?_
      refine soff rfl rfl rfl rfl ?_
      refine soff rfl rfl rfl rfl ?_
      refine soff rfl rfl rfl rfl ?_
      refine soff rfl rfl rfl rfl ?_
      refine sv rfl (opv_pick_f rfl rfl) ?_
      refine sv rfl (opv_as rfl) ?_
      refine snil ?_
      refine cret ?_
      obtain rfl := Option.some.inj h
      refine ⟨Or.inr rfl, _, _, _, (resVs_cons (ResV.tmp _ _ rfl) resVs_nil), (pubA_id rfl), ?_⟩
      rfl
  · replace h := ite_f hc h
    clear hc
    refine soff rfl rfl rfl rfl ?_
    refine soff rfl rfl rfl rfl ?_
    refine soff rfl rfl rfl rfl ?_
    refine soff rfl rfl rfl rfl ?_
    refine sv rfl (opv_pick_f rfl rfl) ?_
    refine sv rfl (opv_mv rfl) ?_
    refine soff rfl rfl rfl rfl ?_
    refine soff rfl rfl rfl rfl ?_
    refine soff rfl rfl rfl rfl ?_
    refine soff rfl rfl rfl rfl ?_
    refine soff rfl rfl rfl rfl ?_
    refine sv rfl (opv_pick_f rfl rfl) ?_
    refine sv rfl (opv_mv rfl) ?_
    refine soff rfl rfl rfl rfl ?_
    refine soff rfl rfl rfl rfl ?_
    refine soff rfl rfl rfl rfl ?_
    refine soff rfl rfl rfl rfl ?_
    refine soff rfl rfl rfl rfl ?_
    refine sv rfl (opv_pick_f rfl rfl) ?_
    refine sv rfl (opv_as rfl) ?_
    refine snil ?_
    refine cret ?_
    obtain rfl := Option.some.inj h
    refine ⟨Or.inr rfl, _, _, _, (resVs_cons (ResV.tmp _ _ rfl) resVs_nil), (pubA_id rfl), ?_⟩
    rfl

def m12_l05_req (a0 : GR05Req) : Option GMsgReq :=
  some (GMsgReq.mk a0.Kind a0.Seq a0.Token a0.Attempt a0.RO a0.Key a0.Val (GApiRange.mk a0.Rng.Lo a0.Rng.Hi a0.Rng.Open))

set_option maxRecDepth 100000 in
theorem m12_l05_req_c {a0 : GR05Req} {r : GMsgReq} (h : m12_l05_req a0 = some r) : CallsA Tryd.prog 12 [.agg [.i .i64 a0.Kind, .i .i64 a0.Seq, .i .i64 a0.Token, .i .i64 a0.Attempt, .b a0.RO, .sl a0.Key.length (a0.Key.flatMap eU8), .sl a0.Val.length (a0.Val.flatMap eU8), .sl a0.Rng.Lo.length (a0.Rng.Lo.flatMap eU8), .sl a0.Rng.Hi.length (a0.Rng.Hi.flatMap eU8), .b a0.Rng.Open]] (· = .s (.agg [.i .i64 r.Kind, .i .i64 r.Seq, .i .i64 r.Token, .i .i64 r.Attempt, .b r.RO, .sl r.Key.length (r.Key.flatMap eU8), .sl r.Val.length (r.Val.flatMap eU8), .sl r.Rng.Lo.length (r.Rng.Lo.flatMap eU8), .sl r.Rng.Hi.length (r.Rng.Hi.flatMap eU8), .b r.Rng.Open])) := by
  unfold m12_l05_req at h
  refine callsA_of Tryd.func12 rfl (nt := 20) rfl (Nat.le_of_ble_eq_true rfl) ?_
  intro w0 S0
  refine cseq ?_
  refine cregion ?_
  refine sbox rfl rfl ?_
  refine salloc rfl zi32 ?_
  refine snil ?_
  refine cseq ?_
  refine cregion ?_
  refine sv rfl (opv_fieldAddr_lp fi26_0 rfl) ?_
  refine sv rfl (opv_load1 ti3 rfl (.lp _ _ _ rfl) rfl) ?_
  refine sv rfl (opv_fieldAddr_lp fi26_1 rfl) ?_
  refine sv rfl (opv_load1 ti3 rfl (.lp _ _ _ rfl) rfl) ?_
  refine sv rfl (opv_fieldAddr_lp fi26_2 rfl) ?_
  refine sv rfl (opv_load1 ti3 rfl (.lp _ _ _ rfl) rfl) ?_
  refine sv rfl (opv_fieldAddr_lp fi26_3 rfl) ?_
  refine sv rfl (opv_load1 ti3 rfl (.lp _ _ _ rfl) rfl) ?_
  refine sv rfl (opv_fieldAddr_lp fi26_4 rfl) ?_
  refine sv rfl (opv_load1 ti4 rfl (.lp _ _ _ rfl) rfl) ?_
  refine sv rfl (opv_fieldAddr_lp fi26_5 rfl) ?_
  refine sv rfl (opv_load1 ti22 rfl (.lp _ _ _ rfl) rfl) ?_
  refine sv rfl (opv_fieldAddr_lp fi26_6 rfl) ?_
  refine sv rfl (opv_load1 ti22 rfl (.lp _ _ _ rfl) rfl) ?_
  refine sv rfl (opv_fieldAddr_lp fi26_7 rfl) ?_
  refine sv rfl (opv_loadN ti24 rfl (.lp _ _ _ rfl) (Nat.le_of_ble_eq_true rfl)) ?_
  refine sv rfl (opv_build zi32 pi32 (parts_cons rfl (parts_cons rfl (parts_cons rfl (parts_cons rfl (parts_cons rfl (parts_cons rfl (parts_cons rfl (parts_cons rfl parts_nil)))))))) (bcons [.i .i64 a0.Kind, .i .i64 0, .i .i64 0, .i .i64 0, .b false, .raw (.slice none 0 0), .raw (.slice none 0 0), .raw (.slice none 0 0), .raw (.slice none 0 0), .b false] rfl rfl (Nat.le_of_ble_eq_true rfl) rfl (bcons [.i .i64 a0.Kind, .i .i64 a0.Seq, .i .i64 0, .i .i64 0, .b false, .raw (.slice none 0 0), .raw (.slice none 0 0), .raw (.slice none 0 0), .raw (.slice none 0 0), .b false] rfl rfl (Nat.le_of_ble_eq_true rfl) rfl (bcons [.i .i64 a0.Kind, .i .i64 a0.Seq, .i .i64 a0.Token, .i .i64 0, .b false, .raw (.slice none 0 0), .raw (.slice none 0 0), .raw (.slice none 0 0), .raw (.slice none 0 0), .b false] rfl rfl (Nat.le_of_ble_eq_true rfl) rfl (bcons [.i .i64 a0.Kind, .i .i64 a0.Seq, .i .i64 a0.Token, .i .i64 a0.Attempt, .b false, .raw (.slice none 0 0), .raw (.slice none 0 0), .raw (.slice none 0 0), .raw (.slice none 0 0), .b false] rfl rfl (Nat.le_of_ble_eq_true rfl) rfl (bcons [.i .i64 a0.Kind, .i .i64 a0.Seq, .i .i64 a0.Token, .i .i64 a0.Attempt, .b a0.RO, .raw (.slice none 0 0), .raw (.slice none 0 0), .raw (.slice none 0 0), .raw (.slice none 0 0), .b false] rfl rfl (Nat.le_of_ble_eq_true rfl) rfl (bcons [.i .i64 a0.Kind, .i .i64 a0.Seq, .i .i64 a0.Token, .i .i64 a0.Attempt, .b a0.RO, .sl a0.Key.length (a0.Key.flatMap eU8), .raw (.slice none 0 0), .raw (.slice none 0 0), .raw (.slice none 0 0), .b false] rfl rfl (Nat.le_of_ble_eq_true rfl) rfl (bcons [.i .i64 a0.Kind, .i .i64 a0.Seq, .i .i64 a0.Token, .i .i64 a0.Attempt, .b a0.RO, .sl a0.Key.length (a0.Key.flatMap eU8), .sl a0.Val.length (a0.Val.flatMap eU8), .raw (.slice none 0 0), .raw (.slice none 0 0), .b false] rfl rfl (Nat.le_of_ble_eq_true rfl) rfl (bcons [.i .i64 a0.Kind, .i .i64 a0.Seq, .i .i64 a0.Token, .i .i64 a0.Attempt, .b a0.RO, .sl a0.Key.length (a0.Key.flatMap eU8), .sl a0.Val.length (a0.Val.flatMap eU8), .sl a0.Rng.Lo.length (a0.Rng.Lo.flatMap eU8), .sl a0.Rng.Hi.length (a0.Rng.Hi.flatMap eU8), .b a0.Rng.Open] rfl rfl (Nat.le_of_ble_eq_true rfl) rfl (.nil _)))))))))) ?_
  refine sstore sz32 rfl rfl rfl rfl (Nat.le_of_ble_eq_true rfl) ?_
  refine smem [.box [.i .i64 a0.Kind, .i .i64 a0.Seq, .i .i64 a0.Token, .i .i64 a0.Attempt, .b a0.RO, .sl a0.Key.length (a0.Key.flatMap eU8), .sl a0.Val.length (a0.Val.flatMap eU8), .sl a0.Rng.Lo.length (a0.Rng.Lo.flatMap eU8), .sl a0.Rng.Hi.length (a0.Rng.Hi.flatMap eU8), .b a0.Rng.Open], .box [.i .i64 a0.Kind, .i .i64 a0.Seq, .i .i64 a0.Token, .i .i64 a0.Attempt, .b a0.RO, .sl a0.Key.length (a0.Key.flatMap eU8), .sl a0.Val.length (a0.Val.flatMap eU8), .sl a0.Rng.Lo.length (a0.Rng.Lo.flatMap eU8), .sl a0.Rng.Hi.length (a0.Rng.Hi.flatMap eU8), .b a0.Rng.Open]] rfl ?_
  refine snil ?_
  refine cret ?_
  obtain rfl := Option.some.inj h
  refine ⟨Or.inr rfl, _, _, _, (resVs_cons (ResV.agg _ _ _ _ _ ti32 rfl (.lp _ _ _ rfl) (Nat.le_of_ble_eq_true rfl)) resVs_nil), (pubA_id rfl), ?_⟩
  rfl

def m37_r05_token (a0 : Int) : Option Bool :=
  if (decide (a0 = 1)) then (some true) else (if (decide (a0 = 2)) then (some true) else (if (decide (a0 = 9)) then (some true) else (some (decide (a0 = 10)))))

set_option maxRecDepth 100000 in
theorem m37_r05_token_c {a0 : Int} {r : Bool} (h : m37_r05_token a0 = some r) : CallsA Tryd.prog 37 [.one (.i .i64 a0)] (· = .s (.one (.b r))) := by
  unfold m37_r05_token at h
  refine callsA_of Tryd.func37 rfl (nt := 17) rfl (Nat.le_of_ble_eq_true rfl) ?_
  intro w0 S0
  refine cseq ?_
  refine cregion ?_
  refine sv rfl (opv_as rfl) ?_
  refine snil ?_
  refine cseq ?_
  refine cregion ?_
  refine sv rfl (opv_mv rfl) ?_
  refine sv rfl (opv_ieql rfl rfl) ?_
  refine sv rfl (opv_mv rfl) ?_
  refine ssplit 5 rfl (fun hc => ?_) (fun hc => ?_)
  · replace h := ite_t hc h
    clear hc
    refine soff rfl rfl rfl rfl ?_
    refine soff rfl rfl rfl rfl ?_
    refine sv rfl (opv_pick_t rfl rfl) ?_
    refine sv rfl (opv_mv rfl) ?_
    refine soff rfl rfl rfl rfl ?_
    refine soff rfl rfl rfl rfl ?_
    refine sv rfl (opv_pick_t rfl rfl) ?_
    refine sv rfl (opv_mv rfl) ?_
    refine soff rfl rfl rfl rfl ?_
    refine soff rfl rfl rfl rfl ?_
    refine sv rfl (opv_pick_t rfl rfl) ?_
    refine sv rfl (opv_as rfl) ?_
    refine snil ?_
    refine cret ?_
    obtain rfl := Option.some.inj h
    refine ⟨Or.inr rfl, _, _, _, (resVs_cons (ResV.tmp _ _ rfl) resVs_nil), (pubA_id rfl), ?_⟩
    rfl
  · replace h := ite_f hc h
    clear hc
    refine son rfl rfl rfl ?_
    refine sv rfl (opv_mv rfl) ?_
    refine son rfl rfl rfl ?_
    refine sv rfl (opv_ieql rfl rfl) ?_
    refine sv rfl (opv_pick_f rfl rfl) ?_
    refine sv rfl (opv_mv rfl) ?_
    refine ssplit 9 rfl (fun hc => ?_) (fun hc => ?_)
    · replace h := ite_t hc h
      clear hc
      refine soff rfl rfl rfl rfl ?_
      refine soff rfl rfl rfl rfl ?_
      refine sv rfl (opv_pick_t rfl rfl) ?_
      refine sv rfl (opv_mv rfl) ?_
      refine soff rfl rfl rfl rfl ?_
      refine soff rfl rfl rfl rfl ?_
      refine sv rfl (opv_pick_t rfl rfl) ?_
      refine sv rfl (opv_as rfl) ?_
      refine snil ?_
      refine cret ?_
      obtain rfl := Option.some.inj h
      refine ⟨Or.inr rfl, _, _, _, (resVs_cons (ResV.tmp _ _ rfl) resVs_nil), (pubA_id rfl), ?_⟩
      rfl
    · replace h := ite_f hc h
      clear hc
      refine son rfl rfl rfl ?_
      refine sv rfl (opv_mv rfl) ?_
      refine son rfl rfl rfl ?_
      refine sv rfl (opv_ieql rfl rfl) ?_
      refine sv rfl (opv_pick_f rfl rfl) ?_
      refine sv rfl (opv_mv rfl) ?_
      refine ssplit 13 rfl (fun hc => ?_) (fun hc => ?_)
      · replace h := ite_t hc h
        clear hc
        refine soff rfl rfl rfl rfl ?_
        refine soff rfl rfl rfl rfl ?_
        refine sv rfl (opv_pick_t rfl rfl) ?_
        refine sv rfl (opv_as rfl) ?_
        refine snil ?_
        refine cret ?_
        obtain rfl := Option.some.inj h
        refine ⟨Or.inr rfl, _, _, _, (resVs_cons (ResV.tmp _ _ rfl) resVs_nil), (pubA_id rfl), ?_⟩
        rfl
      · replace h := ite_f hc h
        clear hc
        refine son rfl rfl rfl ?_
        refine sv rfl (opv_mv rfl) ?_
        refine son rfl rfl rfl ?_
        refine sv rfl (opv_ieql rfl rfl) ?_
        refine sv rfl (opv_pick_f rfl rfl) ?_
        refine sv rfl (opv_as rfl) ?_
        refine snil ?_
        refine cret ?_
        obtain rfl := Option.some.inj h
        refine ⟨Or.inr rfl, _, _, _, (resVs_cons (ResV.tmp _ _ rfl) resVs_nil), (pubA_id rfl), ?_⟩
        rfl

def m38_r05_attempt (a0 : Int) : Option Bool :=
  if (decide (a0 = 1)) then (some true) else (if (decide (a0 = 2)) then (some true) else (some (decide (a0 = 9))))

set_option maxRecDepth 100000 in
theorem m38_r05_attempt_c {a0 : Int} {r : Bool} (h : m38_r05_attempt a0 = some r) : CallsA Tryd.prog 38 [.one (.i .i64 a0)] (· = .s (.one (.b r))) := by
  unfold m38_r05_attempt at h
  refine callsA_of Tryd.func38 rfl (nt := 13) rfl (Nat.le_of_ble_eq_true rfl) ?_
  intro w0 S0
  refine cseq ?_
  refine cregion ?_
  refine sv rfl (opv_as rfl) ?_
  refine snil ?_
  refine cseq ?_
  refine cregion ?_
  refine sv rfl (opv_mv rfl) ?_
  refine sv rfl (opv_ieql rfl rfl) ?_
  refine sv rfl (opv_mv rfl) ?_
  refine ssplit 5 rfl (fun hc => ?_) (fun hc => ?_)
  · replace h := ite_t hc h
    clear hc
    refine soff rfl rfl rfl rfl ?_
    refine soff rfl rfl rfl rfl ?_
    refine sv rfl (opv_pick_t rfl rfl) ?_
    refine sv rfl (opv_mv rfl) ?_
    refine soff rfl rfl rfl rfl ?_
    refine soff rfl rfl rfl rfl ?_
    refine sv rfl (opv_pick_t rfl rfl) ?_
    refine sv rfl (opv_as rfl) ?_
    refine snil ?_
    refine cret ?_
    obtain rfl := Option.some.inj h
    refine ⟨Or.inr rfl, _, _, _, (resVs_cons (ResV.tmp _ _ rfl) resVs_nil), (pubA_id rfl), ?_⟩
    rfl
  · replace h := ite_f hc h
    clear hc
    refine son rfl rfl rfl ?_
    refine sv rfl (opv_mv rfl) ?_
    refine son rfl rfl rfl ?_
    refine sv rfl (opv_ieql rfl rfl) ?_
    refine sv rfl (opv_pick_f rfl rfl) ?_
    refine sv rfl (opv_mv rfl) ?_
    refine ssplit 9 rfl (fun hc => ?_) (fun hc => ?_)
    · replace h := ite_t hc h
      clear hc
      refine soff rfl rfl rfl rfl ?_
      refine soff rfl rfl rfl rfl ?_
      refine sv rfl (opv_pick_t rfl rfl) ?_
      refine sv rfl (opv_as rfl) ?_
      refine snil ?_
      refine cret ?_
      obtain rfl := Option.some.inj h
      refine ⟨Or.inr rfl, _, _, _, (resVs_cons (ResV.tmp _ _ rfl) resVs_nil), (pubA_id rfl), ?_⟩
      rfl
    · replace h := ite_f hc h
      clear hc
      refine son rfl rfl rfl ?_
      refine sv rfl (opv_mv rfl) ?_
      refine son rfl rfl rfl ?_
      refine sv rfl (opv_ieql rfl rfl) ?_
      refine sv rfl (opv_pick_f rfl rfl) ?_
      refine sv rfl (opv_as rfl) ?_
      refine snil ?_
      refine cret ?_
      obtain rfl := Option.some.inj h
      refine ⟨Or.inr rfl, _, _, _, (resVs_cons (ResV.tmp _ _ rfl) resVs_nil), (pubA_id rfl), ?_⟩
      rfl

def m39_r05_flag (a0 : Int) : Option Bool :=
  some (decide (a0 = 2))

set_option maxRecDepth 100000 in
theorem m39_r05_flag_c {a0 : Int} {r : Bool} (h : m39_r05_flag a0 = some r) : CallsA Tryd.prog 39 [.one (.i .i64 a0)] (· = .s (.one (.b r))) := by
  unfold m39_r05_flag at h
  refine callsA_of Tryd.func39 rfl (nt := 5) rfl (Nat.le_of_ble_eq_true rfl) ?_
  intro w0 S0
  refine cseq ?_
  refine cregion ?_
  refine sv rfl (opv_as rfl) ?_
  refine snil ?_
  refine cseq ?_
  refine cregion ?_
  refine sv rfl (opv_mv rfl) ?_
  refine sv rfl (opv_ieql rfl rfl) ?_
  refine sv rfl (opv_as rfl) ?_
  refine snil ?_
  refine cret ?_
  obtain rfl := Option.some.inj h
  refine ⟨Or.inr rfl, _, _, _, (resVs_cons (ResV.tmp _ _ rfl) resVs_nil), (pubA_id rfl), ?_⟩
  rfl

def m41_r05_key (a0 : Int) : Option Bool :=
  if (decide (3 ≤ a0)) then (some (decide (a0 ≤ 5))) else (some false)

set_option maxRecDepth 100000 in
theorem m41_r05_key_c {a0 : Int} {r : Bool} (h : m41_r05_key a0 = some r) : CallsA Tryd.prog 41 [.one (.i .i64 a0)] (· = .s (.one (.b r))) := by
  unfold m41_r05_key at h
  refine callsA_of Tryd.func41 rfl (nt := 9) rfl (Nat.le_of_ble_eq_true rfl) ?_
  intro w0 S0
  refine cseq ?_
  refine cregion ?_
  refine sv rfl (opv_as rfl) ?_
  refine snil ?_
  refine cseq ?_
  refine cregion ?_
  refine sv rfl (opv_mv rfl) ?_
  refine sv rfl (opv_geq rfl rfl) ?_
  refine sv rfl (opv_mv rfl) ?_
  refine ssplit 5 rfl (fun hc => ?_) (fun hc => ?_)
  · replace h := ite_t hc h
    clear hc
    refine son rfl rfl rfl ?_
    refine sv rfl (opv_mv rfl) ?_
    refine son rfl rfl rfl ?_
    refine sv rfl (opv_leq rfl rfl) ?_
    refine sv rfl (opv_pick_t rfl rfl) ?_
    refine sv rfl (opv_as rfl) ?_
    refine snil ?_
    refine cret ?_
    obtain rfl := Option.some.inj h
    refine ⟨Or.inr rfl, _, _, _, (resVs_cons (ResV.tmp _ _ rfl) resVs_nil), (pubA_id rfl), ?_⟩
    rfl
  · replace h := ite_f hc h
    clear hc
    refine soff rfl rfl rfl rfl ?_
    refine soff rfl rfl rfl rfl ?_
    refine sv rfl (opv_pick_f rfl rfl) ?_
    refine sv rfl (opv_as rfl) ?_
    refine snil ?_
    refine cret ?_
    obtain rfl := Option.some.inj h
    refine ⟨Or.inr rfl, _, _, _, (resVs_cons (ResV.tmp _ _ rfl) resVs_nil), (pubA_id rfl), ?_⟩
    rfl

def m43_r05_val (a0 : Int) : Option Bool :=
  some (decide (a0 = 4))

set_option maxRecDepth 100000 in
theorem m43_r05_val_c {a0 : Int} {r : Bool} (h : m43_r05_val a0 = some r) : CallsA Tryd.prog 43 [.one (.i .i64 a0)] (· = .s (.one (.b r))) := by
  unfold m43_r05_val at h
  refine callsA_of Tryd.func43 rfl (nt := 5) rfl (Nat.le_of_ble_eq_true rfl) ?_
  intro w0 S0
  refine cseq ?_
  refine cregion ?_
  refine sv rfl (opv_as rfl) ?_
  refine snil ?_
  refine cseq ?_
  refine cregion ?_
  refine sv rfl (opv_mv rfl) ?_
  refine sv rfl (opv_ieql rfl rfl) ?_
  refine sv rfl (opv_as rfl) ?_
  refine snil ?_
  refine cret ?_
  obtain rfl := Option.some.inj h
  refine ⟨Or.inr rfl, _, _, _, (resVs_cons (ResV.tmp _ _ rfl) resVs_nil), (pubA_id rfl), ?_⟩
  rfl

def m62_r05_plain (a0 : GApiRange) : Option Bool :=
  if (decide ((a0.Lo.length : Int) ≤ 16)) then (if (decide ((a0.Hi.length : Int) ≤ 16)) then (if a0.Open then (some (!(decide (0 < (a0.Hi.length : Int))))) else (some true)) else (some false)) else (some false)

set_option maxRecDepth 100000 in
theorem m62_r05_plain_c {a0 : GApiRange} {r : Bool} (h : m62_r05_plain a0 = some r) : CallsA Tryd.prog 62 [.agg [.sl a0.Lo.length (a0.Lo.flatMap eU8), .sl a0.Hi.length (a0.Hi.flatMap eU8), .b a0.Open]] (· = .s (.one (.b r))) := by
  unfold m62_r05_plain at h
  refine callsA_of Tryd.func62 rfl (nt := 24) rfl (Nat.le_of_ble_eq_true rfl) ?_
  intro w0 S0
  refine cseq ?_
  refine cregion ?_
  refine sbox rfl rfl ?_
  refine sv rfl (opv_as rfl) ?_
  refine snil ?_
  refine cseq ?_
  refine cregion ?_
  refine sv rfl (opv_fieldAddr_lp fi24_0 rfl) ?_
  refine sv rfl (opv_load1 ti22 rfl (.lp _ _ _ rfl) rfl) ?_
  refine sv rfl (opv_len_sl si22 rfl) ?_
  refine sv rfl (opv_leq rfl rfl) ?_
  refine sv rfl (opv_mv rfl) ?_
  refine ssplit 7 rfl (fun hc => ?_) (fun hc => ?_)
  · replace h := ite_t hc h
    clear hc
    refine son rfl rfl rfl ?_
    refine sv rfl (opv_fieldAddr_lp fi24_1 rfl) ?_
    refine son rfl rfl rfl ?_
    refine sv rfl (opv_load1 ti22 rfl (.lp _ _ _ rfl) rfl) ?_
    refine son rfl rfl rfl ?_
    refine sv rfl (opv_len_sl si22 rfl) ?_
    refine son rfl rfl rfl ?_
    refine sv rfl (opv_leq rfl rfl) ?_
    refine sv rfl (opv_pick_t rfl rfl) ?_
    refine sv rfl (opv_mv rfl) ?_
    refine ssplit 13 rfl (fun hc => ?_) (fun hc => ?_)
    · replace h := ite_t hc h
      clear hc
      refine son rfl rfl rfl ?_
      refine sv rfl (opv_fieldAddr_lp fi24_2 rfl) ?_
      refine son rfl rfl rfl ?_
      refine sv rfl (opv_load1 ti4 rfl (.lp _ _ _ rfl) rfl) ?_
      refine son rfl rfl rfl ?_
      refine sv rfl (opv_mv rfl) ?_
      refine ssplit 16 rfl (fun hc => ?_) (fun hc => ?_)
      · replace h := ite_t hc h
        clear hc
        refine son rfl rfl rfl ?_
        refine sv rfl (opv_fieldAddr_lp fi24_1 rfl) ?_
        refine son rfl rfl rfl ?_
        refine sv rfl (opv_load1 ti22 rfl (.lp _ _ _ rfl) rfl) ?_
        refine son rfl rfl rfl ?_
        refine sv rfl (opv_len_sl si22 rfl) ?_
        refine son rfl rfl rfl ?_
        refine sv rfl (opv_gtr rfl rfl) ?_
        refine son rfl rfl rfl ?_
        refine sv rfl (opv_pick_t rfl rfl) ?_
        refine son rfl rfl rfl ?_
        refine sv rfl (opv_not rfl) ?_
        refine sv rfl (opv_pick_t rfl rfl) ?_
        refine sv rfl (opv_as rfl) ?_
        refine snil ?_
        refine cret ?_
        obtain rfl := Option.some.inj h
        refine ⟨Or.inr rfl, _, _, _, (resVs_cons (ResV.tmp _ _ rfl) resVs_nil), (pubA_id rfl), ?_⟩
        rfl
      · replace h := ite_f hc h
        clear hc
        refine soff rfl rfl rfl rfl ?_
        refine soff rfl rfl rfl rfl ?_
        refine soff rfl rfl rfl rfl ?_
        refine soff rfl rfl rfl rfl ?_
        refine son rfl rfl rfl ?_
        refine sv rfl (opv_pick_f rfl rfl) ?_
        refine son rfl rfl rfl ?_
        refine sv rfl (opv_not rfl) ?_
        refine sv rfl (opv_pick_t rfl rfl) ?_
        refine sv rfl (opv_as rfl) ?_
        refine snil ?_
        refine cret ?_
        obtain rfl := Option.some.inj h
        refine ⟨Or.inr rfl, _, _, _, (resVs_cons (ResV.tmp _ _ rfl) resVs_nil), (pubA_id rfl), ?_⟩
        rfl
    · replace h := ite_f hc h
      clear hc
      refine soff rfl rfl rfl rfl ?_
      refine soff rfl rfl rfl rfl ?_
      refine soff rfl rfl rfl rfl ?_
      refine soffu rfl rfl rfl ?_
      refine soffu rfl rfl rfl ?_
      refine soffu rfl rfl rfl ?_
      refine soffu rfl rfl rfl ?_
      refine soff rfl rfl rfl rfl ?_
      refine soff rfl rfl rfl rfl ?_
      refine sv rfl (opv_pick_f rfl rfl) ?_
      refine sv rfl (opv_as rfl) ?_
      refine snil ?_
      refine cret ?_
      obtain rfl := Option.some.inj h
      refine ⟨Or.inr rfl, _, _, _, (resVs_cons (ResV.tmp _ _ rfl) resVs_nil), (pubA_id rfl), ?_⟩
      rfl
  · replace h := ite_f hc h
    clear hc
    refine soff rfl rfl rfl rfl ?_
    refine soff rfl rfl rfl rfl ?_
    refine soff rfl rfl rfl rfl ?_
    refine soff rfl rfl rfl rfl ?_
    refine sv rfl (opv_pick_f rfl rfl) ?_
    refine sv rfl (opv_mv rfl) ?_
    refine soff rfl rfl rfl rfl ?_
    refine soff rfl rfl rfl rfl ?_
    refine soff rfl rfl rfl rfl ?_
    refine soffu rfl rfl rfl ?_
    refine soffu rfl rfl rfl ?_
    refine soffu rfl rfl rfl ?_
    refine soffu rfl rfl rfl ?_
    refine soff rfl rfl rfl rfl ?_
    refine soff rfl rfl rfl rfl ?_
    refine sv rfl (opv_pick_f rfl rfl) ?_
    refine sv rfl (opv_as rfl) ?_
    refine snil ?_
    refine cret ?_
    obtain rfl := Option.some.inj h
    refine ⟨Or.inr rfl, _, _, _, (resVs_cons (ResV.tmp _ _ rfl) resVs_nil), (pubA_id rfl), ?_⟩
    rfl

def m44_r05_rng (a0 : Int) : Option Bool :=
  some (decide (a0 = 6))

set_option maxRecDepth 100000 in
theorem m44_r05_rng_c {a0 : Int} {r : Bool} (h : m44_r05_rng a0 = some r) : CallsA Tryd.prog 44 [.one (.i .i64 a0)] (· = .s (.one (.b r))) := by
  unfold m44_r05_rng at h
  refine callsA_of Tryd.func44 rfl (nt := 5) rfl (Nat.le_of_ble_eq_true rfl) ?_
  intro w0 S0
  refine cseq ?_
  refine cregion ?_
  refine sv rfl (opv_as rfl) ?_
  refine snil ?_
  refine cseq ?_
  refine cregion ?_
  refine sv rfl (opv_mv rfl) ?_
  refine sv rfl (opv_ieql rfl rfl) ?_
  refine sv rfl (opv_as rfl) ?_
  refine snil ?_
  refine cret ?_
  obtain rfl := Option.some.inj h
  refine ⟨Or.inr rfl, _, _, _, (resVs_cons (ResV.tmp _ _ rfl) resVs_nil), (pubA_id rfl), ?_⟩
  rfl

def m19_r05_SaneReq_k3 (a0 : GR05Req) (b3 : Unit) : Option Bool :=
  (m62_r05_plain (GApiRange.mk a0.Rng.Lo a0.Rng.Hi a0.Rng.Open)).bind fun v4 => if v4 then ((m44_r05_rng a0.Kind).bind fun v5 => if v5 then (some true) else (if (decide ((a0.Rng.Lo.length : Int) = 0)) then (if (decide ((a0.Rng.Hi.length : Int) = 0)) then (some (!a0.Rng.Open)) else (some false)) else (some false))) else (some false)

def m19_r05_SaneReq_k2 (a0 : GR05Req) (b2 : Unit) : Option Bool :=
  (m41_r05_key a0.Kind).bind fun v6 => if v6 then (if (decide ((a0.Key.length : Int) < 1)) then (some false) else (if (decide (16 < (a0.Key.length : Int))) then (some false) else ((m41_r05_key a0.Kind).bind fun v7 => if (!v7) then (if (decide (0 < (a0.Key.length : Int))) then (some false) else (if (decide (32 < (a0.Val.length : Int))) then (some false) else ((m43_r05_val a0.Kind).bind fun v8 => if (!v8) then (if (decide (0 < (a0.Val.length : Int))) then (some false) else (m19_r05_SaneReq_k3 a0 ())) else (m19_r05_SaneReq_k3 a0 ())))) else (if (decide (32 < (a0.Val.length : Int))) then (some false) else ((m43_r05_val a0.Kind).bind fun v9 => if (!v9) then (if (decide (0 < (a0.Val.length : Int))) then (some false) else (m19_r05_SaneReq_k3 a0 ())) else (m19_r05_SaneReq_k3 a0 ())))))) else ((m41_r05_key a0.Kind).bind fun v10 => if (!v10) then (if (decide (0 < (a0.Key.length : Int))) then (some false) else (if (decide (32 < (a0.Val.length : Int))) then (some false) else ((m43_r05_val a0.Kind).bind fun v11 => if (!v11) then (if (decide (0 < (a0.Val.length : Int))) then (some false) else (m19_r05_SaneReq_k3 a0 ())) else (m19_r05_SaneReq_k3 a0 ())))) else (if (decide (32 < (a0.Val.length : Int))) then (some false) else ((m43_r05_val a0.Kind).bind fun v12 => if (!v12) then (if (decide (0 < (a0.Val.length : Int))) then (some false) else (m19_r05_SaneReq_k3 a0 ())) else (m19_r05_SaneReq_k3 a0 ()))))

def m19_r05_SaneReq_k1 (a0 : GR05Req) (b1 : Unit) : Option Bool :=
  (m37_r05_token a0.Kind).bind fun v13 => if (!v13) then (if (!decide (a0.Token = 0)) then (some false) else ((m38_r05_attempt a0.Kind).bind fun v14 => if (!v14) then (if (!decide (a0.Attempt = 0)) then (some false) else ((m39_r05_flag a0.Kind).bind fun v15 => if (!v15) then (if a0.RO then (some false) else (m19_r05_SaneReq_k2 a0 ())) else (m19_r05_SaneReq_k2 a0 ()))) else ((m39_r05_flag a0.Kind).bind fun v16 => if (!v16) then (if a0.RO then (some false) else (m19_r05_SaneReq_k2 a0 ())) else (m19_r05_SaneReq_k2 a0 ())))) else ((m38_r05_attempt a0.Kind).bind fun v17 => if (!v17) then (if (!decide (a0.Attempt = 0)) then (some false) else ((m39_r05_flag a0.Kind).bind fun v18 => if (!v18) then (if a0.RO then (some false) else (m19_r05_SaneReq_k2 a0 ())) else (m19_r05_SaneReq_k2 a0 ()))) else ((m39_r05_flag a0.Kind).bind fun v19 => if (!v19) then (if a0.RO then (some false) else (m19_r05_SaneReq_k2 a0 ())) else (m19_r05_SaneReq_k2 a0 ())))
def m19_r05_SaneReq (a0 : GR05Req) : Option Bool :=
  if (decide (a0.Kind < 1)) then (some false) else (if (decide (11 < a0.Kind)) then (some false) else (if (decide (a0.Seq < 0)) then (some false) else (if (decide (4294967295 < a0.Seq)) then (some false) else (if (decide (a0.Token < 0)) then (some false) else (if (decide (1099511627776 < a0.Token)) then (some false) else (if (decide (a0.Attempt < 0)) then (some false) else (if (decide (65535 < a0.Attempt)) then (some false) else (m19_r05_SaneReq_k1 a0 ()))))))))

set_option maxRecDepth 100000 in
theorem m19_r05_SaneReq_c {a0 : GR05Req} {r : Bool} (h : m19_r05_SaneReq a0 = some r) : CallsA Tryd.prog 19 [.agg [.i .i64 a0.Kind, .i .i64 a0.Seq, .i .i64 a0.Token, .i .i64 a0.Attempt, .b a0.RO, .sl a0.Key.length (a0.Key.flatMap eU8), .sl a0.Val.length (a0.Val.flatMap eU8), .sl a0.Rng.Lo.length (a0.Rng.Lo.flatMap eU8), .sl a0.Rng.Hi.length (a0.Rng.Hi.flatMap eU8), .b a0.Rng.Open]] (· = .s (.one (.b r))) := by
  unfold m19_r05_SaneReq at h
  refine callsA_of Tryd.func19 rfl (nt := 138) rfl (Nat.le_of_ble_eq_true rfl) ?_
  intro w0 S0
  refine cseq ?_
  refine cregion ?_
  refine sbox rfl rfl ?_
  refine sv rfl (opv_as rfl) ?_
  refine snil ?_
  refine cseq ?_
  refine cregion ?_
  refine sv rfl (opv_fieldAddr_lp fi26_0 rfl) ?_
  refine sv rfl (opv_load1 ti3 rfl (.lp _ _ _ rfl) rfl) ?_
  refine sv rfl (opv_as rfl) ?_
  refine snil ?_
  refine cseq ?_
  refine cseq ?_
  refine cjoin3 (Unit) (fun b1 => [(1, .s (.one (.lp 0 0))), (3, .s (.one (.i .i64 a0.Kind)))]) (fun b1 => [.box [.i .i64 a0.Kind, .i .i64 a0.Seq, .i .i64 a0.Token, .i .i64 a0.Attempt, .b a0.RO, .sl a0.Key.length (a0.Key.flatMap eU8), .sl a0.Val.length (a0.Val.flatMap eU8), .sl a0.Rng.Lo.length (a0.Rng.Lo.flatMap eU8), .sl a0.Rng.Hi.length (a0.Rng.Hi.flatMap eU8), .b a0.Rng.Open]]) (fun b1 => m19_r05_SaneReq_k1 a0 b1 = some r) (fun _ _ => inbL_of rfl) (fun _ _ => blkinb_of rfl) (fun _ _ => Nat.le_of_ble_eq_true rfl) (fun b1 h => ?_) ?_
  · unfold m19_r05_SaneReq_k1 at h
    refine cseq ?_
    refine cseq ?_
    refine cjoin3 (Unit) (fun b2 => [(1, .s (.one (.lp 0 0))), (3, .s (.one (.i .i64 a0.Kind)))]) (fun b2 => [.box [.i .i64 a0.Kind, .i .i64 a0.Seq, .i .i64 a0.Token, .i .i64 a0.Attempt, .b a0.RO, .sl a0.Key.length (a0.Key.flatMap eU8), .sl a0.Val.length (a0.Val.flatMap eU8), .sl a0.Rng.Lo.length (a0.Rng.Lo.flatMap eU8), .sl a0.Rng.Hi.length (a0.Rng.Hi.flatMap eU8), .b a0.Rng.Open]]) (fun b2 => m19_r05_SaneReq_k2 a0 b2 = some r) (fun _ _ => inbL_of rfl) (fun _ _ => blkinb_of rfl) (fun _ _ => Nat.le_of_ble_eq_true rfl) (fun b2 h => ?_) ?_
    · unfold m19_r05_SaneReq_k2 at h
      refine cseq ?_
      refine cseq ?_
      refine cjoin3 (Unit) (fun b3 => [(1, .s (.one (.lp 0 0))), (3, .s (.one (.i .i64 a0.Kind)))]) (fun b3 => [.box [.i .i64 a0.Kind, .i .i64 a0.Seq, .i .i64 a0.Token, .i .i64 a0.Attempt, .b a0.RO, .sl a0.Key.length (a0.Key.flatMap eU8), .sl a0.Val.length (a0.Val.flatMap eU8), .sl a0.Rng.Lo.length (a0.Rng.Lo.flatMap eU8), .sl a0.Rng.Hi.length (a0.Rng.Hi.flatMap eU8), .b a0.Rng.Open]]) (fun b3 => m19_r05_SaneReq_k3 a0 b3 = some r) (fun _ _ => inbL_of rfl) (fun _ _ => blkinb_of rfl) (fun _ _ => Nat.le_of_ble_eq_true rfl) (fun b3 h => ?_) ?_
      · unfold m19_r05_SaneReq_k3 at h
        refine cseq ?_
        refine cregion ?_
        refine sv rfl (opv_fieldAddr_lp fi26_7 rfl) ?_
        refine sv rfl (opv_loadN ti24 rfl (.lp _ _ _ rfl) (Nat.le_of_ble_eq_true rfl)) ?_
        obtain ⟨v4, hv4, h⟩ := bind_eq h
        refine scall1 rfl fn62 (opnds_cons rfl opnds_nil) (pubA_id rfl) (m62_r05_plain_c hv4) ?_
        refine sv rfl (opv_mv rfl) ?_
        refine ssplit 114 rfl (fun hc => ?_) (fun hc => ?_)
        · replace h := ite_t hc h
          clear hc
          refine son rfl rfl rfl ?_
          refine sv rfl (opv_mv rfl) ?_
          refine son rfl rfl rfl ?_
          obtain ⟨v5, hv5, h⟩ := bind_eq h
          refine scall1 rfl fn44 (opnds_cons rfl opnds_nil) (pubA_id rfl) (m44_r05_rng_c hv5) ?_
          refine son rfl rfl rfl ?_
          refine sv rfl (opv_mv rfl) ?_
          refine ssplit 117 rfl (fun hc => ?_) (fun hc => ?_)
          · replace h := ite_t hc h
            clear hc
            refine soff rfl rfl rfl rfl ?_
            refine soff rfl rfl rfl rfl ?_
            refine soff rfl rfl rfl rfl ?_
            refine soff rfl rfl rfl rfl ?_
            refine soff rfl rfl rfl rfl ?_
            refine soff rfl rfl rfl rfl ?_
            refine soffu rfl rfl rfl ?_
            refine soffu rfl rfl rfl ?_
            refine soffu rfl rfl rfl ?_
            refine soffu rfl rfl rfl ?_
            refine soffu rfl rfl rfl ?_
            refine soff rfl rfl rfl rfl ?_
            refine soff rfl rfl rfl rfl ?_
            refine soffu rfl rfl rfl ?_
            refine soffu rfl rfl rfl ?_
            refine soffu rfl rfl rfl ?_
            refine soffu rfl rfl rfl ?_
            refine soff rfl rfl rfl rfl ?_
            refine son rfl rfl rfl ?_
            refine sv rfl (opv_pick_t rfl rfl) ?_
            refine sv rfl (opv_pick_t rfl rfl) ?_
            refine sv rfl (opv_as rfl) ?_
            refine snil ?_
            refine cret ?_
            obtain rfl := Option.some.inj h
            refine ⟨Or.inr rfl, _, _, _, (resVs_cons (ResV.tmp _ _ rfl) resVs_nil), (pubA_id rfl), ?_⟩
            rfl
          · replace h := ite_f hc h
            clear hc
            refine son rfl rfl rfl ?_
            refine sv rfl (opv_fieldAddr_lp fi26_7 rfl) ?_
            refine son rfl rfl rfl ?_
            refine sv rfl (opv_fieldAddr_lp fi24_0 rfl) ?_
            refine son rfl rfl rfl ?_
            refine sv rfl (opv_load1 ti22 rfl (.lp _ _ _ rfl) rfl) ?_
            refine son rfl rfl rfl ?_
            refine sv rfl (opv_len_sl si22 rfl) ?_
            refine son rfl rfl rfl ?_
            refine sv rfl (opv_ieql rfl rfl) ?_
            refine son rfl rfl rfl ?_
            refine sv rfl (opv_mv rfl) ?_
            refine ssplit 123 rfl (fun hc => ?_) (fun hc => ?_)
            · replace h := ite_t hc h
              clear hc
              refine son rfl rfl rfl ?_
              refine sv rfl (opv_fieldAddr_lp fi26_7 rfl) ?_
              refine son rfl rfl rfl ?_
              refine sv rfl (opv_fieldAddr_lp fi24_1 rfl) ?_
              refine son rfl rfl rfl ?_
              refine sv rfl (opv_load1 ti22 rfl (.lp _ _ _ rfl) rfl) ?_
              refine son rfl rfl rfl ?_
              refine sv rfl (opv_len_sl si22 rfl) ?_
              refine son rfl rfl rfl ?_
              refine sv rfl (opv_ieql rfl rfl) ?_
              refine son rfl rfl rfl ?_
              refine sv rfl (opv_pick_t rfl rfl) ?_
              refine son rfl rfl rfl ?_
              refine sv rfl (opv_mv rfl) ?_
              refine ssplit 130 rfl (fun hc => ?_) (fun hc => ?_)
              · replace h := ite_t hc h
                clear hc
                refine son rfl rfl rfl ?_
                refine sv rfl (opv_fieldAddr_lp fi26_7 rfl) ?_
                refine son rfl rfl rfl ?_
                refine sv rfl (opv_fieldAddr_lp fi24_2 rfl) ?_
                refine son rfl rfl rfl ?_
                refine sv rfl (opv_load1 ti4 rfl (.lp _ _ _ rfl) rfl) ?_
                refine son rfl rfl rfl ?_
                refine sv rfl (opv_not rfl) ?_
                refine son rfl rfl rfl ?_
                refine sv rfl (opv_pick_t rfl rfl) ?_
                refine son rfl rfl rfl ?_
                refine sv rfl (opv_pick_f rfl rfl) ?_
                refine sv rfl (opv_pick_t rfl rfl) ?_
                refine sv rfl (opv_as rfl) ?_
                refine snil ?_
                refine cret ?_
                obtain rfl := Option.some.inj h
                refine ⟨Or.inr rfl, _, _, _, (resVs_cons (ResV.tmp _ _ rfl) resVs_nil), (pubA_id rfl), ?_⟩
                rfl
              · replace h := ite_f hc h
                clear hc
                refine soff rfl rfl rfl rfl ?_
                refine soff rfl rfl rfl rfl ?_
                refine soff rfl rfl rfl rfl ?_
                refine soff rfl rfl rfl rfl ?_
                refine son rfl rfl rfl ?_
                refine sv rfl (opv_pick_f rfl rfl) ?_
                refine son rfl rfl rfl ?_
                refine sv rfl (opv_pick_f rfl rfl) ?_
                refine sv rfl (opv_pick_t rfl rfl) ?_
                refine sv rfl (opv_as rfl) ?_
                refine snil ?_
                refine cret ?_
                obtain rfl := Option.some.inj h
                refine ⟨Or.inr rfl, _, _, _, (resVs_cons (ResV.tmp _ _ rfl) resVs_nil), (pubA_id rfl), ?_⟩
                rfl
            · replace h := ite_f hc h
              clear hc
              refine soff rfl rfl rfl rfl ?_
              refine soff rfl rfl rfl rfl ?_
              refine soff rfl rfl rfl rfl ?_
              refine soff rfl rfl rfl rfl ?_
              refine soff rfl rfl rfl rfl ?_
              refine son rfl rfl rfl ?_
              refine sv rfl (opv_pick_f rfl rfl) ?_
              refine son rfl rfl rfl ?_
              refine sv rfl (opv_mv rfl) ?_
              refine soff rfl rfl rfl rfl ?_
              refine soff rfl rfl rfl rfl ?_
              refine soff rfl rfl rfl rfl ?_
              refine soff rfl rfl rfl rfl ?_
              refine son rfl rfl rfl ?_
              refine sv rfl (opv_pick_f rfl rfl) ?_
              refine son rfl rfl rfl ?_
              refine sv rfl (opv_pick_f rfl rfl) ?_
              refine sv rfl (opv_pick_t rfl rfl) ?_
              refine sv rfl (opv_as rfl) ?_
              refine snil ?_
              refine cret ?_
              obtain rfl := Option.some.inj h
              refine ⟨Or.inr rfl, _, _, _, (resVs_cons (ResV.tmp _ _ rfl) resVs_nil), (pubA_id rfl), ?_⟩
              rfl
        · replace h := ite_f hc h
          clear hc
          refine soff rfl rfl rfl rfl ?_
          refine soff rfl rfl rfl rfl ?_
          refine soff rfl rfl rfl rfl ?_
          refine soffu rfl rfl rfl ?_
          refine soffu rfl rfl rfl ?_
          refine soffu rfl rfl rfl ?_
          refine soffu rfl rfl rfl ?_
          refine soffu rfl rfl rfl ?_
          refine soffu rfl rfl rfl ?_
          refine soffu rfl rfl rfl ?_
          refine soffu rfl rfl rfl ?_
          refine soffu rfl rfl rfl ?_
          refine soffu rfl rfl rfl ?_
          refine soffu rfl rfl rfl ?_
          refine soffu rfl rfl rfl ?_
          refine soffu rfl rfl rfl ?_
          refine soffu rfl rfl rfl ?_
          refine soffu rfl rfl rfl ?_
          refine soffu rfl rfl rfl ?_
          refine soffu rfl rfl rfl ?_
          refine soffu rfl rfl rfl ?_
          refine soff rfl rfl rfl rfl ?_
          refine sv rfl (opv_pick_f rfl rfl) ?_
          refine sv rfl (opv_as rfl) ?_
          refine snil ?_
          refine cret ?_
          obtain rfl := Option.some.inj h
          refine ⟨Or.inr rfl, _, _, _, (resVs_cons (ResV.tmp _ _ rfl) resVs_nil), (pubA_id rfl), ?_⟩
          rfl
      · skip
        refine cregion ?_
        refine sv rfl (opv_mv rfl) ?_
        obtain ⟨v6, hv6, h⟩ := bind_eq h
        refine scall1 rfl fn41 (opnds_cons rfl opnds_nil) (pubA_id rfl) (m41_r05_key_c hv6) ?_
        refine sv rfl (opv_mv rfl) ?_
        refine ssplit 71 rfl (fun hc => ?_) (fun hc => ?_)
        · replace h := ite_t hc h
          clear hc
          refine son rfl rfl rfl ?_
          refine sv rfl (opv_fieldAddr_lp fi26_5 rfl) ?_
          refine son rfl rfl rfl ?_
          refine sv rfl (opv_load1 ti22 rfl (.lp _ _ _ rfl) rfl) ?_
          refine son rfl rfl rfl ?_
          refine sv rfl (opv_len_sl si22 rfl) ?_
          refine son rfl rfl rfl ?_
          refine sv rfl (opv_lss rfl rfl) ?_
          refine son rfl rfl rfl ?_
          refine sv rfl (opv_mv rfl) ?_
          refine ssplit 76 rfl (fun hc => ?_) (fun hc => ?_)
          · replace h := ite_t hc h
            clear hc
            refine soff rfl rfl rfl rfl ?_
            refine soff rfl rfl rfl rfl ?_
            refine soff rfl rfl rfl rfl ?_
            refine soff rfl rfl rfl rfl ?_
            refine son rfl rfl rfl ?_
            refine sv rfl (opv_pick_t rfl rfl) ?_
            refine sv rfl (opv_pick_t rfl rfl) ?_
            refine sv rfl (opv_mv rfl) ?_
            refine soff rfl rfl rfl rfl ?_
            refine soff rfl rfl rfl rfl ?_
            refine soff rfl rfl rfl rfl ?_
            refine soff rfl rfl rfl rfl ?_
            refine soffu rfl rfl rfl ?_
            refine soffu rfl rfl rfl ?_
            refine soffu rfl rfl rfl ?_
            refine soffu rfl rfl rfl ?_
            refine soff rfl rfl rfl rfl ?_
            refine sv rfl (opv_pick_t rfl rfl) ?_
            refine sv rfl (opv_mv rfl) ?_
            refine soff rfl rfl rfl rfl ?_
            refine soff rfl rfl rfl rfl ?_
            refine soff rfl rfl rfl rfl ?_
            refine soff rfl rfl rfl rfl ?_
            refine sv rfl (opv_pick_t rfl rfl) ?_
            refine sv rfl (opv_mv rfl) ?_
            refine soff rfl rfl rfl rfl ?_
            refine soff rfl rfl rfl rfl ?_
            refine soff rfl rfl rfl rfl ?_
            refine soff rfl rfl rfl rfl ?_
            refine soffu rfl rfl rfl ?_
            refine soffu rfl rfl rfl ?_
            refine soffu rfl rfl rfl ?_
            refine soffu rfl rfl rfl ?_
            refine soff rfl rfl rfl rfl ?_
            refine sv rfl (opv_pick_t rfl rfl) ?_
            refine snil ?_
            refine ccond rfl (fun _ => ?_) (fun hx => Bool.noConfusion hx)
            refine cseq ?_
            refine cregion ?_
            refine sv rfl (opv_as rfl) ?_
            refine snil ?_
            refine cret ?_
            refine then_ret ?_
            obtain rfl := Option.some.inj h
            refine ⟨Or.inr rfl, _, _, _, (resVs_cons (ResV.tmp _ _ rfl) resVs_nil), (pubA_id rfl), ?_⟩
            rfl
          · replace h := ite_f hc h
            clear hc
            refine son rfl rfl rfl ?_
            refine sv rfl (opv_fieldAddr_lp fi26_5 rfl) ?_
            refine son rfl rfl rfl ?_
            refine sv rfl (opv_load1 ti22 rfl (.lp _ _ _ rfl) rfl) ?_
            refine son rfl rfl rfl ?_
            refine sv rfl (opv_len_sl si22 rfl) ?_
            refine son rfl rfl rfl ?_
            refine sv rfl (opv_gtr rfl rfl) ?_
            refine son rfl rfl rfl ?_
            refine sv rfl (opv_pick_f rfl rfl) ?_
            refine sv rfl (opv_pick_t rfl rfl) ?_
            refine sv rfl (opv_mv rfl) ?_
            refine ssplit 83 rfl (fun hc => ?_) (fun hc => ?_)
            · replace h := ite_t hc h
              clear hc
              refine soff rfl rfl rfl rfl ?_
              refine soff rfl rfl rfl rfl ?_
              refine soff rfl rfl rfl rfl ?_
              refine soff rfl rfl rfl rfl ?_
              refine soffu rfl rfl rfl ?_
              refine soffu rfl rfl rfl ?_
              refine soffu rfl rfl rfl ?_
              refine soffu rfl rfl rfl ?_
              refine soff rfl rfl rfl rfl ?_
              refine sv rfl (opv_pick_t rfl rfl) ?_
              refine sv rfl (opv_mv rfl) ?_
              refine soff rfl rfl rfl rfl ?_
              refine soff rfl rfl rfl rfl ?_
              refine soff rfl rfl rfl rfl ?_
              refine soff rfl rfl rfl rfl ?_
              refine sv rfl (opv_pick_t rfl rfl) ?_
              refine sv rfl (opv_mv rfl) ?_
              refine soff rfl rfl rfl rfl ?_
              refine soff rfl rfl rfl rfl ?_
              refine soff rfl rfl rfl rfl ?_
              refine soff rfl rfl rfl rfl ?_
              refine soffu rfl rfl rfl ?_
              refine soffu rfl rfl rfl ?_
              refine soffu rfl rfl rfl ?_
              refine soffu rfl rfl rfl ?_
              refine soff rfl rfl rfl rfl ?_
              refine sv rfl (opv_pick_t rfl rfl) ?_
              refine snil ?_
              refine ccond rfl (fun _ => ?_) (fun hx => Bool.noConfusion hx)
              refine cseq ?_
              refine cregion ?_
              refine sv rfl (opv_as rfl) ?_
              refine snil ?_
              refine cret ?_
              refine then_ret ?_
              obtain rfl := Option.some.inj h
              refine ⟨Or.inr rfl, _, _, _, (resVs_cons (ResV.tmp _ _ rfl) resVs_nil), (pubA_id rfl), ?_⟩
              rfl
            · replace h := ite_f hc h
              clear hc
              refine son rfl rfl rfl ?_
              refine sv rfl (opv_mv rfl) ?_
              refine son rfl rfl rfl ?_
              obtain ⟨v7, hv7, h⟩ := bind_eq h
              refine scall1 rfl fn41 (opnds_cons rfl opnds_nil) (pubA_id rfl) (m41_r05_key_c hv7) ?_
              refine son rfl rfl rfl ?_
              refine sv rfl (opv_not rfl) ?_
              refine son rfl rfl rfl ?_
              refine sv rfl (opv_mv rfl) ?_
              refine ssplit 87 rfl (fun hc => ?_) (fun hc => ?_)
              · replace h := ite_t hc h
                clear hc
                refine son rfl rfl rfl ?_
                refine sv rfl (opv_fieldAddr_lp fi26_5 rfl) ?_
                refine son rfl rfl rfl ?_
                refine sv rfl (opv_load1 ti22 rfl (.lp _ _ _ rfl) rfl) ?_
                refine son rfl rfl rfl ?_
                refine sv rfl (opv_len_sl si22 rfl) ?_
                refine son rfl rfl rfl ?_
                refine sv rfl (opv_gtr rfl rfl) ?_
                refine son rfl rfl rfl ?_
                refine sv rfl (opv_pick_t rfl rfl) ?_
                refine sv rfl (opv_pick_f rfl rfl) ?_
                refine sv rfl (opv_mv rfl) ?_
                refine ssplit 94 rfl (fun hc => ?_) (fun hc => ?_)
                · replace h := ite_t hc h
                  clear hc
                  refine soff rfl rfl rfl rfl ?_
                  refine soff rfl rfl rfl rfl ?_
                  refine soff rfl rfl rfl rfl ?_
                  refine soff rfl rfl rfl rfl ?_
                  refine sv rfl (opv_pick_t rfl rfl) ?_
                  refine sv rfl (opv_mv rfl) ?_
                  refine soff rfl rfl rfl rfl ?_
                  refine soff rfl rfl rfl rfl ?_
                  refine soff rfl rfl rfl rfl ?_
                  refine soff rfl rfl rfl rfl ?_
                  refine soffu rfl rfl rfl ?_
                  refine soffu rfl rfl rfl ?_
                  refine soffu rfl rfl rfl ?_
                  refine soffu rfl rfl rfl ?_
                  refine soff rfl rfl rfl rfl ?_
                  refine sv rfl (opv_pick_t rfl rfl) ?_
                  refine snil ?_
                  refine ccond rfl (fun _ => ?_) (fun hx => Bool.noConfusion hx)
                  refine cseq ?_
                  refine cregion ?_
                  refine sv rfl (opv_as rfl) ?_
                  refine snil ?_
                  refine cret ?_
                  refine then_ret ?_
                  obtain rfl := Option.some.inj h
                  refine ⟨Or.inr rfl, _, _, _, (resVs_cons (ResV.tmp _ _ rfl) resVs_nil), (pubA_id rfl), ?_⟩
                  rfl
                · replace h := ite_f hc h
                  clear hc
                  refine son rfl rfl rfl ?_
                  refine sv rfl (opv_fieldAddr_lp fi26_6 rfl) ?_
                  refine son rfl rfl rfl ?_
                  refine sv rfl (opv_load1 ti22 rfl (.lp _ _ _ rfl) rfl) ?_
                  refine son rfl rfl rfl ?_
                  refine sv rfl (opv_len_sl si22 rfl) ?_
                  refine son rfl rfl rfl ?_
                  refine sv rfl (opv_gtr rfl rfl) ?_
                  refine sv rfl (opv_pick_f rfl rfl) ?_
                  refine sv rfl (opv_mv rfl) ?_
                  refine ssplit 100 rfl (fun hc => ?_) (fun hc => ?_)
                  · replace h := ite_t hc h
                    clear hc
                    refine soff rfl rfl rfl rfl ?_
                    refine soff rfl rfl rfl rfl ?_
                    refine soff rfl rfl rfl rfl ?_
                    refine soff rfl rfl rfl rfl ?_
                    refine soffu rfl rfl rfl ?_
                    refine soffu rfl rfl rfl ?_
                    refine soffu rfl rfl rfl ?_
                    refine soffu rfl rfl rfl ?_
                    refine soff rfl rfl rfl rfl ?_
                    refine sv rfl (opv_pick_t rfl rfl) ?_
                    refine snil ?_
                    refine ccond rfl (fun _ => ?_) (fun hx => Bool.noConfusion hx)
                    refine cseq ?_
                    refine cregion ?_
                    refine sv rfl (opv_as rfl) ?_
                    refine snil ?_
                    refine cret ?_
                    refine then_ret ?_
                    obtain rfl := Option.some.inj h
                    refine ⟨Or.inr rfl, _, _, _, (resVs_cons (ResV.tmp _ _ rfl) resVs_nil), (pubA_id rfl), ?_⟩
                    rfl
                  · replace h := ite_f hc h
                    clear hc
                    refine son rfl rfl rfl ?_
                    refine sv rfl (opv_mv rfl) ?_
                    refine son rfl rfl rfl ?_
                    obtain ⟨v8, hv8, h⟩ := bind_eq h
                    refine scall1 rfl fn43 (opnds_cons rfl opnds_nil) (pubA_id rfl) (m43_r05_val_c hv8) ?_
                    refine son rfl rfl rfl ?_
                    refine sv rfl (opv_not rfl) ?_
                    refine son rfl rfl rfl ?_
                    refine sv rfl (opv_mv rfl) ?_
                    refine ssplit 104 rfl (fun hc => ?_) (fun hc => ?_)
                    · replace h := ite_t hc h
                      clear hc
                      refine son rfl rfl rfl ?_
                      refine sv rfl (opv_fieldAddr_lp fi26_6 rfl) ?_
                      refine son rfl rfl rfl ?_
                      refine sv rfl (opv_load1 ti22 rfl (.lp _ _ _ rfl) rfl) ?_
                      refine son rfl rfl rfl ?_
                      refine sv rfl (opv_len_sl si22 rfl) ?_
                      refine son rfl rfl rfl ?_
                      refine sv rfl (opv_gtr rfl rfl) ?_
                      refine son rfl rfl rfl ?_
                      refine sv rfl (opv_pick_t rfl rfl) ?_
                      refine sv rfl (opv_pick_f rfl rfl) ?_
                      refine snil ?_
                      refine ccond rfl (fun hc => ?_) (fun hc => ?_)
                      · replace h := ite_t hc h
                        clear hc
                        refine cseq ?_
                        refine cregion ?_
                        refine sv rfl (opv_as rfl) ?_
                        refine snil ?_
                        refine cret ?_
                        refine then_ret ?_
                        obtain rfl := Option.some.inj h
                        refine ⟨Or.inr rfl, _, _, _, (resVs_cons (ResV.tmp _ _ rfl) resVs_nil), (pubA_id rfl), ?_⟩
                        rfl
                      · replace h := ite_f hc h
                        clear hc
                        refine cskip ?_
                        refine then_normal ?_
                        exact ⟨(), _, h, ⟨rfl, rfl, trivial⟩, rfl⟩
                    · replace h := ite_f hc h
                      clear hc
                      refine soff rfl rfl rfl rfl ?_
                      refine soff rfl rfl rfl rfl ?_
                      refine soff rfl rfl rfl rfl ?_
                      refine soff rfl rfl rfl rfl ?_
                      refine son rfl rfl rfl ?_
                      refine sv rfl (opv_pick_f rfl rfl) ?_
                      refine sv rfl (opv_pick_f rfl rfl) ?_
                      refine snil ?_
                      refine ccond rfl (fun hx => Bool.noConfusion hx) (fun _ => ?_)
                      refine cskip ?_
                      refine then_normal ?_
                      exact ⟨(), _, h, ⟨rfl, rfl, trivial⟩, rfl⟩
              · replace h := ite_f hc h
                clear hc
                refine soff rfl rfl rfl rfl ?_
                refine soff rfl rfl rfl rfl ?_
                refine soff rfl rfl rfl rfl ?_
                refine soff rfl rfl rfl rfl ?_
                refine son rfl rfl rfl ?_
                refine sv rfl (opv_pick_f rfl rfl) ?_
                refine sv rfl (opv_pick_f rfl rfl) ?_
                refine sv rfl (opv_mv rfl) ?_
                refine son rfl rfl rfl ?_
                refine sv rfl (opv_fieldAddr_lp fi26_6 rfl) ?_
                refine son rfl rfl rfl ?_
                refine sv rfl (opv_load1 ti22 rfl (.lp _ _ _ rfl) rfl) ?_
                refine son rfl rfl rfl ?_
                refine sv rfl (opv_len_sl si22 rfl) ?_
                refine son rfl rfl rfl ?_
                refine sv rfl (opv_gtr rfl rfl) ?_
                refine sv rfl (opv_pick_f rfl rfl) ?_
                refine sv rfl (opv_mv rfl) ?_
                refine ssplit 100 rfl (fun hc => ?_) (fun hc => ?_)
                · replace h := ite_t hc h
                  clear hc
                  refine soff rfl rfl rfl rfl ?_
                  refine soff rfl rfl rfl rfl ?_
                  refine soff rfl rfl rfl rfl ?_
                  refine soff rfl rfl rfl rfl ?_
                  refine soffu rfl rfl rfl ?_
                  refine soffu rfl rfl rfl ?_
                  refine soffu rfl rfl rfl ?_
                  refine soffu rfl rfl rfl ?_
                  refine soff rfl rfl rfl rfl ?_
                  refine sv rfl (opv_pick_t rfl rfl) ?_
                  refine snil ?_
                  refine ccond rfl (fun _ => ?_) (fun hx => Bool.noConfusion hx)
                  refine cseq ?_
                  refine cregion ?_
                  refine sv rfl (opv_as rfl) ?_
                  refine snil ?_
                  refine cret ?_
                  refine then_ret ?_
                  obtain rfl := Option.some.inj h
                  refine ⟨Or.inr rfl, _, _, _, (resVs_cons (ResV.tmp _ _ rfl) resVs_nil), (pubA_id rfl), ?_⟩
                  rfl
                · replace h := ite_f hc h
                  clear hc
                  refine son rfl rfl rfl ?_
                  refine sv rfl (opv_mv rfl) ?_
                  refine son rfl rfl rfl ?_
                  obtain ⟨v9, hv9, h⟩ := bind_eq h
                  refine scall1 rfl fn43 (opnds_cons rfl opnds_nil) (pubA_id rfl) (m43_r05_val_c hv9) ?_
                  refine son rfl rfl rfl ?_
                  refine sv rfl (opv_not rfl) ?_
                  refine son rfl rfl rfl ?_
                  refine sv rfl (opv_mv rfl) ?_
                  refine ssplit 104 rfl (fun hc => ?_) (fun hc => ?_)
                  · replace h := ite_t hc h
                    clear hc
                    refine son rfl rfl rfl ?_
                    refine sv rfl (opv_fieldAddr_lp fi26_6 rfl) ?_
                    refine son rfl rfl rfl ?_
                    refine sv rfl (opv_load1 ti22 rfl (.lp _ _ _ rfl) rfl) ?_
                    refine son rfl rfl rfl ?_
                    refine sv rfl (opv_len_sl si22 rfl) ?_
                    refine son rfl rfl rfl ?_
                    refine sv rfl (opv_gtr rfl rfl) ?_
                    refine son rfl rfl rfl ?_
                    refine sv rfl (opv_pick_t rfl rfl) ?_
                    refine sv rfl (opv_pick_f rfl rfl) ?_
                    refine snil ?_
                    refine ccond rfl (fun hc => ?_) (fun hc => ?_)
                    · replace h := ite_t hc h
                      clear hc
                      refine cseq ?_
                      refine cregion ?_
                      refine sv rfl (opv_as rfl) ?_
                      refine snil ?_
                      refine cret ?_
                      refine then_ret ?_
                      obtain rfl := Option.some.inj h
                      refine ⟨Or.inr rfl, _, _, _, (resVs_cons (ResV.tmp _ _ rfl) resVs_nil), (pubA_id rfl), ?_⟩
                      rfl
                    · replace h := ite_f hc h
                      clear hc
                      refine cskip ?_
                      refine then_normal ?_
                      exact ⟨(), _, h, ⟨rfl, rfl, trivial⟩, rfl⟩
                  · replace h := ite_f hc h
                    clear hc
                    refine soff rfl rfl rfl rfl ?_
                    refine soff rfl rfl rfl rfl ?_
                    refine soff rfl rfl rfl rfl ?_
                    refine soff rfl rfl rfl rfl ?_
                    refine son rfl rfl rfl ?_
                    refine sv rfl (opv_pick_f rfl rfl) ?_
                    refine sv rfl (opv_pick_f rfl rfl) ?_
                    refine snil ?_
                    refine ccond rfl (fun hx => Bool.noConfusion hx) (fun _ => ?_)
                    refine cskip ?_
                    refine then_normal ?_
                    exact ⟨(), _, h, ⟨rfl, rfl, trivial⟩, rfl⟩
        · replace h := ite_f hc h
          clear hc
          refine soff rfl rfl rfl rfl ?_
          refine soff rfl rfl rfl rfl ?_
          refine soff rfl rfl rfl rfl ?_
          refine soff rfl rfl rfl rfl ?_
          refine soff rfl rfl rfl rfl ?_
          refine soffu rfl rfl rfl ?_
          refine soffu rfl rfl rfl ?_
          refine soffu rfl rfl rfl ?_
          refine soffu rfl rfl rfl ?_
          refine soff rfl rfl rfl rfl ?_
          refine sv rfl (opv_pick_f rfl rfl) ?_
          refine sv rfl (opv_mv rfl) ?_
          refine son rfl rfl rfl ?_
          refine sv rfl (opv_mv rfl) ?_
          refine son rfl rfl rfl ?_
          obtain ⟨v10, hv10, h⟩ := bind_eq h
          refine scall1 rfl fn41 (opnds_cons rfl opnds_nil) (pubA_id rfl) (m41_r05_key_c hv10) ?_
          refine son rfl rfl rfl ?_
          refine sv rfl (opv_not rfl) ?_
          refine son rfl rfl rfl ?_
          refine sv rfl (opv_mv rfl) ?_
          refine ssplit 87 rfl (fun hc => ?_) (fun hc => ?_)
          · replace h := ite_t hc h
            clear hc
            refine son rfl rfl rfl ?_
            refine sv rfl (opv_fieldAddr_lp fi26_5 rfl) ?_
            refine son rfl rfl rfl ?_
            refine sv rfl (opv_load1 ti22 rfl (.lp _ _ _ rfl) rfl) ?_
            refine son rfl rfl rfl ?_
            refine sv rfl (opv_len_sl si22 rfl) ?_
            refine son rfl rfl rfl ?_
            refine sv rfl (opv_gtr rfl rfl) ?_
            refine son rfl rfl rfl ?_
            refine sv rfl (opv_pick_t rfl rfl) ?_
            refine sv rfl (opv_pick_f rfl rfl) ?_
            refine sv rfl (opv_mv rfl) ?_
            refine ssplit 94 rfl (fun hc => ?_) (fun hc => ?_)
            · replace h := ite_t hc h
              clear hc
              refine soff rfl rfl rfl rfl ?_
              refine soff rfl rfl rfl rfl ?_
              refine soff rfl rfl rfl rfl ?_
              refine soff rfl rfl rfl rfl ?_
              refine sv rfl (opv_pick_t rfl rfl) ?_
              refine sv rfl (opv_mv rfl) ?_
              refine soff rfl rfl rfl rfl ?_
              refine soff rfl rfl rfl rfl ?_
              refine soff rfl rfl rfl rfl ?_
              refine soff rfl rfl rfl rfl ?_
              refine soffu rfl rfl rfl ?_
              refine soffu rfl rfl rfl ?_
              refine soffu rfl rfl rfl ?_
              refine soffu rfl rfl rfl ?_
              refine soff rfl rfl rfl rfl ?_
              refine sv rfl (opv_pick_t rfl rfl) ?_
              refine snil ?_
              refine ccond rfl (fun _ => ?_) (fun hx => Bool.noConfusion hx)
              refine cseq ?_
              refine cregion ?_
              refine sv rfl (opv_as rfl) ?_
              refine snil ?_
              refine cret ?_
              refine then_ret ?_
              obtain rfl := Option.some.inj h
              refine ⟨Or.inr rfl, _, _, _, (resVs_cons (ResV.tmp _ _ rfl) resVs_nil), (pubA_id rfl), ?_⟩
              rfl
            · replace h := ite_f hc h
              clear hc
              refine son rfl rfl rfl ?_
              refine sv rfl (opv_fieldAddr_lp fi26_6 rfl) ?_
              refine son rfl rfl rfl ?_
              refine sv rfl (opv_load1 ti22 rfl (.lp _ _ _ rfl) rfl) ?_
              refine son rfl rfl rfl ?_
              refine sv rfl (opv_len_sl si22 rfl) ?_
              refine son rfl rfl rfl ?_
              refine sv rfl (opv_gtr rfl rfl) ?_
              refine sv rfl (opv_pick_f rfl rfl) ?_
              refine sv rfl (opv_mv rfl) ?_
              refine ssplit 100 rfl (fun hc => ?_) (fun hc => ?_)
              · replace h := ite_t hc h
                clear hc
                refine soff rfl rfl rfl rfl ?_
                refine soff rfl rfl rfl rfl ?_
                refine soff rfl rfl rfl rfl ?_
                refine soff rfl rfl rfl rfl ?_
                refine soffu rfl rfl rfl ?_
                refine soffu rfl rfl rfl ?_
                refine soffu rfl rfl rfl ?_
                refine soffu rfl rfl rfl ?_
                refine soff rfl rfl rfl rfl ?_
                refine sv rfl (opv_pick_t rfl rfl) ?_
                refine snil ?_
                refine ccond rfl (fun _ => ?_) (fun hx => Bool.noConfusion hx)
                refine cseq ?_
                refine cregion ?_
                refine sv rfl (opv_as rfl) ?_
                refine snil ?_
                refine cret ?_
                refine then_ret ?_
                obtain rfl := Option.some.inj h
                refine ⟨Or.inr rfl, _, _, _, (resVs_cons (ResV.tmp _ _ rfl) resVs_nil), (pubA_id rfl), ?_⟩
                rfl
              · replace h := ite_f hc h
                clear hc
                refine son rfl rfl rfl ?_
                refine sv rfl (opv_mv rfl) ?_
                refine son rfl rfl rfl ?_
                obtain ⟨v11, hv11, h⟩ := bind_eq h
                refine scall1 rfl fn43 (opnds_cons rfl opnds_nil) (pubA_id rfl) (m43_r05_val_c hv11) ?_
                refine son rfl rfl rfl ?_
                refine sv rfl (opv_not rfl) ?_
                refine son rfl rfl rfl ?_
                refine sv rfl (opv_mv rfl) ?_
                refine ssplit 104 rfl (fun hc => ?_) (fun hc => ?_)
                · replace h := ite_t hc h
                  clear hc
                  refine son rfl rfl rfl ?_
                  refine sv rfl (opv_fieldAddr_lp fi26_6 rfl) ?_
                  refine son rfl rfl rfl ?_
                  refine sv rfl (opv_load1 ti22 rfl (.lp _ _ _ rfl) rfl) ?_
                  refine son rfl rfl rfl ?_
                  refine sv rfl (opv_len_sl si22 rfl) ?_
                  refine son rfl rfl rfl ?_
                  refine sv rfl (opv_gtr rfl rfl) ?_
                  refine son rfl rfl rfl ?_
                  refine sv rfl (opv_pick_t rfl rfl) ?_
                  refine sv rfl (opv_pick_f rfl rfl) ?_
                  refine snil ?_
                  refine ccond rfl (fun hc => ?_) (fun hc => ?_)
                  · replace h := ite_t hc h
                    clear hc
                    refine cseq ?_
                    refine cregion ?_
                    refine sv rfl (opv_as rfl) ?_
                    refine snil ?_
                    refine cret ?_
                    refine then_ret ?_
                    obtain rfl := Option.some.inj h
                    refine ⟨Or.inr rfl, _, _, _, (resVs_cons (ResV.tmp _ _ rfl) resVs_nil), (pubA_id rfl), ?_⟩
                    rfl
                  · replace h := ite_f hc h
                    clear hc
                    refine cskip ?_
                    refine then_normal ?_
                    exact ⟨(), _, h, ⟨rfl, rfl, trivial⟩, rfl⟩
                · replace h := ite_f hc h
                  clear hc
                  refine soff rfl rfl rfl rfl ?_
                  refine soff rfl rfl rfl rfl ?_
                  refine soff rfl rfl rfl rfl ?_
                  refine soff rfl rfl rfl rfl ?_
                  refine son rfl rfl rfl ?_
                  refine sv rfl (opv_pick_f rfl rfl) ?_
                  refine sv rfl (opv_pick_f rfl rfl) ?_
                  refine snil ?_
                  refine ccond rfl (fun hx => Bool.noConfusion hx) (fun _ => ?_)
                  refine cskip ?_
                  refine then_normal ?_
                  exact ⟨(), _, h, ⟨rfl, rfl, trivial⟩, rfl⟩
          · replace h := ite_f hc h
            clear hc
            refine soff rfl rfl rfl rfl ?_
            refine soff rfl rfl rfl rfl ?_
            refine soff rfl rfl rfl rfl ?_
            refine soff rfl rfl rfl rfl ?_
            refine son rfl rfl rfl ?_
            refine sv rfl (opv_pick_f rfl rfl) ?_
            refine sv rfl (opv_pick_f rfl rfl) ?_
            refine sv rfl (opv_mv rfl) ?_
            refine son rfl rfl rfl ?_
            refine sv rfl (opv_fieldAddr_lp fi26_6 rfl) ?_
            refine son rfl rfl rfl ?_
            refine sv rfl (opv_load1 ti22 rfl (.lp _ _ _ rfl) rfl) ?_
            refine son rfl rfl rfl ?_
            refine sv rfl (opv_len_sl si22 rfl) ?_
            refine son rfl rfl rfl ?_
            refine sv rfl (opv_gtr rfl rfl) ?_
            refine sv rfl (opv_pick_f rfl rfl) ?_
            refine sv rfl (opv_mv rfl) ?_
            refine ssplit 100 rfl (fun hc => ?_) (fun hc => ?_)
            · replace h := ite_t hc h
              clear hc
              refine soff rfl rfl rfl rfl ?_
              refine soff rfl rfl rfl rfl ?_
              refine soff rfl rfl rfl rfl ?_
              refine soff rfl rfl rfl rfl ?_
              refine soffu rfl rfl rfl ?_
              refine soffu rfl rfl rfl ?_
              refine soffu rfl rfl rfl ?_
              refine soffu rfl rfl rfl ?_
              refine soff rfl rfl rfl rfl ?_
              refine sv rfl (opv_pick_t rfl rfl) ?_
              refine snil ?_
              refine ccond rfl (fun _ => ?_) (fun hx => Bool.noConfusion hx)
              refine cseq ?_
              refine cregion ?_
              refine sv rfl (opv_as rfl) ?_
              refine snil ?_
              refine cret ?_
              refine then_ret ?_
              obtain rfl := Option.some.inj h
              refine ⟨Or.inr rfl, _, _, _, (resVs_cons (ResV.tmp _ _ rfl) resVs_nil), (pubA_id rfl), ?_⟩
              rfl
            · replace h := ite_f hc h
              clear hc
              refine son rfl rfl rfl ?_
              refine sv rfl (opv_mv rfl) ?_
              refine son rfl rfl rfl ?_
              obtain ⟨v12, hv12, h⟩ := bind_eq h
              refine scall1 rfl fn43 (opnds_cons rfl opnds_nil) (pubA_id rfl) (m43_r05_val_c hv12) ?_
              refine son rfl rfl rfl ?_
              refine sv rfl (opv_not rfl) ?_
              refine son rfl rfl rfl ?_
              refine sv rfl (opv_mv rfl) ?_
              refine ssplit 104 rfl (fun hc => ?_) (fun hc => ?_)
              · replace h := ite_t hc h
                clear hc
                refine son rfl rfl rfl ?_
                refine sv rfl (opv_fieldAddr_lp fi26_6 rfl) ?_
                refine son rfl rfl rfl ?_
                refine sv rfl (opv_load1 ti22 rfl (.lp _ _ _ rfl) rfl) ?_
                refine son rfl rfl rfl ?_
                refine sv rfl (opv_len_sl si22 rfl) ?_
                refine son rfl rfl rfl ?_
                refine sv rfl (opv_gtr rfl rfl) ?_
                refine son rfl rfl rfl ?_
                refine sv rfl (opv_pick_t rfl rfl) ?_
                refine sv rfl (opv_pick_f rfl rfl) ?_
                refine snil ?_
                refine ccond rfl (fun hc => ?_) (fun hc => ?_)
                · replace h := ite_t hc h
                  clear hc
                  refine cseq ?_
                  refine cregion ?_
                  refine sv rfl (opv_as rfl) ?_
                  refine snil ?_
                  refine cret ?_
                  refine then_ret ?_
                  obtain rfl := Option.some.inj h
                  refine ⟨Or.inr rfl, _, _, _, (resVs_cons (ResV.tmp _ _ rfl) resVs_nil), (pubA_id rfl), ?_⟩
                  rfl
                · replace h := ite_f hc h
                  clear hc
                  refine cskip ?_
                  refine then_normal ?_
                  exact ⟨(), _, h, ⟨rfl, rfl, trivial⟩, rfl⟩
              · replace h := ite_f hc h
                clear hc
                refine soff rfl rfl rfl rfl ?_
                refine soff rfl rfl rfl rfl ?_
                refine soff rfl rfl rfl rfl ?_
                refine soff rfl rfl rfl rfl ?_
                refine son rfl rfl rfl ?_
                refine sv rfl (opv_pick_f rfl rfl) ?_
                refine sv rfl (opv_pick_f rfl rfl) ?_
                refine snil ?_
                refine ccond rfl (fun hx => Bool.noConfusion hx) (fun _ => ?_)
                refine cskip ?_
                refine then_normal ?_
                exact ⟨(), _, h, ⟨rfl, rfl, trivial⟩, rfl⟩
    · skip
      refine cregion ?_
      refine sv rfl (opv_mv rfl) ?_
      obtain ⟨v13, hv13, h⟩ := bind_eq h
      refine scall1 rfl fn37 (opnds_cons rfl opnds_nil) (pubA_id rfl) (m37_r05_token_c hv13) ?_
      refine sv rfl (opv_not rfl) ?_
      refine sv rfl (opv_mv rfl) ?_
      refine ssplit 45 rfl (fun hc => ?_) (fun hc => ?_)
      · replace h := ite_t hc h
        clear hc
        refine son rfl rfl rfl ?_
        refine sv rfl (opv_fieldAddr_lp fi26_2 rfl) ?_
        refine son rfl rfl rfl ?_
        refine sv rfl (opv_load1 ti3 rfl (.lp _ _ _ rfl) rfl) ?_
        refine son rfl rfl rfl ?_
        refine sv rfl (opv_ineq rfl rfl) ?_
        refine sv rfl (opv_pick_t rfl rfl) ?_
        refine sv rfl (opv_mv rfl) ?_
        refine ssplit 50 rfl (fun hc => ?_) (fun hc => ?_)
        · replace h := ite_t hc h
          clear hc
          refine soff rfl rfl rfl rfl ?_
          refine soff rfl rfl rfl rfl ?_
          refine soff rfl rfl rfl rfl ?_
          refine soff rfl rfl rfl rfl ?_
          refine soffu rfl rfl rfl ?_
          refine soffu rfl rfl rfl ?_
          refine soffu rfl rfl rfl ?_
          refine soff rfl rfl rfl rfl ?_
          refine sv rfl (opv_pick_t rfl rfl) ?_
          refine sv rfl (opv_mv rfl) ?_
          refine soff rfl rfl rfl rfl ?_
          refine soff rfl rfl rfl rfl ?_
          refine soff rfl rfl rfl rfl ?_
          refine soff rfl rfl rfl rfl ?_
          refine soffu rfl rfl rfl ?_
          refine soffu rfl rfl rfl ?_
          refine soff rfl rfl rfl rfl ?_
          refine sv rfl (opv_pick_t rfl rfl) ?_
          refine snil ?_
          refine ccond rfl (fun _ => ?_) (fun hx => Bool.noConfusion hx)
          refine cseq ?_
          refine cregion ?_
          refine sv rfl (opv_as rfl) ?_
          refine snil ?_
          refine cret ?_
          refine then_ret ?_
          obtain rfl := Option.some.inj h
          refine ⟨Or.inr rfl, _, _, _, (resVs_cons (ResV.tmp _ _ rfl) resVs_nil), (pubA_id rfl), ?_⟩
          rfl
        · replace h := ite_f hc h
          clear hc
          refine son rfl rfl rfl ?_
          refine sv rfl (opv_mv rfl) ?_
          refine son rfl rfl rfl ?_
          obtain ⟨v14, hv14, h⟩ := bind_eq h
          refine scall1 rfl fn38 (opnds_cons rfl opnds_nil) (pubA_id rfl) (m38_r05_attempt_c hv14) ?_
          refine son rfl rfl rfl ?_
          refine sv rfl (opv_not rfl) ?_
          refine son rfl rfl rfl ?_
          refine sv rfl (opv_mv rfl) ?_
          refine ssplit 54 rfl (fun hc => ?_) (fun hc => ?_)
          · replace h := ite_t hc h
            clear hc
            refine son rfl rfl rfl ?_
            refine sv rfl (opv_fieldAddr_lp fi26_3 rfl) ?_
            refine son rfl rfl rfl ?_
            refine sv rfl (opv_load1 ti3 rfl (.lp _ _ _ rfl) rfl) ?_
            refine son rfl rfl rfl ?_
            refine sv rfl (opv_ineq rfl rfl) ?_
            refine son rfl rfl rfl ?_
            refine sv rfl (opv_pick_t rfl rfl) ?_
            refine sv rfl (opv_pick_f rfl rfl) ?_
            refine sv rfl (opv_mv rfl) ?_
            refine ssplit 60 rfl (fun hc => ?_) (fun hc => ?_)
            · replace h := ite_t hc h
              clear hc
              refine soff rfl rfl rfl rfl ?_
              refine soff rfl rfl rfl rfl ?_
              refine soff rfl rfl rfl rfl ?_
              refine soff rfl rfl rfl rfl ?_
              refine soffu rfl rfl rfl ?_
              refine soffu rfl rfl rfl ?_
              refine soff rfl rfl rfl rfl ?_
              refine sv rfl (opv_pick_t rfl rfl) ?_
              refine snil ?_
              refine ccond rfl (fun _ => ?_) (fun hx => Bool.noConfusion hx)
              refine cseq ?_
              refine cregion ?_
              refine sv rfl (opv_as rfl) ?_
              refine snil ?_
              refine cret ?_
              refine then_ret ?_
              obtain rfl := Option.some.inj h
              refine ⟨Or.inr rfl, _, _, _, (resVs_cons (ResV.tmp _ _ rfl) resVs_nil), (pubA_id rfl), ?_⟩
              rfl
            · replace h := ite_f hc h
              clear hc
              refine son rfl rfl rfl ?_
              refine sv rfl (opv_mv rfl) ?_
              refine son rfl rfl rfl ?_
              obtain ⟨v15, hv15, h⟩ := bind_eq h
              refine scall1 rfl fn39 (opnds_cons rfl opnds_nil) (pubA_id rfl) (m39_r05_flag_c hv15) ?_
              refine son rfl rfl rfl ?_
              refine sv rfl (opv_not rfl) ?_
              refine son rfl rfl rfl ?_
              refine sv rfl (opv_mv rfl) ?_
              refine ssplit 64 rfl (fun hc => ?_) (fun hc => ?_)
              · replace h := ite_t hc h
                clear hc
                refine son rfl rfl rfl ?_
                refine sv rfl (opv_fieldAddr_lp fi26_4 rfl) ?_
                refine son rfl rfl rfl ?_
                refine sv rfl (opv_load1 ti4 rfl (.lp _ _ _ rfl) rfl) ?_
                refine son rfl rfl rfl ?_
                refine sv rfl (opv_pick_t rfl rfl) ?_
                refine sv rfl (opv_pick_f rfl rfl) ?_
                refine snil ?_
                refine ccond rfl (fun hc => ?_) (fun hc => ?_)
                · replace h := ite_t hc h
                  clear hc
                  refine cseq ?_
                  refine cregion ?_
                  refine sv rfl (opv_as rfl) ?_
                  refine snil ?_
                  refine cret ?_
                  refine then_ret ?_
                  obtain rfl := Option.some.inj h
                  refine ⟨Or.inr rfl, _, _, _, (resVs_cons (ResV.tmp _ _ rfl) resVs_nil), (pubA_id rfl), ?_⟩
                  rfl
                · replace h := ite_f hc h
                  clear hc
                  refine cskip ?_
                  refine then_normal ?_
                  exact ⟨(), _, h, ⟨rfl, rfl, trivial⟩, rfl⟩
              · replace h := ite_f hc h
                clear hc
                refine soff rfl rfl rfl rfl ?_
                refine soff rfl rfl rfl rfl ?_
                refine son rfl rfl rfl ?_
                refine sv rfl (opv_pick_f rfl rfl) ?_
                refine sv rfl (opv_pick_f rfl rfl) ?_
                refine snil ?_
                refine ccond rfl (fun hx => Bool.noConfusion hx) (fun _ => ?_)
                refine cskip ?_
                refine then_normal ?_
                exact ⟨(), _, h, ⟨rfl, rfl, trivial⟩, rfl⟩
          · replace h := ite_f hc h
            clear hc
            refine soff rfl rfl rfl rfl ?_
            refine soff rfl rfl rfl rfl ?_
            refine soff rfl rfl rfl rfl ?_
            refine son rfl rfl rfl ?_
            refine sv rfl (opv_pick_f rfl rfl) ?_
            refine sv rfl (opv_pick_f rfl rfl) ?_
            refine sv rfl (opv_mv rfl) ?_
            refine son rfl rfl rfl ?_
            refine sv rfl (opv_mv rfl) ?_
            refine son rfl rfl rfl ?_
            obtain ⟨v16, hv16, h⟩ := bind_eq h
            refine scall1 rfl fn39 (opnds_cons rfl opnds_nil) (pubA_id rfl) (m39_r05_flag_c hv16) ?_
            refine son rfl rfl rfl ?_
            refine sv rfl (opv_not rfl) ?_
            refine son rfl rfl rfl ?_
            refine sv rfl (opv_mv rfl) ?_
            refine ssplit 64 rfl (fun hc => ?_) (fun hc => ?_)
            · replace h := ite_t hc h
              clear hc
              refine son rfl rfl rfl ?_
              refine sv rfl (opv_fieldAddr_lp fi26_4 rfl) ?_
              refine son rfl rfl rfl ?_
              refine sv rfl (opv_load1 ti4 rfl (.lp _ _ _ rfl) rfl) ?_
              refine son rfl rfl rfl ?_
              refine sv rfl (opv_pick_t rfl rfl) ?_
              refine sv rfl (opv_pick_f rfl rfl) ?_
              refine snil ?_
              refine ccond rfl (fun hc => ?_) (fun hc => ?_)
              · replace h := ite_t hc h
                clear hc
                refine cseq ?_
                refine cregion ?_
                refine sv rfl (opv_as rfl) ?_
                refine snil ?_
                refine cret ?_
                refine then_ret ?_
                obtain rfl := Option.some.inj h
                refine ⟨Or.inr rfl, _, _, _, (resVs_cons (ResV.tmp _ _ rfl) resVs_nil), (pubA_id rfl), ?_⟩
                rfl
              · replace h := ite_f hc h
                clear hc
                refine cskip ?_
                refine then_normal ?_
                exact ⟨(), _, h, ⟨rfl, rfl, trivial⟩, rfl⟩
            · replace h := ite_f hc h
              clear hc
              refine soff rfl rfl rfl rfl ?_
              refine soff rfl rfl rfl rfl ?_
              refine son rfl rfl rfl ?_
              refine sv rfl (opv_pick_f rfl rfl) ?_
              refine sv rfl (opv_pick_f rfl rfl) ?_
              refine snil ?_
              refine ccond rfl (fun hx => Bool.noConfusion hx) (fun _ => ?_)
              refine cskip ?_
              refine then_normal ?_
              exact ⟨(), _, h, ⟨rfl, rfl, trivial⟩, rfl⟩
      · replace h := ite_f hc h
        clear hc
        refine soff rfl rfl rfl rfl ?_
        refine soff rfl rfl rfl rfl ?_
        refine soff rfl rfl rfl rfl ?_
        refine sv rfl (opv_pick_f rfl rfl) ?_
        refine sv rfl (opv_mv rfl) ?_
        refine son rfl rfl rfl ?_
        refine sv rfl (opv_mv rfl) ?_
        refine son rfl rfl rfl ?_
        obtain ⟨v17, hv17, h⟩ := bind_eq h
        refine scall1 rfl fn38 (opnds_cons rfl opnds_nil) (pubA_id rfl) (m38_r05_attempt_c hv17) ?_
        refine son rfl rfl rfl ?_
        refine sv rfl (opv_not rfl) ?_
        refine son rfl rfl rfl ?_
        refine sv rfl (opv_mv rfl) ?_
        refine ssplit 54 rfl (fun hc => ?_) (fun hc => ?_)
        · replace h := ite_t hc h
          clear hc
          refine son rfl rfl rfl ?_
          refine sv rfl (opv_fieldAddr_lp fi26_3 rfl) ?_
          refine son rfl rfl rfl ?_
          refine sv rfl (opv_load1 ti3 rfl (.lp _ _ _ rfl) rfl) ?_
          refine son rfl rfl rfl ?_
          refine sv rfl (opv_ineq rfl rfl) ?_
          refine son rfl rfl rfl ?_
          refine sv rfl (opv_pick_t rfl rfl) ?_
          refine sv rfl (opv_pick_f rfl rfl) ?_
          refine sv rfl (opv_mv rfl) ?_
          refine ssplit 60 rfl (fun hc => ?_) (fun hc => ?_)
          · replace h := ite_t hc h
            clear hc
            refine soff rfl rfl rfl rfl ?_
            refine soff rfl rfl rfl rfl ?_
            refine soff rfl rfl rfl rfl ?_
            refine soff rfl rfl rfl rfl ?_
            refine soffu rfl rfl rfl ?_
            refine soffu rfl rfl rfl ?_
            refine soff rfl rfl rfl rfl ?_
            refine sv rfl (opv_pick_t rfl rfl) ?_
            refine snil ?_
            refine ccond rfl (fun _ => ?_) (fun hx => Bool.noConfusion hx)
            refine cseq ?_
            refine cregion ?_
            refine sv rfl (opv_as rfl) ?_
            refine snil ?_
            refine cret ?_
            refine then_ret ?_
            obtain rfl := Option.some.inj h
            refine ⟨Or.inr rfl, _, _, _, (resVs_cons (ResV.tmp _ _ rfl) resVs_nil), (pubA_id rfl), ?_⟩
            rfl
          · replace h := ite_f hc h
            clear hc
            refine son rfl rfl rfl ?_
            refine sv rfl (opv_mv rfl) ?_
            refine son rfl rfl rfl ?_
            obtain ⟨v18, hv18, h⟩ := bind_eq h
            refine scall1 rfl fn39 (opnds_cons rfl opnds_nil) (pubA_id rfl) (m39_r05_flag_c hv18) ?_
            refine son rfl rfl rfl ?_
            refine sv rfl (opv_not rfl) ?_
            refine son rfl rfl rfl ?_
            refine sv rfl (opv_mv rfl) ?_
            refine ssplit 64 rfl (fun hc => ?_) (fun hc => ?_)
            · replace h := ite_t hc h
              clear hc
              refine son rfl rfl rfl ?_
              refine sv rfl (opv_fieldAddr_lp fi26_4 rfl) ?_
              refine son rfl rfl rfl ?_
              refine sv rfl (opv_load1 ti4 rfl (.lp _ _ _ rfl) rfl) ?_
              refine son rfl rfl rfl ?_
              refine sv rfl (opv_pick_t rfl rfl) ?_
              refine sv rfl (opv_pick_f rfl rfl) ?_
              refine snil ?_
              refine ccond rfl (fun hc => ?_) (fun hc => ?_)
              · replace h := ite_t hc h
                clear hc
                refine cseq ?_
                refine cregion ?_
                refine sv rfl (opv_as rfl) ?_
                refine snil ?_
                refine cret ?_
                refine then_ret ?_
                obtain rfl := Option.some.inj h
                refine ⟨Or.inr rfl, _, _, _, (resVs_cons (ResV.tmp _ _ rfl) resVs_nil), (pubA_id rfl), ?_⟩
                rfl
              · replace h := ite_f hc h
                clear hc
                refine cskip ?_
                refine then_normal ?_
                exact ⟨(), _, h, ⟨rfl, rfl, trivial⟩, rfl⟩
            · replace h := ite_f hc h
              clear hc
              refine soff rfl rfl rfl rfl ?_
              refine soff rfl rfl rfl rfl ?_
              refine son rfl rfl rfl ?_
              refine sv rfl (opv_pick_f rfl rfl) ?_
              refine sv rfl (opv_pick_f rfl rfl) ?_
              refine snil ?_
              refine ccond rfl (fun hx => Bool.noConfusion hx) (fun _ => ?_)
              refine cskip ?_
              refine then_normal ?_
              exact ⟨(), _, h, ⟨rfl, rfl, trivial⟩, rfl⟩
        · replace h := ite_f hc h
          clear hc
          refine soff rfl rfl rfl rfl ?_
          refine soff rfl rfl rfl rfl ?_
          refine soff rfl rfl rfl rfl ?_
          refine son rfl rfl rfl ?_
          refine sv rfl (opv_pick_f rfl rfl) ?_
          refine sv rfl (opv_pick_f rfl rfl) ?_
          refine sv rfl (opv_mv rfl) ?_
          refine son rfl rfl rfl ?_
          refine sv rfl (opv_mv rfl) ?_
          refine son rfl rfl rfl ?_
          obtain ⟨v19, hv19, h⟩ := bind_eq h
          refine scall1 rfl fn39 (opnds_cons rfl opnds_nil) (pubA_id rfl) (m39_r05_flag_c hv19) ?_
          refine son rfl rfl rfl ?_
          refine sv rfl (opv_not rfl) ?_
          refine son rfl rfl rfl ?_
          refine sv rfl (opv_mv rfl) ?_
          refine ssplit 64 rfl (fun hc => ?_) (fun hc => ?_)
          · replace h := ite_t hc h
            clear hc
            refine son rfl rfl rfl ?_
            refine sv rfl (opv_fieldAddr_lp fi26_4 rfl) ?_
            refine son rfl rfl rfl ?_
            refine sv rfl (opv_load1 ti4 rfl (.lp _ _ _ rfl) rfl) ?_
            refine son rfl rfl rfl ?_
            refine sv rfl (opv_pick_t rfl rfl) ?_
            refine sv rfl (opv_pick_f rfl rfl) ?_
            refine snil ?_
            refine ccond rfl (fun hc => ?_) (fun hc => ?_)
            · replace h := ite_t hc h
              clear hc
              refine cseq ?_
              refine cregion ?_
              refine sv rfl (opv_as rfl) ?_
              refine snil ?_
              refine cret ?_
              refine then_ret ?_
              obtain rfl := Option.some.inj h
              refine ⟨Or.inr rfl, _, _, _, (resVs_cons (ResV.tmp _ _ rfl) resVs_nil), (pubA_id rfl), ?_⟩
              rfl
            · replace h := ite_f hc h
              clear hc
              refine cskip ?_
              refine then_normal ?_
              exact ⟨(), _, h, ⟨rfl, rfl, trivial⟩, rfl⟩
          · replace h := ite_f hc h
            clear hc
            refine soff rfl rfl rfl rfl ?_
            refine soff rfl rfl rfl rfl ?_
            refine son rfl rfl rfl ?_
            refine sv rfl (opv_pick_f rfl rfl) ?_
            refine sv rfl (opv_pick_f rfl rfl) ?_
            refine snil ?_
            refine ccond rfl (fun hx => Bool.noConfusion hx) (fun _ => ?_)
            refine cskip ?_
            refine then_normal ?_
            exact ⟨(), _, h, ⟨rfl, rfl, trivial⟩, rfl⟩
  · skip
    refine cregion ?_
    refine sv rfl (opv_mv rfl) ?_
    refine sv rfl (opv_lss rfl rfl) ?_
    refine sv rfl (opv_mv rfl) ?_
    refine ssplit 8 rfl (fun hc => ?_) (fun hc => ?_)
    · replace h := ite_t hc h
      clear hc
      refine soff rfl rfl rfl rfl ?_
      refine soff rfl rfl rfl rfl ?_
      refine sv rfl (opv_pick_t rfl rfl) ?_
      refine sv rfl (opv_mv rfl) ?_
      refine soff rfl rfl rfl rfl ?_
      refine soff rfl rfl rfl rfl ?_
      refine soff rfl rfl rfl rfl ?_
      refine sv rfl (opv_pick_t rfl rfl) ?_
      refine sv rfl (opv_mv rfl) ?_
      refine soff rfl rfl rfl rfl ?_
      refine soff rfl rfl rfl rfl ?_
      refine soff rfl rfl rfl rfl ?_
      refine sv rfl (opv_pick_t rfl rfl) ?_
      refine sv rfl (opv_mv rfl) ?_
      refine soff rfl rfl rfl rfl ?_
      refine soff rfl rfl rfl rfl ?_
      refine soff rfl rfl rfl rfl ?_
      refine sv rfl (opv_pick_t rfl rfl) ?_
      refine sv rfl (opv_mv rfl) ?_
      refine soff rfl rfl rfl rfl ?_
      refine soff rfl rfl rfl rfl ?_
      refine soff rfl rfl rfl rfl ?_
      refine sv rfl (opv_pick_t rfl rfl) ?_
      refine sv rfl (opv_mv rfl) ?_
      refine soff rfl rfl rfl rfl ?_
      refine soff rfl rfl rfl rfl ?_
      refine soff rfl rfl rfl rfl ?_
      refine sv rfl (opv_pick_t rfl rfl) ?_
      refine sv rfl (opv_mv rfl) ?_
      refine soff rfl rfl rfl rfl ?_
      refine soff rfl rfl rfl rfl ?_
      refine soff rfl rfl rfl rfl ?_
      refine sv rfl (opv_pick_t rfl rfl) ?_
      refine snil ?_
      refine ccond rfl (fun _ => ?_) (fun hx => Bool.noConfusion hx)
      refine cseq ?_
      refine cregion ?_
      refine sv rfl (opv_as rfl) ?_
      refine snil ?_
      refine cret ?_
      refine then_ret ?_
      obtain rfl := Option.some.inj h
      refine ⟨Or.inr rfl, _, _, _, (resVs_cons (ResV.tmp _ _ rfl) resVs_nil), (pubA_id rfl), ?_⟩
      rfl
    · replace h := ite_f hc h
      clear hc
      refine son rfl rfl rfl ?_
      refine sv rfl (opv_mv rfl) ?_
      refine son rfl rfl rfl ?_
      refine sv rfl (opv_gtr rfl rfl) ?_
      refine sv rfl (opv_pick_f rfl rfl) ?_
      refine sv rfl (opv_mv rfl) ?_
      refine ssplit 12 rfl (fun hc => ?_) (fun hc => ?_)
      · replace h := ite_t hc h
        clear hc
        refine soff rfl rfl rfl rfl ?_
        refine soff rfl rfl rfl rfl ?_
        refine soff rfl rfl rfl rfl ?_
        refine sv rfl (opv_pick_t rfl rfl) ?_
        refine sv rfl (opv_mv rfl) ?_
        refine soff rfl rfl rfl rfl ?_
        refine soff rfl rfl rfl rfl ?_
        refine soff rfl rfl rfl rfl ?_
        refine sv rfl (opv_pick_t rfl rfl) ?_
        refine sv rfl (opv_mv rfl) ?_
        refine soff rfl rfl rfl rfl ?_
        refine soff rfl rfl rfl rfl ?_
        refine soff rfl rfl rfl rfl ?_
        refine sv rfl (opv_pick_t rfl rfl) ?_
        refine sv rfl (opv_mv rfl) ?_
        refine soff rfl rfl rfl rfl ?_
        refine soff rfl rfl rfl rfl ?_
        refine soff rfl rfl rfl rfl ?_
        refine sv rfl (opv_pick_t rfl rfl) ?_
        refine sv rfl (opv_mv rfl) ?_
        refine soff rfl rfl rfl rfl ?_
        refine soff rfl rfl rfl rfl ?_
        refine soff rfl rfl rfl rfl ?_
        refine sv rfl (opv_pick_t rfl rfl) ?_
        refine sv rfl (opv_mv rfl) ?_
        refine soff rfl rfl rfl rfl ?_
        refine soff rfl rfl rfl rfl ?_
        refine soff rfl rfl rfl rfl ?_
        refine sv rfl (opv_pick_t rfl rfl) ?_
        refine snil ?_
        refine ccond rfl (fun _ => ?_) (fun hx => Bool.noConfusion hx)
        refine cseq ?_
        refine cregion ?_
        refine sv rfl (opv_as rfl) ?_
        refine snil ?_
        refine cret ?_
        refine then_ret ?_
        obtain rfl := Option.some.inj h
        refine ⟨Or.inr rfl, _, _, _, (resVs_cons (ResV.tmp _ _ rfl) resVs_nil), (pubA_id rfl), ?_⟩
        rfl
      · replace h := ite_f hc h
        clear hc
        refine son rfl rfl rfl ?_
        refine sv rfl (opv_fieldAddr_lp fi26_1 rfl) ?_
        refine son rfl rfl rfl ?_
        refine sv rfl (opv_load1 ti3 rfl (.lp _ _ _ rfl) rfl) ?_
        refine son rfl rfl rfl ?_
        refine sv rfl (opv_lss rfl rfl) ?_
        refine sv rfl (opv_pick_f rfl rfl) ?_
        refine sv rfl (opv_mv rfl) ?_
        refine ssplit 17 rfl (fun hc => ?_) (fun hc => ?_)
        · replace h := ite_t hc h
          clear hc
          refine soff rfl rfl rfl rfl ?_
          refine soff rfl rfl rfl rfl ?_
          refine soff rfl rfl rfl rfl ?_
          refine sv rfl (opv_pick_t rfl rfl) ?_
          refine sv rfl (opv_mv rfl) ?_
          refine soff rfl rfl rfl rfl ?_
          refine soff rfl rfl rfl rfl ?_
          refine soff rfl rfl rfl rfl ?_
          refine sv rfl (opv_pick_t rfl rfl) ?_
          refine sv rfl (opv_mv rfl) ?_
          refine soff rfl rfl rfl rfl ?_
          refine soff rfl rfl rfl rfl ?_
          refine soff rfl rfl rfl rfl ?_
          refine sv rfl (opv_pick_t rfl rfl) ?_
          refine sv rfl (opv_mv rfl) ?_
          refine soff rfl rfl rfl rfl ?_
          refine soff rfl rfl rfl rfl ?_
          refine soff rfl rfl rfl rfl ?_
          refine sv rfl (opv_pick_t rfl rfl) ?_
          refine sv rfl (opv_mv rfl) ?_
          refine soff rfl rfl rfl rfl ?_
          refine soff rfl rfl rfl rfl ?_
          refine soff rfl rfl rfl rfl ?_
          refine sv rfl (opv_pick_t rfl rfl) ?_
          refine snil ?_
          refine ccond rfl (fun _ => ?_) (fun hx => Bool.noConfusion hx)
          refine cseq ?_
          refine cregion ?_
          refine sv rfl (opv_as rfl) ?_
          refine snil ?_
          refine cret ?_
          refine then_ret ?_
          obtain rfl := Option.some.inj h
          refine ⟨Or.inr rfl, _, _, _, (resVs_cons (ResV.tmp _ _ rfl) resVs_nil), (pubA_id rfl), ?_⟩
          rfl
        · replace h := ite_f hc h
          clear hc
          refine son rfl rfl rfl ?_
          refine sv rfl (opv_fieldAddr_lp fi26_1 rfl) ?_
          refine son rfl rfl rfl ?_
          refine sv rfl (opv_load1 ti3 rfl (.lp _ _ _ rfl) rfl) ?_
          refine son rfl rfl rfl ?_
          refine sv rfl (opv_gtr rfl rfl) ?_
          refine sv rfl (opv_pick_f rfl rfl) ?_
          refine sv rfl (opv_mv rfl) ?_
          refine ssplit 22 rfl (fun hc => ?_) (fun hc => ?_)
          · replace h := ite_t hc h
            clear hc
            refine soff rfl rfl rfl rfl ?_
            refine soff rfl rfl rfl rfl ?_
            refine soff rfl rfl rfl rfl ?_
            refine sv rfl (opv_pick_t rfl rfl) ?_
            refine sv rfl (opv_mv rfl) ?_
            refine soff rfl rfl rfl rfl ?_
            refine soff rfl rfl rfl rfl ?_
            refine soff rfl rfl rfl rfl ?_
            refine sv rfl (opv_pick_t rfl rfl) ?_
            refine sv rfl (opv_mv rfl) ?_
            refine soff rfl rfl rfl rfl ?_
            refine soff rfl rfl rfl rfl ?_
            refine soff rfl rfl rfl rfl ?_
            refine sv rfl (opv_pick_t rfl rfl) ?_
            refine sv rfl (opv_mv rfl) ?_
            refine soff rfl rfl rfl rfl ?_
            refine soff rfl rfl rfl rfl ?_
            refine soff rfl rfl rfl rfl ?_
            refine sv rfl (opv_pick_t rfl rfl) ?_
            refine snil ?_
            refine ccond rfl (fun _ => ?_) (fun hx => Bool.noConfusion hx)
            refine cseq ?_
            refine cregion ?_
            refine sv rfl (opv_as rfl) ?_
            refine snil ?_
            refine cret ?_
            refine then_ret ?_
            obtain rfl := Option.some.inj h
            refine ⟨Or.inr rfl, _, _, _, (resVs_cons (ResV.tmp _ _ rfl) resVs_nil), (pubA_id rfl), ?_⟩
            rfl
          · replace h := ite_f hc h
            clear hc
            refine son rfl rfl rfl ?_
            refine sv rfl (opv_fieldAddr_lp fi26_2 rfl) ?_
            refine son rfl rfl rfl ?_
            refine sv rfl (opv_load1 ti3 rfl (.lp _ _ _ rfl) rfl) ?_
            refine son rfl rfl rfl ?_
            refine sv rfl (opv_lss rfl rfl) ?_
            refine sv rfl (opv_pick_f rfl rfl) ?_
            refine sv rfl (opv_mv rfl) ?_
            refine ssplit 27 rfl (fun hc => ?_) (fun hc => ?_)
            · replace h := ite_t hc h
              clear hc
              refine soff rfl rfl rfl rfl ?_
              refine soff rfl rfl rfl rfl ?_
              refine soff rfl rfl rfl rfl ?_
              refine sv rfl (opv_pick_t rfl rfl) ?_
              refine sv rfl (opv_mv rfl) ?_
              refine soff rfl rfl rfl rfl ?_
              refine soff rfl rfl rfl rfl ?_
              refine soff rfl rfl rfl rfl ?_
              refine sv rfl (opv_pick_t rfl rfl) ?_
              refine sv rfl (opv_mv rfl) ?_
              refine soff rfl rfl rfl rfl ?_
              refine soff rfl rfl rfl rfl ?_
              refine soff rfl rfl rfl rfl ?_
              refine sv rfl (opv_pick_t rfl rfl) ?_
              refine snil ?_
              refine ccond rfl (fun _ => ?_) (fun hx => Bool.noConfusion hx)
              refine cseq ?_
              refine cregion ?_
              refine sv rfl (opv_as rfl) ?_
              refine snil ?_
              refine cret ?_
              refine then_ret ?_
              obtain rfl := Option.some.inj h
              refine ⟨Or.inr rfl, _, _, _, (resVs_cons (ResV.tmp _ _ rfl) resVs_nil), (pubA_id rfl), ?_⟩
              rfl
            · replace h := ite_f hc h
              clear hc
              refine son rfl rfl rfl ?_
              refine sv rfl (opv_fieldAddr_lp fi26_2 rfl) ?_
              refine son rfl rfl rfl ?_
              refine sv rfl (opv_load1 ti3 rfl (.lp _ _ _ rfl) rfl) ?_
              refine son rfl rfl rfl ?_
              refine sv rfl (opv_gtr rfl rfl) ?_
              refine sv rfl (opv_pick_f rfl rfl) ?_
              refine sv rfl (opv_mv rfl) ?_
              refine ssplit 32 rfl (fun hc => ?_) (fun hc => ?_)
              · replace h := ite_t hc h
                clear hc
                refine soff rfl rfl rfl rfl ?_
                refine soff rfl rfl rfl rfl ?_
                refine soff rfl rfl rfl rfl ?_
                refine sv rfl (opv_pick_t rfl rfl) ?_
                refine sv rfl (opv_mv rfl) ?_
                refine soff rfl rfl rfl rfl ?_
                refine soff rfl rfl rfl rfl ?_
                refine soff rfl rfl rfl rfl ?_
                refine sv rfl (opv_pick_t rfl rfl) ?_
                refine snil ?_
                refine ccond rfl (fun _ => ?_) (fun hx => Bool.noConfusion hx)
                refine cseq ?_
                refine cregion ?_
                refine sv rfl (opv_as rfl) ?_
                refine snil ?_
                refine cret ?_
                refine then_ret ?_
                obtain rfl := Option.some.inj h
                refine ⟨Or.inr rfl, _, _, _, (resVs_cons (ResV.tmp _ _ rfl) resVs_nil), (pubA_id rfl), ?_⟩
                rfl
              · replace h := ite_f hc h
                clear hc
                refine son rfl rfl rfl ?_
                refine sv rfl (opv_fieldAddr_lp fi26_3 rfl) ?_
                refine son rfl rfl rfl ?_
                refine sv rfl (opv_load1 ti3 rfl (.lp _ _ _ rfl) rfl) ?_
                refine son rfl rfl rfl ?_
                refine sv rfl (opv_lss rfl rfl) ?_
                refine sv rfl (opv_pick_f rfl rfl) ?_
                refine sv rfl (opv_mv rfl) ?_
                refine ssplit 37 rfl (fun hc => ?_) (fun hc => ?_)
                · replace h := ite_t hc h
                  clear hc
                  refine soff rfl rfl rfl rfl ?_
                  refine soff rfl rfl rfl rfl ?_
                  refine soff rfl rfl rfl rfl ?_
                  refine sv rfl (opv_pick_t rfl rfl) ?_
                  refine snil ?_
                  refine ccond rfl (fun _ => ?_) (fun hx => Bool.noConfusion hx)
                  refine cseq ?_
                  refine cregion ?_
                  refine sv rfl (opv_as rfl) ?_
                  refine snil ?_
                  refine cret ?_
                  refine then_ret ?_
                  obtain rfl := Option.some.inj h
                  refine ⟨Or.inr rfl, _, _, _, (resVs_cons (ResV.tmp _ _ rfl) resVs_nil), (pubA_id rfl), ?_⟩
                  rfl
                · replace h := ite_f hc h
                  clear hc
                  refine son rfl rfl rfl ?_
                  refine sv rfl (opv_fieldAddr_lp fi26_3 rfl) ?_
                  refine son rfl rfl rfl ?_
                  refine sv rfl (opv_load1 ti3 rfl (.lp _ _ _ rfl) rfl) ?_
                  refine son rfl rfl rfl ?_
                  refine sv rfl (opv_gtr rfl rfl) ?_
                  refine sv rfl (opv_pick_f rfl rfl) ?_
                  refine snil ?_
                  refine ccond rfl (fun hc => ?_) (fun hc => ?_)
                  · replace h := ite_t hc h
                    clear hc
                    refine cseq ?_
                    refine cregion ?_
                    refine sv rfl (opv_as rfl) ?_
                    refine snil ?_
                    refine cret ?_
                    refine then_ret ?_
                    obtain rfl := Option.some.inj h
                    refine ⟨Or.inr rfl, _, _, _, (resVs_cons (ResV.tmp _ _ rfl) resVs_nil), (pubA_id rfl), ?_⟩
                    rfl
                  · replace h := ite_f hc h
                    clear hc
                    refine cskip ?_
                    refine then_normal ?_
                    exact ⟨(), _, h, ⟨rfl, rfl, trivial⟩, rfl⟩

def m36_r01_U_k2 (b2 : (List UInt8)) : Option (List UInt8) :=
  some b2

def m36_r01_U_k4 (s3 : (BitVec 64) × Int × (List UInt8)) (b4 : Unit) : Option (LB ((BitVec 64) × Int × (List UInt8)) ((List UInt8))) :=
  if (s3.2.2.length + [(UInt8.ofBitVec ((s3.1 % (256#64)).setWidth 8))].length) * 1 ≤ 140737488355328 then (some (.cont ((s3.1 / (256#64)), (wI (s3.2.1 + 1)), (s3.2.2 ++ [(UInt8.ofBitVec ((s3.1 % (256#64)).setWidth 8))])))) else none

def m36_r01_U_s3 (a2 : Int) (s3 : (BitVec 64) × Int × (List UInt8)) : Option (LB ((BitVec 64) × Int × (List UInt8)) ((List UInt8))) :=
  if (decide (s3.2.1 < a2)) then (if (decide (s3.2.1 < 8)) then (m36_r01_U_k4 s3 ()) else (some (.brk s3.2.2))) else (some (.brk s3.2.2))
def m36_r01_U (a0 : List UInt8) (a1 : BitVec 64) (a2 : Int) : Option (List UInt8) :=
  if (([] : List UInt8).length + a0.length) * 1 ≤ 140737488355328 then ((iterB (m36_r01_U_s3 a2) fuel (a1, 0, (([] : List UInt8) ++ a0))).bind fun e6 => m36_r01_U_k2 e6) else none

set_option maxRecDepth 100000 in
theorem m36_r01_U_c {a0 : List UInt8} {a1 : BitVec 64} {a2 : Int} {r : (List UInt8)} (h : m36_r01_U a0 a1 a2 = some r) : CallsA Tryd.prog 36 [.one (.sl a0.length (a0.flatMap eU8)), .one (.i .u64 (a1.toNat : Int)), .one (.i .i64 a2)] (· = .s (.one (.sl r.length (r.flatMap eU8)))) := by
  unfold m36_r01_U at h
  refine callsA_of Tryd.func36 rfl (nt := 30) rfl (Nat.le_of_ble_eq_true rfl) ?_
  intro w0 S0
  refine cseq ?_
  refine cregion ?_
  refine sv rfl (opv_as rfl) ?_
  refine snil ?_
  refine cseq ?_
  refine cregion ?_
  refine sbuild0 rfl Tryd.underlying22 ei5 ?_
  refine sv rfl (opv_mv rfl) ?_
  obtain ⟨hb1, h⟩ := chk_eq h
  refine sapp (f := eU8) (xs := ([] : List UInt8)) (us := a0) rfl Tryd.underlying22 ei5 ni22 (fun _ => rfl) rfl rfl (.one _ _ _ _ (.id _ rfl)) rfl rfl rfl (.sl _ _ _ (flat_len (f := eU8) (fun _ => rfl) _)) rfl rfl hb1 (by decide) ?_
  refine sv rfl (opv_as rfl) ?_
  refine snil ?_
  refine cseq ?_
  refine cseq ?_
  refine cregion ?_
  refine sv rfl (opv_as rfl) ?_
  refine snil ?_
  refine cjoin ((List UInt8)) (fun b2 => [(7, .s (.one (.ls 0 b2.length)))]) (fun b2 => [.arr 5 1 0 (b2.flatMap eU8)]) (fun b2 => m36_r01_U_k2 b2 = some r) (fun _ _ => inbL_of rfl) (fun _ _ => blkinb_of rfl) (fun _ _ => Nat.le_of_ble_eq_true rfl) (fun b2 h => ?_) ?_
  · unfold m36_r01_U_k2 at h
    refine cseq ?_
    refine cregion ?_
    refine sv rfl (opv_mv rfl) ?_
    refine sv rfl (opv_as rfl) ?_
    refine snil ?_
    refine cret ?_
    obtain rfl := Option.some.inj h
    refine ⟨Or.inr rfl, _, _, _, (resVs_cons (ResV.tmp _ _ rfl) resVs_nil), (by (repeat' first | exact PubA.nil _ | apply PubA.cons | apply PubV.one | apply PubV.agg | exact PubL.nil | exact PubL.ls _ _ _ _ _ _ rfl (flat_len (f := eU8) (fun _ => rfl) _).symm | exact PubL.id _ rfl | exact PubLs.nil _ | apply PubLs.cons)), ?_⟩
    rfl
  · skip
    refine cblock ?_
    obtain ⟨x3, hx3, ho3⟩ := bind_eq h
    refine awc_loop (G := Nat × ((BitVec 64) × Int × (List UInt8))) (fun g => [(1, .s (.one (.i .u64 (g.2.1.toNat : Int)))), (2, .s (.one (.i .i64 a2))), (7, .s (.one (.ls 0 g.2.2.2.length))), (8, .s (.one (.i .i64 g.2.2.1)))]) (fun g => [.arr 5 1 0 (g.2.2.2.flatMap eU8)]) (fun g => iterB (m36_r01_U_s3 a2) g.1 g.2 = some x3) (fun g => g.1) (fuel, (a1, 0, (([] : List UInt8) ++ a0))) hx3 ⟨rfl, rfl, rfl, rfl, trivial⟩ [] rfl (fun _ _ => inbL_of rfl) (fun _ _ => blkinb_of rfl) (fun _ _ => Nat.le_of_ble_eq_true rfl) ?_
    clear hx3 h
    rintro ⟨n3, s3⟩ h
    obtain ⟨n3, y3, rfl, h, hk3⟩ := iterB_eq h
    unfold m36_r01_U_s3 at h
    refine cseq ?_
    refine cseq ?_
    refine cjoin3 (Unit) (fun b4 => [(1, .s (.one (.i .u64 (s3.1.toNat : Int)))), (2, .s (.one (.i .i64 a2))), (7, .s (.one (.ls 0 s3.2.2.length))), (8, .s (.one (.i .i64 s3.2.1)))]) (fun b4 => [.arr 5 1 0 (s3.2.2.flatMap eU8)]) (fun b4 => m36_r01_U_k4 s3 b4 = some y3) (fun _ _ => inbL_of rfl) (fun _ _ => blkinb_of rfl) (fun _ _ => Nat.le_of_ble_eq_true rfl) (fun b4 h => ?_) ?_
    · unfold m36_r01_U_k4 at h
      refine cseq ?_
      refine cblock ?_
      refine cseq ?_
      refine cregion ?_
      refine sv rfl (opv_mv rfl) ?_
      refine sv rfl (opv_mv rfl) ?_
      refine sv rfl (opv_rem_u64 (a := s3.1) (b := 256#64) rfl rfl rfl rfl (by decide)) ?_
      refine sv rfl (opv_conv_bv (k := .u64) (a := (s3.1 % (256#64))) rfl Tryd.underlying69 Tryd.underlying5 rfl rfl) ?_
      refine sbuild1 rfl Tryd.underlying22 ei5 rfl rfl (List.all_eq_true.1 rfl) (by decide) ?_
      refine smem [.arr 5 1 0 (s3.2.2.flatMap eU8), .arr 5 1 0 ([(UInt8.ofBitVec ((s3.1 % (256#64)).setWidth 8))].flatMap eU8)] rfl ?_
      obtain ⟨hb5, h⟩ := chk_eq h
      refine sapp (f := eU8) (xs := s3.2.2) (us := [(UInt8.ofBitVec ((s3.1 % (256#64)).setWidth 8))]) rfl Tryd.underlying22 ei5 ni22 (fun _ => rfl) rfl rfl (.one _ _ _ _ (.ls _ _ _ _ _ _ rfl (flat_len (f := eU8) (fun _ => rfl) [(UInt8.ofBitVec ((s3.1 % (256#64)).setWidth 8))]).symm)) rfl rfl rfl (.sl _ _ _ (flat_len (f := eU8) (fun _ => rfl) _)) rfl rfl hb5 (by decide) ?_
      refine sv rfl (opv_as rfl) ?_
      refine snil ?_
      refine cregion ?_
      refine sv rfl (opv_mv rfl) ?_
      refine sv rfl (opv_quo_u64 (a := s3.1) (b := 256#64) rfl rfl rfl rfl (by decide)) ?_
      refine sv rfl (opv_as rfl) ?_
      refine snil0 ?_
      refine block_normal ?_
      refine then_normal ?_
      refine cregion ?_
      refine sv rfl (opv_mv rfl) ?_
      refine sv rfl (opv_add rfl rfl) ?_
      refine sv rfl (opv_as rfl) ?_
      refine snil ?_
      obtain rfl := Option.some.inj h
      exact ⟨(n3, ((s3.1 / (256#64)), (wI (s3.2.1 + 1)), (s3.2.2 ++ [(UInt8.ofBitVec ((s3.1 % (256#64)).setWidth 8))]))), _, hk3, ⟨rfl, rfl, rfl, rfl, trivial⟩, rfl, Nat.lt_succ_self _⟩
    · skip
      refine cregion ?_
      refine sv rfl (opv_mv rfl) ?_
      refine sv rfl (opv_mv rfl) ?_
      refine sv rfl (opv_lss rfl rfl) ?_
      refine sv rfl (opv_mv rfl) ?_
      refine ssplit 15 rfl (fun hc => ?_) (fun hc => ?_)
      · replace h := ite_t hc h
        clear hc
        refine son rfl rfl rfl ?_
        refine sv rfl (opv_mv rfl) ?_
        refine son rfl rfl rfl ?_
        refine sv rfl (opv_lss rfl rfl) ?_
        refine sv rfl (opv_pick_t rfl rfl) ?_
        refine snil ?_
        refine ccond rfl (fun hc => ?_) (fun hc => ?_)
        · replace h := ite_t hc h
          clear hc
          refine cskip ?_
          refine then_normal ?_
          exact ⟨(), _, h, ⟨rfl, rfl, rfl, rfl, trivial⟩, rfl⟩
        · replace h := ite_f hc h
          clear hc
          refine cexit ?_
          refine then_exit ?_
          refine then_exit ?_
          refine block_hit ?_
          refine then_normal ?_
          obtain rfl := Option.some.inj h
          obtain rfl : _ = x3 := hk3
          exact ⟨s3.2.2, _, ho3, ⟨rfl, trivial⟩, rfl⟩
      · replace h := ite_f hc h
        clear hc
        refine soff rfl rfl rfl rfl ?_
        refine soff rfl rfl rfl rfl ?_
        refine sv rfl (opv_pick_f rfl rfl) ?_
        refine snil ?_
        refine ccond rfl (fun hx => Bool.noConfusion hx) (fun _ => ?_)
        refine cexit ?_
        refine then_exit ?_
        refine then_exit ?_
        refine block_hit ?_
        refine then_normal ?_
        obtain rfl := Option.some.inj h
        obtain rfl : _ = x3 := hk3
        exact ⟨s3.2.2, _, ho3, ⟨rfl, trivial⟩, rfl⟩

def m40_r05_bit (a0 : Bool) : Option (BitVec 64) :=
  if a0 then (some (1#64)) else (some (0#64))

set_option maxRecDepth 100000 in
theorem m40_r05_bit_c {a0 : Bool} {r : (BitVec 64)} (h : m40_r05_bit a0 = some r) : CallsA Tryd.prog 40 [.one (.b a0)] (· = .s (.one (.i .u64 (r.toNat : Int)))) := by
  unfold m40_r05_bit at h
  refine callsA_of Tryd.func40 rfl (nt := 4) rfl (Nat.le_of_ble_eq_true rfl) ?_
  intro w0 S0
  refine cseq ?_
  refine cregion ?_
  refine sv rfl (opv_as rfl) ?_
  refine snil ?_
  refine cseq ?_
  refine cseq ?_
  refine cregion ?_
  refine sv rfl (opv_mv rfl) ?_
  refine snil ?_
  refine ccond rfl (fun hc => ?_) (fun hc => ?_)
  · replace h := ite_t hc h
    clear hc
    refine cseq ?_
    refine cregion ?_
    refine sv rfl (opv_as rfl) ?_
    refine snil ?_
    refine cret ?_
    refine then_ret ?_
    obtain rfl := Option.some.inj h
    refine ⟨Or.inr rfl, _, _, _, (resVs_cons (ResV.tmp _ _ rfl) resVs_nil), (pubA_id rfl), ?_⟩
    rfl
  · replace h := ite_f hc h
    clear hc
    refine cskip ?_
    refine then_normal ?_
    refine cseq ?_
    refine cregion ?_
    refine sv rfl (opv_as rfl) ?_
    refine snil ?_
    refine cret ?_
    obtain rfl := Option.some.inj h
    refine ⟨Or.inr rfl, _, _, _, (resVs_cons (ResV.tmp _ _ rfl) resVs_nil), (pubA_id rfl), ?_⟩
    rfl

def m36_r01_Uo_k2 (b2 : (List UInt8)) : Option (List UInt8) :=
  some b2

def m36_r01_Uo_k4 (s3 : (BitVec 64) × Int × (List UInt8)) (b4 : Unit) : Option (LB ((BitVec 64) × Int × (List UInt8)) ((List UInt8))) :=
  if (s3.2.2.length + [(UInt8.ofBitVec ((s3.1 % (256#64)).setWidth 8))].length) * 1 ≤ 140737488355328 then (some (.cont ((s3.1 / (256#64)), (wI (s3.2.1 + 1)), (s3.2.2 ++ [(UInt8.ofBitVec ((s3.1 % (256#64)).setWidth 8))])))) else none

def m36_r01_Uo_s3 (a2 : Int) (s3 : (BitVec 64) × Int × (List UInt8)) : Option (LB ((BitVec 64) × Int × (List UInt8)) ((List UInt8))) :=
  if (decide (s3.2.1 < a2)) then (if (decide (s3.2.1 < 8)) then (m36_r01_Uo_k4 s3 ()) else (some (.brk s3.2.2))) else (some (.brk s3.2.2))
def m36_r01_Uo (a0 : List UInt8) (a1 : BitVec 64) (a2 : Int) : Option (List UInt8) :=
  if (([] : List UInt8).length + a0.length) * 1 ≤ 140737488355328 then ((iterB (m36_r01_Uo_s3 a2) fuel (a1, 0, (([] : List UInt8) ++ a0))).bind fun e6 => m36_r01_Uo_k2 e6) else none

set_option maxRecDepth 100000 in
theorem m36_r01_Uo_c {a0 : List UInt8} {a1 : BitVec 64} {a2 : Int} {r : (List UInt8)} (h : m36_r01_Uo a0 a1 a2 = some r) : CallsB Tryd.prog 36 [] [.one (.sl a0.length (a0.flatMap eU8)), .one (.i .u64 (a1.toNat : Int)), .one (.i .i64 a2)] (fun y m' => y = .s (.one (.ls 0 r.length)) ∧ m' = [.arr 5 1 0 (r.flatMap eU8)]) := by
  unfold m36_r01_Uo at h
  refine callsB_of Tryd.func36 rfl (nt := 30) rfl (Nat.le_of_ble_eq_true rfl) ?_
  intro w0 S0 X0 H0
  refine cseq ?_
  refine cregion ?_
  refine sv rfl (opv_as rfl) ?_
  refine snil ?_
  refine cseq ?_
  refine cregion ?_
  refine sbuild0 rfl Tryd.underlying22 ei5 ?_
  refine sv rfl (opv_mv rfl) ?_
  obtain ⟨hb1, h⟩ := chk_eq h
  refine sapp (f := eU8) (xs := ([] : List UInt8)) (us := a0) rfl Tryd.underlying22 ei5 ni22 (fun _ => rfl) rfl rfl (.one _ _ _ _ (.id _ rfl)) rfl rfl rfl (.sl _ _ _ (flat_len (f := eU8) (fun _ => rfl) _)) rfl rfl hb1 (by decide) ?_
  refine sv rfl (opv_as rfl) ?_
  refine snil ?_
  refine cseq ?_
  refine cseq ?_
  refine cregion ?_
  refine sv rfl (opv_as rfl) ?_
  refine snil ?_
  refine cjoin ((List UInt8)) (fun b2 => [(7, .s (.one (.ls 0 b2.length)))]) (fun b2 => [.arr 5 1 0 (b2.flatMap eU8)]) (fun b2 => m36_r01_Uo_k2 b2 = some r) (fun _ _ => inbL_of rfl) (fun _ _ => blkinb_of rfl) (fun _ _ => Nat.le_of_ble_eq_true rfl) (fun b2 h => ?_) ?_
  · unfold m36_r01_Uo_k2 at h
    refine cseq ?_
    refine cregion ?_
    refine sv rfl (opv_mv rfl) ?_
    refine sv rfl (opv_as rfl) ?_
    refine snil ?_
    refine cret ?_
    obtain rfl := Option.some.inj h
    exact ⟨Or.inr rfl, _, [0], [.one (.ls 0 b2.length)], [.arr 5 1 0 (b2.flatMap eU8)], (resVs_cons (ResV.tmp _ _ rfl) resVs_nil), rfl, rfl, ⟨by decide, rfl⟩, rfl, rfl, ⟨rfl, rfl⟩⟩
  · skip
    refine cblock ?_
    obtain ⟨x3, hx3, ho3⟩ := bind_eq h
    refine awc_loop (G := Nat × ((BitVec 64) × Int × (List UInt8))) (fun g => [(1, .s (.one (.i .u64 (g.2.1.toNat : Int)))), (2, .s (.one (.i .i64 a2))), (7, .s (.one (.ls 0 g.2.2.2.length))), (8, .s (.one (.i .i64 g.2.2.1)))]) (fun g => [.arr 5 1 0 (g.2.2.2.flatMap eU8)]) (fun g => iterB (m36_r01_Uo_s3 a2) g.1 g.2 = some x3) (fun g => g.1) (fuel, (a1, 0, (([] : List UInt8) ++ a0))) hx3 ⟨rfl, rfl, rfl, rfl, trivial⟩ [] rfl (fun _ _ => inbL_of rfl) (fun _ _ => blkinb_of rfl) (fun _ _ => Nat.le_of_ble_eq_true rfl) ?_
    clear hx3 h
    rintro ⟨n3, s3⟩ h
    obtain ⟨n3, y3, rfl, h, hk3⟩ := iterB_eq h
    unfold m36_r01_Uo_s3 at h
    refine cseq ?_
    refine cseq ?_
    refine cjoin3 (Unit) (fun b4 => [(1, .s (.one (.i .u64 (s3.1.toNat : Int)))), (2, .s (.one (.i .i64 a2))), (7, .s (.one (.ls 0 s3.2.2.length))), (8, .s (.one (.i .i64 s3.2.1)))]) (fun b4 => [.arr 5 1 0 (s3.2.2.flatMap eU8)]) (fun b4 => m36_r01_Uo_k4 s3 b4 = some y3) (fun _ _ => inbL_of rfl) (fun _ _ => blkinb_of rfl) (fun _ _ => Nat.le_of_ble_eq_true rfl) (fun b4 h => ?_) ?_
    · unfold m36_r01_Uo_k4 at h
      refine cseq ?_
      refine cblock ?_
      refine cseq ?_
      refine cregion ?_
      refine sv rfl (opv_mv rfl) ?_
      refine sv rfl (opv_mv rfl) ?_
      refine sv rfl (opv_rem_u64 (a := s3.1) (b := 256#64) rfl rfl rfl rfl (by decide)) ?_
      refine sv rfl (opv_conv_bv (k := .u64) (a := (s3.1 % (256#64))) rfl Tryd.underlying69 Tryd.underlying5 rfl rfl) ?_
      refine sbuild1 rfl Tryd.underlying22 ei5 rfl rfl (List.all_eq_true.1 rfl) (by decide) ?_
      refine smem [.arr 5 1 0 (s3.2.2.flatMap eU8), .arr 5 1 0 ([(UInt8.ofBitVec ((s3.1 % (256#64)).setWidth 8))].flatMap eU8)] rfl ?_
      obtain ⟨hb5, h⟩ := chk_eq h
      refine sapp (f := eU8) (xs := s3.2.2) (us := [(UInt8.ofBitVec ((s3.1 % (256#64)).setWidth 8))]) rfl Tryd.underlying22 ei5 ni22 (fun _ => rfl) rfl rfl (.one _ _ _ _ (.ls _ _ _ _ _ _ rfl (flat_len (f := eU8) (fun _ => rfl) [(UInt8.ofBitVec ((s3.1 % (256#64)).setWidth 8))]).symm)) rfl rfl rfl (.sl _ _ _ (flat_len (f := eU8) (fun _ => rfl) _)) rfl rfl hb5 (by decide) ?_
      refine sv rfl (opv_as rfl) ?_
      refine snil ?_
      refine cregion ?_
      refine sv rfl (opv_mv rfl) ?_
      refine sv rfl (opv_quo_u64 (a := s3.1) (b := 256#64) rfl rfl rfl rfl (by decide)) ?_
      refine sv rfl (opv_as rfl) ?_
      refine snil0 ?_
      refine block_normal ?_
      refine then_normal ?_
      refine cregion ?_
      refine sv rfl (opv_mv rfl) ?_
      refine sv rfl (opv_add rfl rfl) ?_
      refine sv rfl (opv_as rfl) ?_
      refine snil ?_
      obtain rfl := Option.some.inj h
      exact ⟨(n3, ((s3.1 / (256#64)), (wI (s3.2.1 + 1)), (s3.2.2 ++ [(UInt8.ofBitVec ((s3.1 % (256#64)).setWidth 8))]))), _, hk3, ⟨rfl, rfl, rfl, rfl, trivial⟩, rfl, Nat.lt_succ_self _⟩
    · skip
      refine cregion ?_
      refine sv rfl (opv_mv rfl) ?_
      refine sv rfl (opv_mv rfl) ?_
      refine sv rfl (opv_lss rfl rfl) ?_
      refine sv rfl (opv_mv rfl) ?_
      refine ssplit 15 rfl (fun hc => ?_) (fun hc => ?_)
      · replace h := ite_t hc h
        clear hc
        refine son rfl rfl rfl ?_
        refine sv rfl (opv_mv rfl) ?_
        refine son rfl rfl rfl ?_
        refine sv rfl (opv_lss rfl rfl) ?_
        refine sv rfl (opv_pick_t rfl rfl) ?_
        refine snil ?_
        refine ccond rfl (fun hc => ?_) (fun hc => ?_)
        · replace h := ite_t hc h
          clear hc
          refine cskip ?_
          refine then_normal ?_
          exact ⟨(), _, h, ⟨rfl, rfl, rfl, rfl, trivial⟩, rfl⟩
        · replace h := ite_f hc h
          clear hc
          refine cexit ?_
          refine then_exit ?_
          refine then_exit ?_
          refine block_hit ?_
          refine then_normal ?_
          obtain rfl := Option.some.inj h
          obtain rfl : _ = x3 := hk3
          exact ⟨s3.2.2, _, ho3, ⟨rfl, trivial⟩, rfl⟩
      · replace h := ite_f hc h
        clear hc
        refine soff rfl rfl rfl rfl ?_
        refine soff rfl rfl rfl rfl ?_
        refine sv rfl (opv_pick_f rfl rfl) ?_
        refine snil ?_
        refine ccond rfl (fun hx => Bool.noConfusion hx) (fun _ => ?_)
        refine cexit ?_
        refine then_exit ?_
        refine then_exit ?_
        refine block_hit ?_
        refine then_normal ?_
        obtain rfl := Option.some.inj h
        obtain rfl : _ = x3 := hk3
        exact ⟨s3.2.2, _, ho3, ⟨rfl, trivial⟩, rfl⟩

def m42_r01_List (a0 : List UInt8) (a1 : List UInt8) : Option (List UInt8) :=
  (m36_r01_Uo a0 (BitVec.ofInt 64 (if 65535 < (a1.length : Int) then 65535 else (a1.length : Int))) 2).bind fun v1 => (cut a1 0 (if 65535 < (a1.length : Int) then 65535 else (a1.length : Int))).bind fun c2 => if (v1.length + c2.length) * 1 ≤ 140737488355328 then (some (v1 ++ c2)) else none

set_option maxRecDepth 100000 in
theorem m42_r01_List_c {a0 : List UInt8} {a1 : List UInt8} {r : (List UInt8)} (h : m42_r01_List a0 a1 = some r) : CallsA Tryd.prog 42 [.one (.sl a0.length (a0.flatMap eU8)), .one (.sl a1.length (a1.flatMap eU8))] (· = .s (.one (.sl r.length (r.flatMap eU8)))) := by
  unfold m42_r01_List at h
  refine callsA_of Tryd.func42 rfl (nt := 19) rfl (Nat.le_of_ble_eq_true rfl) ?_
  intro w0 S0
  refine cseq ?_
  refine cregion ?_
  refine sv rfl (opv_as rfl) ?_
  refine snil ?_
  refine cseq ?_
  refine cregion ?_
  refine sv rfl (opv_mv rfl) ?_
  refine sv rfl (opv_len_sl si22 rfl) ?_
  refine sv rfl (opv_min rfl rfl) ?_
  refine sv rfl (opv_as rfl) ?_
  refine snil ?_
  refine cseq ?_
  refine cregion ?_
  refine sv rfl (opv_mv rfl) ?_
  refine sv rfl (opv_mv rfl) ?_
  refine sv rfl (opv_conv_ibv rfl Tryd.underlying3 Tryd.underlying69 rfl) ?_
  obtain ⟨v1, hv1, h⟩ := bind_eq h
  refine scallB (x' := .s (.one (.ls 0 v1.length))) (M' := [.arr 5 1 0 (v1.flatMap eU8)]) [] rfl fn36 (.func _) (opnds_cons rfl (opnds_cons rfl (opnds_cons rfl opnds_nil))) (m36_r01_Uo_c hv1) rfl rfl (by decide) rfl rfl rfl ?_
  refine sv rfl (opv_as rfl) ?_
  refine snil ?_
  refine cseq ?_
  refine cregion ?_
  refine sv rfl (opv_mv rfl) ?_
  refine sv rfl (opv_mv rfl) ?_
  refine sv rfl (opv_mv rfl) ?_
  obtain ⟨c2, hc2, h⟩ := bind_eq h
  refine sv rfl (opv_cut (f := eU8) (lo := 0) (hi := (if 65535 < (a1.length : Int) then 65535 else (a1.length : Int))) si22 (fun _ => rfl) rfl rfl rfl bound_none (bound_some rfl (Int.le_trans (cut_eq hc2).1.1 (cut_eq hc2).1.2.1)) hc2) ?_
  obtain ⟨hb3, h⟩ := chk_eq h
  refine sapp (f := eU8) (xs := v1) (us := c2) rfl Tryd.underlying22 ei5 ni22 (fun _ => rfl) rfl rfl (.one _ _ _ _ (.id _ rfl)) rfl rfl rfl (.sl _ _ _ (flat_len (f := eU8) (fun _ => rfl) _)) rfl rfl hb3 (by decide) ?_
  refine sv rfl (opv_as rfl) ?_
  refine snil ?_
  refine cret ?_
  obtain rfl := Option.some.inj h
  refine ⟨Or.inr rfl, _, _, _, (resVs_cons (ResV.tmp _ _ rfl) resVs_nil), (by (repeat' first | exact PubA.nil _ | apply PubA.cons | apply PubV.one | apply PubV.agg | exact PubL.nil | exact PubL.ls _ _ _ _ _ _ rfl (flat_len (f := eU8) (fun _ => rfl) _).symm | exact PubL.id _ rfl | exact PubLs.nil _ | apply PubLs.cons)), ?_⟩
  rfl

def m13_r05_PutReq_k15 (b15 : (List UInt8)) : Option ((List UInt8) × Int) :=
  some (b15, 0)

def m13_r05_PutReq_k13 (a0 : GR05Req) (b13 : (List UInt8)) : Option ((List UInt8) × Int) :=
  (m44_r05_rng a0.Kind).bind fun v14 => if v14 then ((m42_r01_List b13 a0.Rng.Lo).bind fun v16 => (m40_r05_bit a0.Rng.Open).bind fun v17 => (m36_r01_U v16 v17 1).bind fun v18 => (m42_r01_List v18 a0.Rng.Hi).bind fun v19 => m13_r05_PutReq_k15 v19) else (m13_r05_PutReq_k15 b13)

def m13_r05_PutReq_k11 (a0 : GR05Req) (b11 : (List UInt8)) : Option ((List UInt8) × Int) :=
  (m43_r05_val a0.Kind).bind fun v12 => if v12 then ((m42_r01_List b11 a0.Val).bind fun v20 => m13_r05_PutReq_k13 a0 v20) else (m13_r05_PutReq_k13 a0 b11)

def m13_r05_PutReq_k9 (a0 : GR05Req) (b9 : (List UInt8)) : Option ((List UInt8) × Int) :=
  (m41_r05_key a0.Kind).bind fun v10 => if v10 then ((m42_r01_List b9 a0.Key).bind fun v21 => m13_r05_PutReq_k11 a0 v21) else (m13_r05_PutReq_k11 a0 b9)

def m13_r05_PutReq_k7 (a0 : GR05Req) (b7 : (List UInt8)) : Option ((List UInt8) × Int) :=
  (m39_r05_flag a0.Kind).bind fun v8 => if v8 then ((m40_r05_bit a0.RO).bind fun v22 => (m36_r01_U b7 v22 1).bind fun v23 => m13_r05_PutReq_k9 a0 v23) else (m13_r05_PutReq_k9 a0 b7)

def m13_r05_PutReq_k5 (a0 : GR05Req) (b5 : (List UInt8)) : Option ((List UInt8) × Int) :=
  (m38_r05_attempt a0.Kind).bind fun v6 => if v6 then ((m36_r01_U b5 (BitVec.ofInt 64 a0.Attempt) 2).bind fun v24 => m13_r05_PutReq_k7 a0 v24) else (m13_r05_PutReq_k7 a0 b5)
def m13_r05_PutReq (a0 : GR05Req) : Option ((List UInt8) × Int) :=
  (m19_r05_SaneReq (GR05Req.mk a0.Kind a0.Seq a0.Token a0.Attempt a0.RO a0.Key a0.Val (GApiRange.mk a0.Rng.Lo a0.Rng.Hi a0.Rng.Open))).bind fun v1 => if (!v1) then (some (([] : List UInt8), 1)) else ((m36_r01_U ([] : List UInt8) (BitVec.ofInt 64 a0.Kind) 1).bind fun v2 => (m36_r01_U v2 (BitVec.ofInt 64 a0.Seq) 4).bind fun v3 => (m37_r05_token a0.Kind).bind fun v4 => if v4 then ((m36_r01_U v3 (BitVec.ofInt 64 a0.Token) 8).bind fun v25 => m13_r05_PutReq_k5 a0 v25) else (m13_r05_PutReq_k5 a0 v3))

set_option maxRecDepth 100000 in
theorem m13_r05_PutReq_c {a0 : GR05Req} {r : (List UInt8) × Int} (h : m13_r05_PutReq a0 = some r) : CallsA Tryd.prog 13 [.agg [.i .i64 a0.Kind, .i .i64 a0.Seq, .i .i64 a0.Token, .i .i64 a0.Attempt, .b a0.RO, .sl a0.Key.length (a0.Key.flatMap eU8), .sl a0.Val.length (a0.Val.flatMap eU8), .sl a0.Rng.Lo.length (a0.Rng.Lo.flatMap eU8), .sl a0.Rng.Hi.length (a0.Rng.Hi.flatMap eU8), .b a0.Rng.Open]] (· = .tup [.one (.sl r.1.length (r.1.flatMap eU8)), .one (.i .i64 r.2)]) := by
  unfold m13_r05_PutReq at h
  refine callsA_of Tryd.func13 rfl (nt := 75) rfl (Nat.le_of_ble_eq_true rfl) ?_
  intro w0 S0
  refine cseq ?_
  refine cregion ?_
  refine sbox rfl rfl ?_
  refine sv rfl (opv_as rfl) ?_
  refine sv rfl (opv_as rfl) ?_
  refine snil ?_
  refine cseq ?_
  refine cseq ?_
  refine cregion ?_
  refine sv rfl (opv_loadN ti26 rfl (.lp _ _ _ rfl) (Nat.le_of_ble_eq_true rfl)) ?_
  obtain ⟨v1, hv1, h⟩ := bind_eq h
  refine scall1 rfl fn19 (opnds_cons rfl opnds_nil) (pubA_id rfl) (m19_r05_SaneReq_c hv1) ?_
  refine sv rfl (opv_not rfl) ?_
  refine snil ?_
  refine ccond rfl (fun hc => ?_) (fun hc => ?_)
  · replace h := ite_t hc h
    clear hc
    refine cseq ?_
    refine cregion ?_
    refine sv rfl (opv_as rfl) ?_
    refine sv rfl (opv_as rfl) ?_
    refine snil ?_
    refine cret ?_
    refine then_ret ?_
    obtain rfl := Option.some.inj h
    refine ⟨Or.inr rfl, _, _, _, (resVs_cons (ResV.tmp _ _ rfl) (resVs_cons (ResV.tmp _ _ rfl) resVs_nil)), (pubC rfl), ?_⟩
    rfl
  · replace h := ite_f hc h
    clear hc
    refine cskip ?_
    refine then_normal ?_
    refine cseq ?_
    refine cregion ?_
    refine sv rfl (opv_fieldAddr_lp fi26_0 rfl) ?_
    refine sv rfl (opv_load1 ti3 rfl (.lp _ _ _ rfl) rfl) ?_
    refine sv rfl (opv_conv_ibv rfl Tryd.underlying3 Tryd.underlying69 rfl) ?_
    obtain ⟨v2, hv2, h⟩ := bind_eq h
    refine scall1 rfl fn36 (opnds_cons rfl (opnds_cons rfl (opnds_cons rfl opnds_nil))) (pubC rfl) (m36_r01_U_c hv2) ?_
    refine sv rfl (opv_as rfl) ?_
    refine snil ?_
    refine cseq ?_
    refine cregion ?_
    refine sv rfl (opv_mv rfl) ?_
    refine sv rfl (opv_fieldAddr_lp fi26_1 rfl) ?_
    refine sv rfl (opv_load1 ti3 rfl (.lp _ _ _ rfl) rfl) ?_
    refine sv rfl (opv_conv_ibv rfl Tryd.underlying3 Tryd.underlying69 rfl) ?_
    obtain ⟨v3, hv3, h⟩ := bind_eq h
    refine scall1 rfl fn36 (opnds_cons rfl (opnds_cons rfl (opnds_cons rfl opnds_nil))) (pubA_id rfl) (m36_r01_U_c hv3) ?_
    refine sv rfl (opv_as rfl) ?_
    refine snil ?_
    refine cseq ?_
    refine cseq ?_
    refine cregion ?_
    refine sv rfl (opv_fieldAddr_lp fi26_0 rfl) ?_
    refine sv rfl (opv_load1 ti3 rfl (.lp _ _ _ rfl) rfl) ?_
    obtain ⟨v4, hv4, h⟩ := bind_eq h
    refine scall1 rfl fn37 (opnds_cons rfl opnds_nil) (pubA_id rfl) (m37_r05_token_c hv4) ?_
    refine snil ?_
    refine cjoin ((List UInt8)) (fun b5 => [(1, .s (.one (.lp 0 0))), (4, .s (.one (.sl b5.length (b5.flatMap eU8))))]) (fun b5 => [.box [.i .i64 a0.Kind, .i .i64 a0.Seq, .i .i64 a0.Token, .i .i64 a0.Attempt, .b a0.RO, .sl a0.Key.length (a0.Key.flatMap eU8), .sl a0.Val.length (a0.Val.flatMap eU8), .sl a0.Rng.Lo.length (a0.Rng.Lo.flatMap eU8), .sl a0.Rng.Hi.length (a0.Rng.Hi.flatMap eU8), .b a0.Rng.Open]]) (fun b5 => m13_r05_PutReq_k5 a0 b5 = some r) (fun _ _ => inbL_of rfl) (fun _ _ => blkinb_of rfl) (fun _ _ => Nat.le_of_ble_eq_true rfl) (fun b5 h => ?_) ?_
    · unfold m13_r05_PutReq_k5 at h
      refine cseq ?_
      refine cseq ?_
      refine cregion ?_
      refine sv rfl (opv_fieldAddr_lp fi26_0 rfl) ?_
      refine sv rfl (opv_load1 ti3 rfl (.lp _ _ _ rfl) rfl) ?_
      obtain ⟨v6, hv6, h⟩ := bind_eq h
      refine scall1 rfl fn38 (opnds_cons rfl opnds_nil) (pubA_id rfl) (m38_r05_attempt_c hv6) ?_
      refine snil ?_
      refine cjoin ((List UInt8)) (fun b7 => [(1, .s (.one (.lp 0 0))), (4, .s (.one (.sl b7.length (b7.flatMap eU8))))]) (fun b7 => [.box [.i .i64 a0.Kind, .i .i64 a0.Seq, .i .i64 a0.Token, .i .i64 a0.Attempt, .b a0.RO, .sl a0.Key.length (a0.Key.flatMap eU8), .sl a0.Val.length (a0.Val.flatMap eU8), .sl a0.Rng.Lo.length (a0.Rng.Lo.flatMap eU8), .sl a0.Rng.Hi.length (a0.Rng.Hi.flatMap eU8), .b a0.Rng.Open]]) (fun b7 => m13_r05_PutReq_k7 a0 b7 = some r) (fun _ _ => inbL_of rfl) (fun _ _ => blkinb_of rfl) (fun _ _ => Nat.le_of_ble_eq_true rfl) (fun b7 h => ?_) ?_
      · unfold m13_r05_PutReq_k7 at h
        refine cseq ?_
        refine cseq ?_
        refine cregion ?_
        refine sv rfl (opv_fieldAddr_lp fi26_0 rfl) ?_
        refine sv rfl (opv_load1 ti3 rfl (.lp _ _ _ rfl) rfl) ?_
        obtain ⟨v8, hv8, h⟩ := bind_eq h
        refine scall1 rfl fn39 (opnds_cons rfl opnds_nil) (pubA_id rfl) (m39_r05_flag_c hv8) ?_
        refine snil ?_
        refine cjoin ((List UInt8)) (fun b9 => [(1, .s (.one (.lp 0 0))), (4, .s (.one (.sl b9.length (b9.flatMap eU8))))]) (fun b9 => [.box [.i .i64 a0.Kind, .i .i64 a0.Seq, .i .i64 a0.Token, .i .i64 a0.Attempt, .b a0.RO, .sl a0.Key.length (a0.Key.flatMap eU8), .sl a0.Val.length (a0.Val.flatMap eU8), .sl a0.Rng.Lo.length (a0.Rng.Lo.flatMap eU8), .sl a0.Rng.Hi.length (a0.Rng.Hi.flatMap eU8), .b a0.Rng.Open]]) (fun b9 => m13_r05_PutReq_k9 a0 b9 = some r) (fun _ _ => inbL_of rfl) (fun _ _ => blkinb_of rfl) (fun _ _ => Nat.le_of_ble_eq_true rfl) (fun b9 h => ?_) ?_
        · unfold m13_r05_PutReq_k9 at h
          refine cseq ?_
          refine cseq ?_
          refine cregion ?_
          refine sv rfl (opv_fieldAddr_lp fi26_0 rfl) ?_
          refine sv rfl (opv_load1 ti3 rfl (.lp _ _ _ rfl) rfl) ?_
          obtain ⟨v10, hv10, h⟩ := bind_eq h
          refine scall1 rfl fn41 (opnds_cons rfl opnds_nil) (pubA_id rfl) (m41_r05_key_c hv10) ?_
          refine snil ?_
          refine cjoin ((List UInt8)) (fun b11 => [(1, .s (.one (.lp 0 0))), (4, .s (.one (.sl b11.length (b11.flatMap eU8))))]) (fun b11 => [.box [.i .i64 a0.Kind, .i .i64 a0.Seq, .i .i64 a0.Token, .i .i64 a0.Attempt, .b a0.RO, .sl a0.Key.length (a0.Key.flatMap eU8), .sl a0.Val.length (a0.Val.flatMap eU8), .sl a0.Rng.Lo.length (a0.Rng.Lo.flatMap eU8), .sl a0.Rng.Hi.length (a0.Rng.Hi.flatMap eU8), .b a0.Rng.Open]]) (fun b11 => m13_r05_PutReq_k11 a0 b11 = some r) (fun _ _ => inbL_of rfl) (fun _ _ => blkinb_of rfl) (fun _ _ => Nat.le_of_ble_eq_true rfl) (fun b11 h => ?_) ?_
          · unfold m13_r05_PutReq_k11 at h
            refine cseq ?_
            refine cseq ?_
            refine cregion ?_
            refine sv rfl (opv_fieldAddr_lp fi26_0 rfl) ?_
            refine sv rfl (opv_load1 ti3 rfl (.lp _ _ _ rfl) rfl) ?_
            obtain ⟨v12, hv12, h⟩ := bind_eq h
            refine scall1 rfl fn43 (opnds_cons rfl opnds_nil) (pubA_id rfl) (m43_r05_val_c hv12) ?_
            refine snil ?_
            refine cjoin ((List UInt8)) (fun b13 => [(1, .s (.one (.lp 0 0))), (4, .s (.one (.sl b13.length (b13.flatMap eU8))))]) (fun b13 => [.box [.i .i64 a0.Kind, .i .i64 a0.Seq, .i .i64 a0.Token, .i .i64 a0.Attempt, .b a0.RO, .sl a0.Key.length (a0.Key.flatMap eU8), .sl a0.Val.length (a0.Val.flatMap eU8), .sl a0.Rng.Lo.length (a0.Rng.Lo.flatMap eU8), .sl a0.Rng.Hi.length (a0.Rng.Hi.flatMap eU8), .b a0.Rng.Open]]) (fun b13 => m13_r05_PutReq_k13 a0 b13 = some r) (fun _ _ => inbL_of rfl) (fun _ _ => blkinb_of rfl) (fun _ _ => Nat.le_of_ble_eq_true rfl) (fun b13 h => ?_) ?_
            · unfold m13_r05_PutReq_k13 at h
              refine cseq ?_
              refine cseq ?_
              refine cregion ?_
              refine sv rfl (opv_fieldAddr_lp fi26_0 rfl) ?_
              refine sv rfl (opv_load1 ti3 rfl (.lp _ _ _ rfl) rfl) ?_
              obtain ⟨v14, hv14, h⟩ := bind_eq h
              refine scall1 rfl fn44 (opnds_cons rfl opnds_nil) (pubA_id rfl) (m44_r05_rng_c hv14) ?_
              refine snil ?_
              refine cjoin ((List UInt8)) (fun b15 => [(4, .s (.one (.sl b15.length (b15.flatMap eU8))))]) (fun b15 => [.box [.i .i64 a0.Kind, .i .i64 a0.Seq, .i .i64 a0.Token, .i .i64 a0.Attempt, .b a0.RO, .sl a0.Key.length (a0.Key.flatMap eU8), .sl a0.Val.length (a0.Val.flatMap eU8), .sl a0.Rng.Lo.length (a0.Rng.Lo.flatMap eU8), .sl a0.Rng.Hi.length (a0.Rng.Hi.flatMap eU8), .b a0.Rng.Open]]) (fun b15 => m13_r05_PutReq_k15 b15 = some r) (fun _ _ => inbL_of rfl) (fun _ _ => blkinb_of rfl) (fun _ _ => Nat.le_of_ble_eq_true rfl) (fun b15 h => ?_) ?_
              · unfold m13_r05_PutReq_k15 at h
                refine cseq ?_
                refine cregion ?_
                refine sv rfl (opv_mv rfl) ?_
                refine sv rfl (opv_as rfl) ?_
                refine sv rfl (opv_as rfl) ?_
                refine snil ?_
                refine cret ?_
                obtain rfl := Option.some.inj h
                refine ⟨Or.inr rfl, _, _, _, (resVs_cons (ResV.tmp _ _ rfl) (resVs_cons (ResV.tmp _ _ rfl) resVs_nil)), (pubA_id rfl), ?_⟩
                rfl
              · skip
                refine ccond rfl (fun hc => ?_) (fun hc => ?_)
                · replace h := ite_t hc h
                  clear hc
                  refine cseq ?_
                  refine cregion ?_
                  refine sv rfl (opv_mv rfl) ?_
                  refine sv rfl (opv_fieldAddr_lp fi26_7 rfl) ?_
                  refine sv rfl (opv_fieldAddr_lp fi24_0 rfl) ?_
                  refine sv rfl (opv_load1 ti22 rfl (.lp _ _ _ rfl) rfl) ?_
                  obtain ⟨v16, hv16, h⟩ := bind_eq h
                  refine scall1 rfl fn42 (opnds_cons rfl (opnds_cons rfl opnds_nil)) (pubA_id rfl) (m42_r01_List_c hv16) ?_
                  refine sv rfl (opv_as rfl) ?_
                  refine snil ?_
                  refine cseq ?_
                  refine cregion ?_
                  refine sv rfl (opv_mv rfl) ?_
                  refine sv rfl (opv_fieldAddr_lp fi26_7 rfl) ?_
                  refine sv rfl (opv_fieldAddr_lp fi24_2 rfl) ?_
                  refine sv rfl (opv_load1 ti4 rfl (.lp _ _ _ rfl) rfl) ?_
                  obtain ⟨v17, hv17, h⟩ := bind_eq h
                  refine scall1 rfl fn40 (opnds_cons rfl opnds_nil) (pubA_id rfl) (m40_r05_bit_c hv17) ?_
                  obtain ⟨v18, hv18, h⟩ := bind_eq h
                  refine scall1 rfl fn36 (opnds_cons rfl (opnds_cons rfl (opnds_cons rfl opnds_nil))) (pubA_id rfl) (m36_r01_U_c hv18) ?_
                  refine sv rfl (opv_as rfl) ?_
                  refine snil ?_
                  refine cregion ?_
                  refine sv rfl (opv_mv rfl) ?_
                  refine sv rfl (opv_fieldAddr_lp fi26_7 rfl) ?_
                  refine sv rfl (opv_fieldAddr_lp fi24_1 rfl) ?_
                  refine sv rfl (opv_load1 ti22 rfl (.lp _ _ _ rfl) rfl) ?_
                  obtain ⟨v19, hv19, h⟩ := bind_eq h
                  refine scall1 rfl fn42 (opnds_cons rfl (opnds_cons rfl opnds_nil)) (pubA_id rfl) (m42_r01_List_c hv19) ?_
                  refine sv rfl (opv_as rfl) ?_
                  refine snil ?_
                  exact ⟨v19, _, h, ⟨rfl, trivial⟩, rfl⟩
                · replace h := ite_f hc h
                  clear hc
                  refine cskip ?_
                  refine then_normal ?_
                  exact ⟨b13, _, h, ⟨rfl, trivial⟩, rfl⟩
            · skip
              refine ccond rfl (fun hc => ?_) (fun hc => ?_)
              · replace h := ite_t hc h
                clear hc
                refine cregion ?_
                refine sv rfl (opv_mv rfl) ?_
                refine sv rfl (opv_fieldAddr_lp fi26_6 rfl) ?_
                refine sv rfl (opv_load1 ti22 rfl (.lp _ _ _ rfl) rfl) ?_
                obtain ⟨v20, hv20, h⟩ := bind_eq h
                refine scall1 rfl fn42 (opnds_cons rfl (opnds_cons rfl opnds_nil)) (pubA_id rfl) (m42_r01_List_c hv20) ?_
                refine sv rfl (opv_as rfl) ?_
                refine snil ?_
                exact ⟨v20, _, h, ⟨rfl, rfl, trivial⟩, rfl⟩
              · replace h := ite_f hc h
                clear hc
                refine cskip ?_
                refine then_normal ?_
                exact ⟨b11, _, h, ⟨rfl, rfl, trivial⟩, rfl⟩
          · skip
            refine ccond rfl (fun hc => ?_) (fun hc => ?_)
            · replace h := ite_t hc h
              clear hc
              refine cregion ?_
              refine sv rfl (opv_mv rfl) ?_
              refine sv rfl (opv_fieldAddr_lp fi26_5 rfl) ?_
              refine sv rfl (opv_load1 ti22 rfl (.lp _ _ _ rfl) rfl) ?_
              obtain ⟨v21, hv21, h⟩ := bind_eq h
              refine scall1 rfl fn42 (opnds_cons rfl (opnds_cons rfl opnds_nil)) (pubA_id rfl) (m42_r01_List_c hv21) ?_
              refine sv rfl (opv_as rfl) ?_
              refine snil ?_
              exact ⟨v21, _, h, ⟨rfl, rfl, trivial⟩, rfl⟩
            · replace h := ite_f hc h
              clear hc
              refine cskip ?_
              refine then_normal ?_
              exact ⟨b9, _, h, ⟨rfl, rfl, trivial⟩, rfl⟩
        · skip
          refine ccond rfl (fun hc => ?_) (fun hc => ?_)
          · replace h := ite_t hc h
            clear hc
            refine cregion ?_
            refine sv rfl (opv_mv rfl) ?_
            refine sv rfl (opv_fieldAddr_lp fi26_4 rfl) ?_
            refine sv rfl (opv_load1 ti4 rfl (.lp _ _ _ rfl) rfl) ?_
            obtain ⟨v22, hv22, h⟩ := bind_eq h
            refine scall1 rfl fn40 (opnds_cons rfl opnds_nil) (pubA_id rfl) (m40_r05_bit_c hv22) ?_
            obtain ⟨v23, hv23, h⟩ := bind_eq h
            refine scall1 rfl fn36 (opnds_cons rfl (opnds_cons rfl (opnds_cons rfl opnds_nil))) (pubA_id rfl) (m36_r01_U_c hv23) ?_
            refine sv rfl (opv_as rfl) ?_
            refine snil ?_
            exact ⟨v23, _, h, ⟨rfl, rfl, trivial⟩, rfl⟩
          · replace h := ite_f hc h
            clear hc
            refine cskip ?_
            refine then_normal ?_
            exact ⟨b7, _, h, ⟨rfl, rfl, trivial⟩, rfl⟩
      · skip
        refine ccond rfl (fun hc => ?_) (fun hc => ?_)
        · replace h := ite_t hc h
          clear hc
          refine cregion ?_
          refine sv rfl (opv_mv rfl) ?_
          refine sv rfl (opv_fieldAddr_lp fi26_3 rfl) ?_
          refine sv rfl (opv_load1 ti3 rfl (.lp _ _ _ rfl) rfl) ?_
          refine sv rfl (opv_conv_ibv rfl Tryd.underlying3 Tryd.underlying69 rfl) ?_
          obtain ⟨v24, hv24, h⟩ := bind_eq h
          refine scall1 rfl fn36 (opnds_cons rfl (opnds_cons rfl (opnds_cons rfl opnds_nil))) (pubA_id rfl) (m36_r01_U_c hv24) ?_
          refine sv rfl (opv_as rfl) ?_
          refine snil ?_
          exact ⟨v24, _, h, ⟨rfl, rfl, trivial⟩, rfl⟩
        · replace h := ite_f hc h
          clear hc
          refine cskip ?_
          refine then_normal ?_
          exact ⟨b5, _, h, ⟨rfl, rfl, trivial⟩, rfl⟩
    · skip
      refine ccond rfl (fun hc => ?_) (fun hc => ?_)
      · replace h := ite_t hc h
        clear hc
        refine cregion ?_
        refine sv rfl (opv_mv rfl) ?_
        refine sv rfl (opv_fieldAddr_lp fi26_2 rfl) ?_
        refine sv rfl (opv_load1 ti3 rfl (.lp _ _ _ rfl) rfl) ?_
        refine sv rfl (opv_conv_ibv rfl Tryd.underlying3 Tryd.underlying69 rfl) ?_
        obtain ⟨v25, hv25, h⟩ := bind_eq h
        refine scall1 rfl fn36 (opnds_cons rfl (opnds_cons rfl (opnds_cons rfl opnds_nil))) (pubA_id rfl) (m36_r01_U_c hv25) ?_
        refine sv rfl (opv_as rfl) ?_
        refine snil ?_
        exact ⟨v25, _, h, ⟨rfl, rfl, trivial⟩, rfl⟩
      · replace h := ite_f hc h
        clear hc
        refine cskip ?_
        refine then_normal ?_
        exact ⟨v3, _, h, ⟨rfl, rfl, trivial⟩, rfl⟩

def m51_r01_News (a0 : List UInt8) : Option ((List UInt8) × Int × Int) :=
  some (a0, 0, 0)

set_option maxRecDepth 100000 in
theorem m51_r01_News_c {a0 : List UInt8} {r : (List UInt8) × Int × Int} (h : m51_r01_News a0 = some r) : CallsB Tryd.prog 51 [] [.one (.sl a0.length (a0.flatMap eU8))] (fun y m' => y = .s (.one (.lp 0 0)) ∧ m' = [.box [.sl r.1.length (r.1.flatMap eU8), .i .i64 r.2.1, .i .i64 r.2.2]]) := by
  unfold m51_r01_News at h
  refine callsB_of Tryd.func51 rfl (nt := 6) rfl (Nat.le_of_ble_eq_true rfl) ?_
  intro w0 S0 X0 H0
  refine cseq ?_
  refine cregion ?_
  refine sv rfl (opv_as rfl) ?_
  refine snil ?_
  refine cseq ?_
  refine cregion ?_
  refine sv rfl (opv_mv rfl) ?_
  refine sv rfl (opv_build zi96 pi96 (parts_cons rfl parts_nil) (.cons _ _ _ _ _ _ _ rfl rfl (Nat.le_of_ble_eq_true rfl) (.nil _))) ?_
  refine sbox rfl rfl ?_
  refine sv rfl (opv_as rfl) ?_
  refine snil ?_
  refine cret ?_
  obtain rfl := Option.some.inj h
  exact ⟨Or.inr rfl, _, [0], [.one (.lp 0 0)], [.box [.sl a0.length (a0.flatMap eU8), .i .i64 0, .i .i64 0]], (resVs_cons (ResV.tmp _ _ rfl) resVs_nil), rfl, rfl, ⟨by decide, rfl⟩, rfl, rfl, ⟨rfl, rfl⟩⟩

def m53_r01_Reader_Fails (a0 : Int) (a1 : List UInt8) (a2 : Int) (a3 : Int) : Option Int :=
  if (decide (a3 = 0)) then (some a0) else (some a3)

set_option maxRecDepth 100000 in
theorem m53_r01_Reader_Fails_c {a0 : Int} {a1 : List UInt8} {a2 : Int} {a3 : Int} {r : Int} (h : m53_r01_Reader_Fails a0 a1 a2 a3 = some r) : CallsB Tryd.prog 53 [.box [.sl a1.length (a1.flatMap eU8), .i .i64 a2, .i .i64 a3]] [.one (.lp 0 0), .one (.i .i64 a0)] (fun y m' => y = .tup [] ∧ m' = [.box [.sl a1.length (a1.flatMap eU8), .i .i64 a2, .i .i64 r]]) := by
  unfold m53_r01_Reader_Fails at h
  refine callsB_of Tryd.func53 rfl (nt := 13) rfl (Nat.le_of_ble_eq_true rfl) ?_
  intro w0 S0 X0 H0
  refine cseq ?_
  refine cregion ?_
  refine sv rfl (opv_mv rfl) ?_
  refine sv rfl (opv_nilCheck rfl rfl (fun _ _ _ h => by cases h)) ?_
  refine sv rfl (opv_fieldAddr_lp fi96_2 rfl) ?_
  refine sv rfl (opv_load1 ti29 rfl (.lp _ _ _ rfl) rfl) ?_
  refine sv rfl (opv_ieql rfl rfl) ?_
  refine snil ?_
  refine ccond rfl (fun hc => ?_) (fun hc => ?_)
  · replace h := ite_t hc h
    clear hc
    refine cregion ?_
    refine sv rfl (opv_mv rfl) ?_
    refine sv rfl (opv_mv rfl) ?_
    refine sv rfl (opv_nilCheck rfl rfl (fun _ _ _ h => by cases h)) ?_
    refine sv rfl (opv_fieldAddr_lp fi96_2 rfl) ?_
    refine sstore sz29 rfl rfl rfl rfl (Nat.le_of_ble_eq_true rfl) ?_
    refine smem [.box [.sl a1.length (a1.flatMap eU8), .i .i64 a2, .i .i64 a0]] rfl ?_
    refine snil0 ?_
    obtain rfl := Option.some.inj h
    exact ⟨Or.inl rfl, _, [0], [], [.box [.sl a1.length (a1.flatMap eU8), .i .i64 a2, .i .i64 a0]], resVs_nil, rfl, rfl, ⟨by decide, rfl⟩, rfl, rfl, ⟨rfl, rfl⟩⟩
  · replace h := ite_f hc h
    clear hc
    refine cskip ?_
    obtain rfl := Option.some.inj h
    exact ⟨Or.inl rfl, _, [0], [], [.box [.sl a1.length (a1.flatMap eU8), .i .i64 a2, .i .i64 a3]], resVs_nil, rfl, rfl, ⟨by decide, rfl⟩, rfl, rfl, ⟨rfl, rfl⟩⟩

def m74_r01_Reader_takes_k1 (a0 : Int) (a1 : List UInt8) (a2 : Int) (b1 : Int) : Option ((List UInt8) × Int × Int) :=
  if (!decide (b1 = 0)) then (some (([] : List UInt8), a2, b1)) else ((cut a1 (wI ((wI (a2 + a0)) - a0)) (wI (a2 + a0))).bind fun c2 => if c2.length * 1 ≤ 140737488355328 then (some (c2, (wI (a2 + a0)), b1)) else none)
def m74_r01_Reader_takes (a0 : Int) (a1 : List UInt8) (a2 : Int) (a3 : Int) : Option ((List UInt8) × Int × Int) :=
  if (decide (a3 = 0)) then (if (decide ((wI ((a1.length : Int) - a2)) < a0)) then (m74_r01_Reader_takes_k1 a0 a1 a2 2) else (m74_r01_Reader_takes_k1 a0 a1 a2 a3)) else (m74_r01_Reader_takes_k1 a0 a1 a2 a3)

set_option maxRecDepth 100000 in
theorem m74_r01_Reader_takes_c {a0 : Int} {a1 : List UInt8} {a2 : Int} {a3 : Int} {r : (List UInt8) × Int × Int} (h : m74_r01_Reader_takes a0 a1 a2 a3 = some r) : CallsB Tryd.prog 74 [.box [.sl a1.length (a1.flatMap eU8), .i .i64 a2, .i .i64 a3]] [.one (.lp 0 0), .one (.i .i64 a0)] (fun y m' => y = .s (.one (.sl r.1.length (r.1.flatMap eU8))) ∧ m' = [.box [.sl a1.length (a1.flatMap eU8), .i .i64 r.2.1, .i .i64 r.2.2]]) := by
  unfold m74_r01_Reader_takes at h
  refine callsB_of Tryd.func74 rfl (nt := 58) rfl (Nat.le_of_ble_eq_true rfl) ?_
  intro w0 S0 X0 H0
  refine cseq ?_
  refine cregion ?_
  refine sv rfl (opv_as rfl) ?_
  refine snil ?_
  refine cseq ?_
  refine cseq ?_
  refine cjoin3 (Int) (fun b1 => [(0, .s (.one (.lp 0 0))), (1, .s (.one (.i .i64 a0)))]) (fun b1 => [.box [.sl a1.length (a1.flatMap eU8), .i .i64 a2, .i .i64 b1]]) (fun b1 => m74_r01_Reader_takes_k1 a0 a1 a2 b1 = some r) (fun _ _ => inbL_of rfl) (fun _ _ => blkinb_of rfl) (fun _ _ => Nat.le_of_ble_eq_true rfl) (fun b1 h => ?_) ?_
  · unfold m74_r01_Reader_takes_k1 at h
    refine cseq ?_
    refine cseq ?_
    refine cregion ?_
    refine sv rfl (opv_mv rfl) ?_
    refine sv rfl (opv_nilCheck rfl rfl (fun _ _ _ h => by cases h)) ?_
    refine sv rfl (opv_fieldAddr_lp fi96_2 rfl) ?_
    refine sv rfl (opv_load1 ti29 rfl (.lp _ _ _ rfl) rfl) ?_
    refine sv rfl (opv_ineq rfl rfl) ?_
    refine snil ?_
    refine ccond rfl (fun hc => ?_) (fun hc => ?_)
    · replace h := ite_t hc h
      clear hc
      refine cseq ?_
      refine cregion ?_
      refine sv rfl (opv_as rfl) ?_
      refine snil ?_
      refine cpub 4 rfl (by (repeat' first | exact PubA.nil _ | apply PubA.cons | apply PubV.one | apply PubV.agg | exact PubL.nil | exact PubL.id _ rfl | exact PubLs.nil _ | apply PubLs.cons)) ?_
      refine cret ?_
      refine then_ret ?_
      obtain rfl := Option.some.inj h
      exact ⟨Or.inr rfl, _, [0], [.one (.sl ([] : List UInt8).length (([] : List UInt8).flatMap eU8))], [.box [.sl a1.length (a1.flatMap eU8), .i .i64 a2, .i .i64 b1]], (resVs_cons (ResV.tmp _ _ rfl) resVs_nil), rfl, rfl, ⟨by decide, rfl⟩, rfl, rfl, ⟨rfl, rfl⟩⟩
    · replace h := ite_f hc h
      clear hc
      refine cskip ?_
      refine then_normal ?_
      refine cseq ?_
      refine cregion ?_
      refine sv rfl (opv_mv rfl) ?_
      refine sv rfl (opv_mv rfl) ?_
      refine sv rfl (opv_nilCheck rfl rfl (fun _ _ _ h => by cases h)) ?_
      refine sv rfl (opv_fieldAddr_lp fi96_1 rfl) ?_
      refine sv rfl (opv_load1 ti3 rfl (.lp _ _ _ rfl) rfl) ?_
      refine sv rfl (opv_mv rfl) ?_
      refine sv rfl (opv_add rfl rfl) ?_
      refine sv rfl (opv_nilCheck rfl rfl (fun _ _ _ h => by cases h)) ?_
      refine sv rfl (opv_fieldAddr_lp fi96_1 rfl) ?_
      refine sstore sz3 rfl rfl rfl rfl (Nat.le_of_ble_eq_true rfl) ?_
      refine smem [.box [.sl a1.length (a1.flatMap eU8), .i .i64 (wI (a2 + a0)), .i .i64 b1]] rfl ?_
      refine snil ?_
      refine cseq ?_
      refine cdraw mixed (by kernel_rfl) ?_
      refine dd rfl (opD_bldz Tryd.underlying22 ei5) ?_
      refine dv rfl (opv_mv rfl) ?_
      refine dv rfl (opv_nilCheck rfl rfl (fun _ _ _ h => by cases h)) ?_
      refine dv rfl (opv_fieldAddr_lp fi96_0 rfl) ?_
      refine dv rfl (opv_load1 ti22 rfl (.lp _ _ _ rfl) rfl) ?_
      refine dv rfl (opv_mv rfl) ?_
      refine dv rfl (opv_nilCheck rfl rfl (fun _ _ _ h => by cases h)) ?_
      refine dv rfl (opv_fieldAddr_lp fi96_1 rfl) ?_
      refine dv rfl (opv_load1 ti3 rfl (.lp _ _ _ rfl) rfl) ?_
      refine dv rfl (opv_mv rfl) ?_
      refine dv rfl (opv_sub rfl rfl) ?_
      refine dv rfl (opv_mv rfl) ?_
      refine dv rfl (opv_nilCheck rfl rfl (fun _ _ _ h => by cases h)) ?_
      refine dv rfl (opv_fieldAddr_lp fi96_1 rfl) ?_
      refine dv rfl (opv_load1 ti3 rfl (.lp _ _ _ rfl) rfl) ?_
      obtain ⟨c2, hc2, h⟩ := bind_eq h
      refine dv rfl (opv_cut (f := eU8) (lo := (wI ((wI (a2 + a0)) - a0))) (hi := (wI (a2 + a0))) si22 (fun _ => rfl) rfl rfl rfl (bound_some rfl (cut_eq hc2).1.1) (bound_some rfl (Int.le_trans (cut_eq hc2).1.1 (cut_eq hc2).1.2.1)) hc2) ?_
      obtain ⟨hb3, h⟩ := chk_eq h
      refine dd rfl (opD_apzf (f := eU8) (us := c2) Tryd.underlying22 ei5 ni22 (fun _ => rfl) rfl rfl hb3 (by decide)) ?_
      refine dv rfl (opv_as rfl) ?_
      refine dnil ?_
      refine then_normal ?_
      refine cret ?_
      obtain rfl := Option.some.inj h
      exact ⟨Or.inr rfl, _, [0], [.one (.sl c2.length (c2.flatMap eU8))], [.box [.sl a1.length (a1.flatMap eU8), .i .i64 (wI (a2 + a0)), .i .i64 b1]], (resVs_cons (ResV.tmp _ _ rfl) resVs_nil), rfl, rfl, ⟨by decide, rfl⟩, rfl, rfl, ⟨rfl, rfl⟩⟩
  · skip
    refine cdraw mixed (by kernel_rfl) ?_
    refine dv rfl (opv_mv rfl) ?_
    refine dv rfl (opv_nilCheck rfl rfl (fun _ _ _ h => by cases h)) ?_
    refine dv rfl (opv_fieldAddr_lp fi96_2 rfl) ?_
    refine dv rfl (opv_load1 ti29 rfl (.lp _ _ _ rfl) rfl) ?_
    refine dv rfl (opv_ieql rfl rfl) ?_
    refine dv rfl (opv_mv rfl) ?_
    refine dsplit 10 rfl (fun hc => ?_) (fun hc => ?_)
    · replace h := ite_t hc h
      clear hc
      refine dvg rfl rfl rfl (opv_mv rfl) ?_
      refine dvg rfl rfl rfl (opv_mv rfl) ?_
      refine dvg rfl rfl rfl (opv_nilCheck rfl rfl (fun _ _ _ h => by cases h)) ?_
      refine dvg rfl rfl rfl (opv_fieldAddr_lp fi96_0 rfl) ?_
      refine dvg rfl rfl rfl (opv_load1 ti22 rfl (.lp _ _ _ rfl) rfl) ?_
      refine dvg rfl rfl rfl (opv_len_sl si22 rfl) ?_
      refine dvg rfl rfl rfl (opv_mv rfl) ?_
      refine dvg rfl rfl rfl (opv_nilCheck rfl rfl (fun _ _ _ h => by cases h)) ?_
      refine dvg rfl rfl rfl (opv_fieldAddr_lp fi96_1 rfl) ?_
      refine dvg rfl rfl rfl (opv_load1 ti3 rfl (.lp _ _ _ rfl) rfl) ?_
      refine dvg rfl rfl rfl (opv_sub rfl rfl) ?_
      refine dvg rfl rfl rfl (opv_gtr rfl rfl) ?_
      refine dv rfl (opv_pick_t rfl rfl) ?_
      refine dnil ?_
      refine then_normal ?_
      refine ccond rfl (fun hc => ?_) (fun hc => ?_)
      · replace h := ite_t hc h
        clear hc
        refine cregion ?_
        refine sv rfl (opv_mv rfl) ?_
        refine sv rfl (opv_nilCheck rfl rfl (fun _ _ _ h => by cases h)) ?_
        refine sv rfl (opv_fieldAddr_lp fi96_2 rfl) ?_
        refine sstore sz29 rfl rfl rfl rfl (Nat.le_of_ble_eq_true rfl) ?_
        refine smem [.box [.sl a1.length (a1.flatMap eU8), .i .i64 a2, .i .i64 2]] rfl ?_
        refine snil ?_
        exact ⟨2, _, h, ⟨rfl, rfl, trivial⟩, rfl⟩
      · replace h := ite_f hc h
        clear hc
        refine cskip ?_
        refine then_normal ?_
        exact ⟨a3, _, h, ⟨rfl, rfl, trivial⟩, rfl⟩
    · replace h := ite_f hc h
      clear hc
      refine doff rfl rfl rfl rfl ?_
      refine doff rfl rfl rfl rfl ?_
      refine doff rfl rfl rfl rfl ?_
      refine doff rfl rfl rfl rfl ?_
      refine doff rfl rfl rfl rfl ?_
      refine doff rfl rfl rfl rfl ?_
      refine doff rfl rfl rfl rfl ?_
      refine doff rfl rfl rfl rfl ?_
      refine doff rfl rfl rfl rfl ?_
      refine doff rfl rfl rfl rfl ?_
      refine doff rfl rfl rfl rfl ?_
      refine doff rfl rfl rfl rfl ?_
      refine dv rfl (opv_pick_f rfl rfl) ?_
      refine dnil ?_
      refine then_normal ?_
      refine ccond rfl (fun hx => Bool.noConfusion hx) (fun _ => ?_)
      refine cskip ?_
      refine then_normal ?_
      exact ⟨a3, _, h, ⟨rfl, rfl, trivial⟩, rfl⟩

def m52_r01_Reader_Us_k3 (v2 : (List UInt8) × Int × Int) (b3 : (BitVec 64)) : Option ((BitVec 64) × Int × Int) :=
  some (b3, v2.2.1, v2.2.2)

def m52_r01_Reader_Us_s4 (v2 : (List UInt8) × Int × Int) (s4 : (BitVec 64) × Int) : Option (LB ((BitVec 64) × Int) ((BitVec 64))) :=
  if (decide (0 ≤ s4.2)) then ((idx v2.1 s4.2).bind fun u5 => some (.cont (((s4.1 * (256#64)) + (u5.toBitVec.setWidth 64)), (wI (s4.2 - 1))))) else (some (.brk s4.1))

def m52_r01_Reader_Us_k1 (a0 : Int) (a1 : List UInt8) (a2 : Int) (a3 : Int) (b1 : Unit) : Option ((BitVec 64) × Int × Int) :=
  (m74_r01_Reader_takes a0 a1 a2 a3).bind fun v2 => (iterB (m52_r01_Reader_Us_s4 v2) fuel (0#64, (wI ((v2.1.length : Int) - 1)))).bind fun e6 => m52_r01_Reader_Us_k3 v2 e6
def m52_r01_Reader_Us (a0 : Int) (a1 : List UInt8) (a2 : Int) (a3 : Int) : Option ((BitVec 64) × Int × Int) :=
  if (decide (a0 < 1)) then ((m53_r01_Reader_Fails 1 a1 a2 a3).bind fun v7 => some (0#64, a2, v7)) else (if (decide (8 < a0)) then ((m53_r01_Reader_Fails 1 a1 a2 a3).bind fun v8 => some (0#64, a2, v8)) else (m52_r01_Reader_Us_k1 a0 a1 a2 a3 ()))

set_option maxRecDepth 100000 in
theorem m52_r01_Reader_Us_c {a0 : Int} {a1 : List UInt8} {a2 : Int} {a3 : Int} {r : (BitVec 64) × Int × Int} (h : m52_r01_Reader_Us a0 a1 a2 a3 = some r) : CallsB Tryd.prog 52 [.box [.sl a1.length (a1.flatMap eU8), .i .i64 a2, .i .i64 a3]] [.one (.lp 0 0), .one (.i .i64 a0)] (fun y m' => y = .s (.one (.i .u64 (r.1.toNat : Int))) ∧ m' = [.box [.sl a1.length (a1.flatMap eU8), .i .i64 r.2.1, .i .i64 r.2.2]]) := by
  unfold m52_r01_Reader_Us at h
  refine callsB_of Tryd.func52 rfl (nt := 35) rfl (Nat.le_of_ble_eq_true rfl) ?_
  intro w0 S0 X0 H0
  refine cseq ?_
  refine cregion ?_
  refine sv rfl (opv_as rfl) ?_
  refine snil ?_
  refine cseq ?_
  refine cseq ?_
  refine cjoin3 (Unit) (fun b1 => [(0, .s (.one (.lp 0 0))), (1, .s (.one (.i .i64 a0)))]) (fun b1 => [.box [.sl a1.length (a1.flatMap eU8), .i .i64 a2, .i .i64 a3]]) (fun b1 => m52_r01_Reader_Us_k1 a0 a1 a2 a3 b1 = some r) (fun _ _ => inbL_of rfl) (fun _ _ => blkinb_of rfl) (fun _ _ => Nat.le_of_ble_eq_true rfl) (fun b1 h => ?_) ?_
  · unfold m52_r01_Reader_Us_k1 at h
    refine cseq ?_
    refine cregion ?_
    refine sv rfl (opv_as rfl) ?_
    refine snil ?_
    refine cseq ?_
    refine cregion ?_
    refine sv rfl (opv_mv rfl) ?_
    refine sv rfl (opv_mv rfl) ?_
    obtain ⟨v2, hv2, h⟩ := bind_eq h
    refine scallB (x' := .s (.one (.sl v2.1.length (v2.1.flatMap eU8)))) (M' := [.box [.sl a1.length (a1.flatMap eU8), .i .i64 v2.2.1, .i .i64 v2.2.2]]) [0] rfl fn74 (.func _) (opnds_cons rfl (opnds_cons rfl opnds_nil)) (m74_r01_Reader_takes_c hv2) rfl rfl (by decide) rfl rfl rfl ?_
    refine sv rfl (opv_as rfl) ?_
    refine snil ?_
    refine cseq ?_
    refine cseq ?_
    refine cregion ?_
    refine sv rfl (opv_mv rfl) ?_
    refine sv rfl (opv_len_sl si22 rfl) ?_
    refine sv rfl (opv_sub rfl rfl) ?_
    refine sv rfl (opv_as rfl) ?_
    refine snil ?_
    refine cjoin ((BitVec 64)) (fun b3 => [(5, .s (.one (.i .u64 (b3.toNat : Int))))]) (fun b3 => [.box [.sl a1.length (a1.flatMap eU8), .i .i64 v2.2.1, .i .i64 v2.2.2]]) (fun b3 => m52_r01_Reader_Us_k3 v2 b3 = some r) (fun _ _ => inbL_of rfl) (fun _ _ => blkinb_of rfl) (fun _ _ => Nat.le_of_ble_eq_true rfl) (fun b3 h => ?_) ?_
    · unfold m52_r01_Reader_Us_k3 at h
      refine cseq ?_
      refine cregion ?_
      refine sv rfl (opv_mv rfl) ?_
      refine sv rfl (opv_as rfl) ?_
      refine snil ?_
      refine cret ?_
      obtain rfl := Option.some.inj h
      exact ⟨Or.inr rfl, _, [0], [.one (.i .u64 (b3.toNat : Int))], [.box [.sl a1.length (a1.flatMap eU8), .i .i64 v2.2.1, .i .i64 v2.2.2]], (resVs_cons (ResV.tmp _ _ rfl) resVs_nil), rfl, rfl, ⟨by decide, rfl⟩, rfl, rfl, ⟨rfl, rfl⟩⟩
    · skip
      refine cblock ?_
      obtain ⟨x4, hx4, ho4⟩ := bind_eq h
      refine awc_loop (G := Nat × ((BitVec 64) × Int)) (fun g => [(5, .s (.one (.i .u64 (g.2.1.toNat : Int)))), (6, .s (.one (.sl v2.1.length (v2.1.flatMap eU8)))), (7, .s (.one (.i .i64 g.2.2)))]) (fun g => [.box [.sl a1.length (a1.flatMap eU8), .i .i64 v2.2.1, .i .i64 v2.2.2]]) (fun g => iterB (m52_r01_Reader_Us_s4 v2) g.1 g.2 = some x4) (fun g => g.1) (fuel, (0#64, (wI ((v2.1.length : Int) - 1)))) hx4 ⟨rfl, rfl, rfl, trivial⟩ [] rfl (fun _ _ => inbL_of rfl) (fun _ _ => blkinb_of rfl) (fun _ _ => Nat.le_of_ble_eq_true rfl) ?_
      clear hx4 h
      rintro ⟨n4, s4⟩ h
      obtain ⟨n4, y4, rfl, h, hk4⟩ := iterB_eq h
      unfold m52_r01_Reader_Us_s4 at h
      refine cseq ?_
      refine cseq ?_
      refine cregion ?_
      refine sv rfl (opv_mv rfl) ?_
      refine sv rfl (opv_geq rfl rfl) ?_
      refine snil ?_
      refine ccond rfl (fun hc => ?_) (fun hc => ?_)
      · replace h := ite_t hc h
        clear hc
        refine cskip ?_
        refine then_normal ?_
        refine cseq ?_
        refine cblock ?_
        refine cregion ?_
        refine sv rfl (opv_mv rfl) ?_
        refine sv rfl (opv_mul_u64 (a := s4.1) (b := 256#64) rfl rfl rfl rfl) ?_
        refine sv rfl (opv_mv rfl) ?_
        refine sv rfl (opv_mv rfl) ?_
        obtain ⟨u5, hu5, h⟩ := bind_eq h
        refine sv rfl (opv_ix (f := eU8) si22 (fun _ => rfl) rfl rfl rfl rfl hu5) ?_
        refine sv rfl (opv_load1 ti5 rfl (.cp _) rfl) ?_
        refine sv rfl (opv_conv_bv (k := .u8) (a := u5.toBitVec) rfl Tryd.underlying5 Tryd.underlying69 rfl rfl) ?_
        refine sv rfl (opv_add_u64 (a := (s4.1 * (256#64))) (b := (u5.toBitVec.setWidth 64)) rfl rfl rfl rfl) ?_
        refine sv rfl (opv_as rfl) ?_
        refine snil0 ?_
        refine block_normal ?_
        refine then_normal ?_
        refine cregion ?_
        refine sv rfl (opv_mv rfl) ?_
        refine sv rfl (opv_sub rfl rfl) ?_
        refine sv rfl (opv_as rfl) ?_
        refine snil ?_
        obtain rfl := Option.some.inj h
        exact ⟨(n4, (((s4.1 * (256#64)) + (u5.toBitVec.setWidth 64)), (wI (s4.2 - 1)))), _, hk4, ⟨rfl, rfl, rfl, trivial⟩, rfl, Nat.lt_succ_self _⟩
      · replace h := ite_f hc h
        clear hc
        refine cexit ?_
        refine then_exit ?_
        refine then_exit ?_
        refine block_hit ?_
        refine then_normal ?_
        obtain rfl := Option.some.inj h
        obtain rfl : _ = x4 := hk4
        exact ⟨s4.1, _, ho4, ⟨rfl, trivial⟩, rfl⟩
  · skip
    refine cregion ?_
    refine sv rfl (opv_mv rfl) ?_
    refine sv rfl (opv_lss rfl rfl) ?_
    refine sv rfl (opv_mv rfl) ?_
    refine ssplit 10 rfl (fun hc => ?_) (fun hc => ?_)
    · replace h := ite_t hc h
      clear hc
      refine soff rfl rfl rfl rfl ?_
      refine soff rfl rfl rfl rfl ?_
      refine sv rfl (opv_pick_t rfl rfl) ?_
      refine snil ?_
      refine ccond rfl (fun _ => ?_) (fun hx => Bool.noConfusion hx)
      refine cseq ?_
      refine cregion ?_
      refine sv rfl (opv_mv rfl) ?_
      obtain ⟨v7, hv7, h⟩ := bind_eq h
      refine scallB (x' := .tup []) (M' := [.box [.sl a1.length (a1.flatMap eU8), .i .i64 a2, .i .i64 v7]]) [0] rfl fn53 (.func _) (opnds_cons rfl (opnds_cons rfl opnds_nil)) (m53_r01_Reader_Fails_c hv7) rfl rfl (by decide) rfl rfl rfl ?_
      refine snil ?_
      refine cseq ?_
      refine cregion ?_
      refine sv rfl (opv_as rfl) ?_
      refine snil ?_
      refine cret ?_
      refine then_ret ?_
      obtain rfl := Option.some.inj h
      exact ⟨Or.inr rfl, _, [0], [.one (.i .u64 ((0#64).toNat : Int))], [.box [.sl a1.length (a1.flatMap eU8), .i .i64 a2, .i .i64 v7]], (resVs_cons (ResV.tmp _ _ rfl) resVs_nil), rfl, rfl, ⟨by decide, rfl⟩, rfl, rfl, ⟨rfl, rfl⟩⟩
    · replace h := ite_f hc h
      clear hc
      refine son rfl rfl rfl ?_
      refine sv rfl (opv_mv rfl) ?_
      refine son rfl rfl rfl ?_
      refine sv rfl (opv_gtr rfl rfl) ?_
      refine sv rfl (opv_pick_f rfl rfl) ?_
      refine snil ?_
      refine ccond rfl (fun hc => ?_) (fun hc => ?_)
      · replace h := ite_t hc h
        clear hc
        refine cseq ?_
        refine cregion ?_
        refine sv rfl (opv_mv rfl) ?_
        obtain ⟨v8, hv8, h⟩ := bind_eq h
        refine scallB (x' := .tup []) (M' := [.box [.sl a1.length (a1.flatMap eU8), .i .i64 a2, .i .i64 v8]]) [0] rfl fn53 (.func _) (opnds_cons rfl (opnds_cons rfl opnds_nil)) (m53_r01_Reader_Fails_c hv8) rfl rfl (by decide) rfl rfl rfl ?_
        refine snil ?_
        refine cseq ?_
        refine cregion ?_
        refine sv rfl (opv_as rfl) ?_
        refine snil ?_
        refine cret ?_
        refine then_ret ?_
        obtain rfl := Option.some.inj h
        exact ⟨Or.inr rfl, _, [0], [.one (.i .u64 ((0#64).toNat : Int))], [.box [.sl a1.length (a1.flatMap eU8), .i .i64 a2, .i .i64 v8]], (resVs_cons (ResV.tmp _ _ rfl) resVs_nil), rfl, rfl, ⟨by decide, rfl⟩, rfl, rfl, ⟨rfl, rfl⟩⟩
      · replace h := ite_f hc h
        clear hc
        refine cskip ?_
        refine then_normal ?_
        exact ⟨(), _, h, ⟨rfl, rfl, trivial⟩, rfl⟩

def m54_r05_numbers (a0 : List UInt8) (a1 : Int) (a2 : Int) : Option (Int × Int × Int) :=
  (m52_r01_Reader_Us 8 a0 a1 a2).bind fun v1 => some ((wI ((if (4611686018427387904#64).toNat < v1.1.toNat then (4611686018427387904#64) else v1.1).toNat : Int)), v1.2.1, v1.2.2)

set_option maxRecDepth 100000 in
theorem m54_r05_numbers_c {a0 : List UInt8} {a1 : Int} {a2 : Int} {r : Int × Int × Int} (h : m54_r05_numbers a0 a1 a2 = some r) : CallsB Tryd.prog 54 [.box [.sl a0.length (a0.flatMap eU8), .i .i64 a1, .i .i64 a2]] [.one (.lp 0 0)] (fun y m' => y = .s (.one (.i .i64 r.1)) ∧ m' = [.box [.sl a0.length (a0.flatMap eU8), .i .i64 r.2.1, .i .i64 r.2.2]]) := by
  unfold m54_r05_numbers at h
  refine callsB_of Tryd.func54 rfl (nt := 7) rfl (Nat.le_of_ble_eq_true rfl) ?_
  intro w0 S0 X0 H0
  refine cseq ?_
  refine cregion ?_
  refine sv rfl (opv_as rfl) ?_
  refine snil ?_
  refine cseq ?_
  refine cregion ?_
  refine sv rfl (opv_mv rfl) ?_
  obtain ⟨v1, hv1, h⟩ := bind_eq h
  refine scallB (x' := .s (.one (.i .u64 (v1.1.toNat : Int)))) (M' := [.box [.sl a0.length (a0.flatMap eU8), .i .i64 v1.2.1, .i .i64 v1.2.2]]) [0] rfl fn52 (.func _) (opnds_cons rfl (opnds_cons rfl opnds_nil)) (m52_r01_Reader_Us_c hv1) rfl rfl (by decide) rfl rfl rfl ?_
  refine sv rfl (opv_minu (u := v1.1) (v := 4611686018427387904#64) rfl rfl) ?_
  refine sv rfl (opv_conv_int Tryd.underlying69 Tryd.underlying3 rfl) ?_
  refine sv rfl (opv_as rfl) ?_
  refine snil ?_
  refine cret ?_
  obtain rfl := Option.some.inj h
  exact ⟨Or.inr rfl, _, [0], [.one (.i .i64 (wI ((if (4611686018427387904#64).toNat < v1.1.toNat then (4611686018427387904#64) else v1.1).toNat : Int)))], [.box [.sl a0.length (a0.flatMap eU8), .i .i64 v1.2.1, .i .i64 v1.2.2]], (resVs_cons (ResV.tmp _ _ rfl) resVs_nil), rfl, rfl, ⟨by decide, rfl⟩, rfl, rfl, ⟨rfl, rfl⟩⟩

def m55_r01_Reader_Flags_k2 (v1 : (BitVec 64) × Int × Int) (b2 : Int) : Option (Bool × Int × Int) :=
  if (decide ((v1.1.toNat : Int) = (1 : Int))) then (some ((decide (b2 = 0)), v1.2.1, b2)) else (some (false, v1.2.1, b2))
def m55_r01_Reader_Flags (a0 : List UInt8) (a1 : Int) (a2 : Int) : Option (Bool × Int × Int) :=
  (m52_r01_Reader_Us 1 a0 a1 a2).bind fun v1 => if (decide ((1 : Int) < (v1.1.toNat : Int))) then ((m53_r01_Reader_Fails 3 a0 v1.2.1 v1.2.2).bind fun v3 => m55_r01_Reader_Flags_k2 v1 v3) else (m55_r01_Reader_Flags_k2 v1 v1.2.2)

set_option maxRecDepth 100000 in
theorem m55_r01_Reader_Flags_c {a0 : List UInt8} {a1 : Int} {a2 : Int} {r : Bool × Int × Int} (h : m55_r01_Reader_Flags a0 a1 a2 = some r) : CallsB Tryd.prog 55 [.box [.sl a0.length (a0.flatMap eU8), .i .i64 a1, .i .i64 a2]] [.one (.lp 0 0)] (fun y m' => y = .s (.one (.b r.1)) ∧ m' = [.box [.sl a0.length (a0.flatMap eU8), .i .i64 r.2.1, .i .i64 r.2.2]]) := by
  unfold m55_r01_Reader_Flags at h
  refine callsB_of Tryd.func55 rfl (nt := 19) rfl (Nat.le_of_ble_eq_true rfl) ?_
  intro w0 S0 X0 H0
  refine cseq ?_
  refine cregion ?_
  refine sv rfl (opv_as rfl) ?_
  refine snil ?_
  refine cseq ?_
  refine cregion ?_
  refine sv rfl (opv_mv rfl) ?_
  obtain ⟨v1, hv1, h⟩ := bind_eq h
  refine scallB (x' := .s (.one (.i .u64 (v1.1.toNat : Int)))) (M' := [.box [.sl a0.length (a0.flatMap eU8), .i .i64 v1.2.1, .i .i64 v1.2.2]]) [0] rfl fn52 (.func _) (opnds_cons rfl (opnds_cons rfl opnds_nil)) (m52_r01_Reader_Us_c hv1) rfl rfl (by decide) rfl rfl rfl ?_
  refine sv rfl (opv_as rfl) ?_
  refine snil ?_
  refine cseq ?_
  refine cseq ?_
  refine cregion ?_
  refine sv rfl (opv_mv rfl) ?_
  refine sv rfl (opv_gtr rfl rfl) ?_
  refine snil ?_
  refine cjoin (Int) (fun b2 => [(0, .s (.one (.lp 0 0))), (3, .s (.one (.i .u64 (v1.1.toNat : Int))))]) (fun b2 => [.box [.sl a0.length (a0.flatMap eU8), .i .i64 v1.2.1, .i .i64 b2]]) (fun b2 => m55_r01_Reader_Flags_k2 v1 b2 = some r) (fun _ _ => inbL_of rfl) (fun _ _ => blkinb_of rfl) (fun _ _ => Nat.le_of_ble_eq_true rfl) (fun b2 h => ?_) ?_
  · unfold m55_r01_Reader_Flags_k2 at h
    refine cseq ?_
    refine cregion ?_
    refine sv rfl (opv_mv rfl) ?_
    refine sv rfl (opv_ieql rfl rfl) ?_
    refine sv rfl (opv_mv rfl) ?_
    refine ssplit 12 rfl (fun hc => ?_) (fun hc => ?_)
    · replace h := ite_t hc h
      clear hc
      refine son rfl rfl rfl ?_
      refine sv rfl (opv_mv rfl) ?_
      refine son rfl rfl rfl ?_
      refine sv rfl (opv_nilCheck rfl rfl (fun _ _ _ h => by cases h)) ?_
      refine son rfl rfl rfl ?_
      refine sv rfl (opv_fieldAddr_lp fi96_2 rfl) ?_
      refine son rfl rfl rfl ?_
      refine sv rfl (opv_load1 ti29 rfl (.lp _ _ _ rfl) rfl) ?_
      refine son rfl rfl rfl ?_
      refine sv rfl (opv_ieql rfl rfl) ?_
      refine sv rfl (opv_pick_t rfl rfl) ?_
      refine sv rfl (opv_as rfl) ?_
      refine snil ?_
      refine cret ?_
      obtain rfl := Option.some.inj h
      exact ⟨Or.inr rfl, _, [0], [.one (.b (decide (b2 = 0)))], [.box [.sl a0.length (a0.flatMap eU8), .i .i64 v1.2.1, .i .i64 b2]], (resVs_cons (ResV.tmp _ _ rfl) resVs_nil), rfl, rfl, ⟨by decide, rfl⟩, rfl, rfl, ⟨rfl, rfl⟩⟩
    · replace h := ite_f hc h
      clear hc
      refine soff rfl rfl rfl rfl ?_
      refine soff rfl rfl rfl rfl ?_
      refine soff rfl rfl rfl rfl ?_
      refine soff rfl rfl rfl rfl ?_
      refine soff rfl rfl rfl rfl ?_
      refine sv rfl (opv_pick_f rfl rfl) ?_
      refine sv rfl (opv_as rfl) ?_
      refine snil ?_
      refine cret ?_
      obtain rfl := Option.some.inj h
      exact ⟨Or.inr rfl, _, [0], [.one (.b false)], [.box [.sl a0.length (a0.flatMap eU8), .i .i64 v1.2.1, .i .i64 b2]], (resVs_cons (ResV.tmp _ _ rfl) resVs_nil), rfl, rfl, ⟨by decide, rfl⟩, rfl, rfl, ⟨rfl, rfl⟩⟩
  · skip
    refine ccond rfl (fun hc => ?_) (fun hc => ?_)
    · replace h := ite_t hc h
      clear hc
      refine cregion ?_
      refine sv rfl (opv_mv rfl) ?_
      obtain ⟨v3, hv3, h⟩ := bind_eq h
      refine scallB (x' := .tup []) (M' := [.box [.sl a0.length (a0.flatMap eU8), .i .i64 v1.2.1, .i .i64 v3]]) [0] rfl fn53 (.func _) (opnds_cons rfl (opnds_cons rfl opnds_nil)) (m53_r01_Reader_Fails_c hv3) rfl rfl (by decide) rfl rfl rfl ?_
      refine snil ?_
      exact ⟨v3, _, h, ⟨rfl, rfl, trivial⟩, rfl⟩
    · replace h := ite_f hc h
      clear hc
      refine cskip ?_
      refine then_normal ?_
      exact ⟨v1.2.2, _, h, ⟨rfl, rfl, trivial⟩, rfl⟩

def m56_r01_Reader_Lists_k2 (a1 : List UInt8) (v1 : (BitVec 64) × Int × Int) (b2 : Int) : Option ((List UInt8) × Int × Int) :=
  (m74_r01_Reader_takes (wI (v1.1.toNat : Int)) a1 v1.2.1 b2).bind fun v3 => some (v3.1, v3.2.1, v3.2.2)
def m56_r01_Reader_Lists (a0 : Int) (a1 : List UInt8) (a2 : Int) (a3 : Int) : Option ((List UInt8) × Int × Int) :=
  (m52_r01_Reader_Us 2 a1 a2 a3).bind fun v1 => if (decide (a0 < (wI (v1.1.toNat : Int)))) then ((m53_r01_Reader_Fails 5 a1 v1.2.1 v1.2.2).bind fun v4 => m56_r01_Reader_Lists_k2 a1 v1 v4) else (m56_r01_Reader_Lists_k2 a1 v1 v1.2.2)

set_option maxRecDepth 100000 in
theorem m56_r01_Reader_Lists_c {a0 : Int} {a1 : List UInt8} {a2 : Int} {a3 : Int} {r : (List UInt8) × Int × Int} (h : m56_r01_Reader_Lists a0 a1 a2 a3 = some r) : CallsB Tryd.prog 56 [.box [.sl a1.length (a1.flatMap eU8), .i .i64 a2, .i .i64 a3]] [.one (.lp 0 0), .one (.i .i64 a0)] (fun y m' => y = .s (.one (.sl r.1.length (r.1.flatMap eU8))) ∧ m' = [.box [.sl a1.length (a1.flatMap eU8), .i .i64 r.2.1, .i .i64 r.2.2]]) := by
  unfold m56_r01_Reader_Lists at h
  refine callsB_of Tryd.func56 rfl (nt := 17) rfl (Nat.le_of_ble_eq_true rfl) ?_
  intro w0 S0 X0 H0
  refine cseq ?_
  refine cregion ?_
  refine sv rfl (opv_as rfl) ?_
  refine snil ?_
  refine cseq ?_
  refine cregion ?_
  refine sv rfl (opv_mv rfl) ?_
  obtain ⟨v1, hv1, h⟩ := bind_eq h
  refine scallB (x' := .s (.one (.i .u64 (v1.1.toNat : Int)))) (M' := [.box [.sl a1.length (a1.flatMap eU8), .i .i64 v1.2.1, .i .i64 v1.2.2]]) [0] rfl fn52 (.func _) (opnds_cons rfl (opnds_cons rfl opnds_nil)) (m52_r01_Reader_Us_c hv1) rfl rfl (by decide) rfl rfl rfl ?_
  refine sv rfl (opv_conv_int Tryd.underlying69 Tryd.underlying3 rfl) ?_
  refine sv rfl (opv_as rfl) ?_
  refine snil ?_
  refine cseq ?_
  refine cseq ?_
  refine cregion ?_
  refine sv rfl (opv_mv rfl) ?_
  refine sv rfl (opv_mv rfl) ?_
  refine sv rfl (opv_gtr rfl rfl) ?_
  refine snil ?_
  refine cjoin (Int) (fun b2 => [(0, .s (.one (.lp 0 0))), (5, .s (.one (.i .i64 (wI (v1.1.toNat : Int)))))]) (fun b2 => [.box [.sl a1.length (a1.flatMap eU8), .i .i64 v1.2.1, .i .i64 b2]]) (fun b2 => m56_r01_Reader_Lists_k2 a1 v1 b2 = some r) (fun _ _ => inbL_of rfl) (fun _ _ => blkinb_of rfl) (fun _ _ => Nat.le_of_ble_eq_true rfl) (fun b2 h => ?_) ?_
  · unfold m56_r01_Reader_Lists_k2 at h
    refine cseq ?_
    refine cregion ?_
    refine sv rfl (opv_mv rfl) ?_
    refine sv rfl (opv_mv rfl) ?_
    obtain ⟨v3, hv3, h⟩ := bind_eq h
    refine scallB (x' := .s (.one (.sl v3.1.length (v3.1.flatMap eU8)))) (M' := [.box [.sl a1.length (a1.flatMap eU8), .i .i64 v3.2.1, .i .i64 v3.2.2]]) [0] rfl fn74 (.func _) (opnds_cons rfl (opnds_cons rfl opnds_nil)) (m74_r01_Reader_takes_c hv3) rfl rfl (by decide) rfl rfl rfl ?_
    refine sv rfl (opv_as rfl) ?_
    refine snil ?_
    refine cret ?_
    obtain rfl := Option.some.inj h
    exact ⟨Or.inr rfl, _, [0], [.one (.sl v3.1.length (v3.1.flatMap eU8))], [.box [.sl a1.length (a1.flatMap eU8), .i .i64 v3.2.1, .i .i64 v3.2.2]], (resVs_cons (ResV.tmp _ _ rfl) resVs_nil), rfl, rfl, ⟨by decide, rfl⟩, rfl, rfl, ⟨rfl, rfl⟩⟩
  · skip
    refine ccond rfl (fun hc => ?_) (fun hc => ?_)
    · replace h := ite_t hc h
      clear hc
      refine cregion ?_
      refine sv rfl (opv_mv rfl) ?_
      obtain ⟨v4, hv4, h⟩ := bind_eq h
      refine scallB (x' := .tup []) (M' := [.box [.sl a1.length (a1.flatMap eU8), .i .i64 v1.2.1, .i .i64 v4]]) [0] rfl fn53 (.func _) (opnds_cons rfl (opnds_cons rfl opnds_nil)) (m53_r01_Reader_Fails_c hv4) rfl rfl (by decide) rfl rfl rfl ?_
      refine snil ?_
      exact ⟨v4, _, h, ⟨rfl, rfl, trivial⟩, rfl⟩
    · replace h := ite_f hc h
      clear hc
      refine cskip ?_
      refine then_normal ?_
      exact ⟨v1.2.2, _, h, ⟨rfl, rfl, trivial⟩, rfl⟩

def m57_r01_Reader_Ends_k1 (a2 : Int) (b1 : Unit) : Option Int :=
  some a2
def m57_r01_Reader_Ends (a0 : List UInt8) (a1 : Int) (a2 : Int) : Option Int :=
  if (decide (a2 = 0)) then (if (decide (a1 < (a0.length : Int))) then (some 3) else (m57_r01_Reader_Ends_k1 a2 ())) else (m57_r01_Reader_Ends_k1 a2 ())

set_option maxRecDepth 100000 in
theorem m57_r01_Reader_Ends_c {a0 : List UInt8} {a1 : Int} {a2 : Int} {r : Int} (h : m57_r01_Reader_Ends a0 a1 a2 = some r) : CallsB Tryd.prog 57 [.box [.sl a0.length (a0.flatMap eU8), .i .i64 a1, .i .i64 a2]] [.one (.lp 0 0)] (fun y m' => y = .s (.one (.i .i64 r)) ∧ m' = [.box [.sl a0.length (a0.flatMap eU8), .i .i64 a1, .i .i64 a2]]) := by
  unfold m57_r01_Reader_Ends at h
  refine callsB_of Tryd.func57 rfl (nt := 24) rfl (Nat.le_of_ble_eq_true rfl) ?_
  intro w0 S0 X0 H0
  refine cseq ?_
  refine cregion ?_
  refine sv rfl (opv_as rfl) ?_
  refine snil ?_
  refine cseq ?_
  refine cseq ?_
  refine cjoin3 (Unit) (fun b1 => [(0, .s (.one (.lp 0 0)))]) (fun b1 => [.box [.sl a0.length (a0.flatMap eU8), .i .i64 a1, .i .i64 a2]]) (fun b1 => m57_r01_Reader_Ends_k1 a2 b1 = some r) (fun _ _ => inbL_of rfl) (fun _ _ => blkinb_of rfl) (fun _ _ => Nat.le_of_ble_eq_true rfl) (fun b1 h => ?_) ?_
  · unfold m57_r01_Reader_Ends_k1 at h
    refine cseq ?_
    refine cregion ?_
    refine sv rfl (opv_mv rfl) ?_
    refine sv rfl (opv_nilCheck rfl rfl (fun _ _ _ h => by cases h)) ?_
    refine sv rfl (opv_fieldAddr_lp fi96_2 rfl) ?_
    refine sv rfl (opv_load1 ti29 rfl (.lp _ _ _ rfl) rfl) ?_
    refine sv rfl (opv_as rfl) ?_
    refine snil ?_
    refine cret ?_
    obtain rfl := Option.some.inj h
    exact ⟨Or.inr rfl, _, [0], [.one (.i .i64 a2)], [.box [.sl a0.length (a0.flatMap eU8), .i .i64 a1, .i .i64 a2]], (resVs_cons (ResV.tmp _ _ rfl) resVs_nil), rfl, rfl, ⟨by decide, rfl⟩, rfl, rfl, ⟨rfl, rfl⟩⟩
  · skip
    refine cdraw mixed (by kernel_rfl) ?_
    refine dv rfl (opv_mv rfl) ?_
    refine dv rfl (opv_nilCheck rfl rfl (fun _ _ _ h => by cases h)) ?_
    refine dv rfl (opv_fieldAddr_lp fi96_2 rfl) ?_
    refine dv rfl (opv_load1 ti29 rfl (.lp _ _ _ rfl) rfl) ?_
    refine dv rfl (opv_ieql rfl rfl) ?_
    refine dv rfl (opv_mv rfl) ?_
    refine dsplit 8 rfl (fun hc => ?_) (fun hc => ?_)
    · replace h := ite_t hc h
      clear hc
      refine dvg rfl rfl rfl (opv_mv rfl) ?_
      refine dvg rfl rfl rfl (opv_nilCheck rfl rfl (fun _ _ _ h => by cases h)) ?_
      refine dvg rfl rfl rfl (opv_fieldAddr_lp fi96_1 rfl) ?_
      refine dvg rfl rfl rfl (opv_load1 ti3 rfl (.lp _ _ _ rfl) rfl) ?_
      refine dvg rfl rfl rfl (opv_mv rfl) ?_
      refine dvg rfl rfl rfl (opv_nilCheck rfl rfl (fun _ _ _ h => by cases h)) ?_
      refine dvg rfl rfl rfl (opv_fieldAddr_lp fi96_0 rfl) ?_
      refine dvg rfl rfl rfl (opv_load1 ti22 rfl (.lp _ _ _ rfl) rfl) ?_
      refine dvg rfl rfl rfl (opv_len_sl si22 rfl) ?_
      refine dvg rfl rfl rfl (opv_lss rfl rfl) ?_
      refine dv rfl (opv_pick_t rfl rfl) ?_
      refine dnil ?_
      refine then_normal ?_
      refine ccond rfl (fun hc => ?_) (fun hc => ?_)
      · replace h := ite_t hc h
        clear hc
        refine cseq ?_
        refine cregion ?_
        refine sv rfl (opv_as rfl) ?_
        refine snil ?_
        refine cret ?_
        refine then_ret ?_
        obtain rfl := Option.some.inj h
        exact ⟨Or.inr rfl, _, [0], [.one (.i .i64 3)], [.box [.sl a0.length (a0.flatMap eU8), .i .i64 a1, .i .i64 a2]], (resVs_cons (ResV.tmp _ _ rfl) resVs_nil), rfl, rfl, ⟨by decide, rfl⟩, rfl, rfl, ⟨rfl, rfl⟩⟩
      · replace h := ite_f hc h
        clear hc
        refine cskip ?_
        refine then_normal ?_
        exact ⟨(), _, h, ⟨rfl, trivial⟩, rfl⟩
    · replace h := ite_f hc h
      clear hc
      refine doff rfl rfl rfl rfl ?_
      refine doff rfl rfl rfl rfl ?_
      refine doff rfl rfl rfl rfl ?_
      refine doff rfl rfl rfl rfl ?_
      refine doff rfl rfl rfl rfl ?_
      refine doff rfl rfl rfl rfl ?_
      refine doff rfl rfl rfl rfl ?_
      refine doff rfl rfl rfl rfl ?_
      refine doff rfl rfl rfl rfl ?_
      refine doff rfl rfl rfl rfl ?_
      refine dv rfl (opv_pick_f rfl rfl) ?_
      refine dnil ?_
      refine then_normal ?_
      refine ccond rfl (fun hx => Bool.noConfusion hx) (fun _ => ?_)
      refine cskip ?_
      refine then_normal ?_
      exact ⟨(), _, h, ⟨rfl, trivial⟩, rfl⟩

def m15_r05_ReadReq_k18 (v2 : (BitVec 64) × Int × Int) (v3 : (BitVec 64) × Int × Int) (b6 : Int × Int × Int) (b8 : Int × Int × Int) (b10 : Int × Int × Bool) (b12 : Int × Int × (List UInt8)) (b14 : Int × Int × (List UInt8)) (b16 : Int × Int × (List UInt8) × (List UInt8) × Bool) (b18 : Int) : Option (GR05Req × Int) :=
  if (!decide (b18 = 0)) then (some ((GR05Req.mk 0 0 0 0 false ([] : List UInt8) ([] : List UInt8) (GApiRange.mk ([] : List UInt8) ([] : List UInt8) false)), b18)) else (some ((GR05Req.mk (wI (v2.1.toNat : Int)) (wI (v3.1.toNat : Int)) b6.2.2 b8.2.2 b10.2.2 b12.2.2 b14.2.2 (GApiRange.mk b16.2.2.1 b16.2.2.2.1 b16.2.2.2.2)), 0))

def m15_r05_ReadReq_k16 (v1 : (List UInt8) × Int × Int) (v2 : (BitVec 64) × Int × Int) (v3 : (BitVec 64) × Int × Int) (b6 : Int × Int × Int) (b8 : Int × Int × Int) (b10 : Int × Int × Bool) (b12 : Int × Int × (List UInt8)) (b14 : Int × Int × (List UInt8)) (b16 : Int × Int × (List UInt8) × (List UInt8) × Bool) : Option (GR05Req × Int) :=
  (m57_r01_Reader_Ends v1.1 b16.1 b16.2.1).bind fun v17 => if (decide (v17 = 0)) then ((m19_r05_SaneReq (GR05Req.mk (wI (v2.1.toNat : Int)) (wI (v3.1.toNat : Int)) b6.2.2 b8.2.2 b10.2.2 b12.2.2 b14.2.2 (GApiRange.mk b16.2.2.1 b16.2.2.2.1 b16.2.2.2.2))).bind fun v19 => if (!v19) then (m15_r05_ReadReq_k18 v2 v3 b6 b8 b10 b12 b14 b16 3) else (m15_r05_ReadReq_k18 v2 v3 b6 b8 b10 b12 b14 b16 v17)) else (m15_r05_ReadReq_k18 v2 v3 b6 b8 b10 b12 b14 b16 v17)

def m15_r05_ReadReq_k14 (v1 : (List UInt8) × Int × Int) (v2 : (BitVec 64) × Int × Int) (v3 : (BitVec 64) × Int × Int) (b6 : Int × Int × Int) (b8 : Int × Int × Int) (b10 : Int × Int × Bool) (b12 : Int × Int × (List UInt8)) (b14 : Int × Int × (List UInt8)) : Option (GR05Req × Int) :=
  (m44_r05_rng (wI (v2.1.toNat : Int))).bind fun v15 => if v15 then ((m56_r01_Reader_Lists 16 v1.1 b14.1 b14.2.1).bind fun v20 => (m55_r01_Reader_Flags v1.1 v20.2.1 v20.2.2).bind fun v21 => (m56_r01_Reader_Lists 16 v1.1 v21.2.1 v21.2.2).bind fun v22 => m15_r05_ReadReq_k16 v1 v2 v3 b6 b8 b10 b12 b14 (v22.2.1, v22.2.2, v20.1, v22.1, v21.1)) else (m15_r05_ReadReq_k16 v1 v2 v3 b6 b8 b10 b12 b14 (b14.1, b14.2.1, ([] : List UInt8), ([] : List UInt8), false))

def m15_r05_ReadReq_k12 (v1 : (List UInt8) × Int × Int) (v2 : (BitVec 64) × Int × Int) (v3 : (BitVec 64) × Int × Int) (b6 : Int × Int × Int) (b8 : Int × Int × Int) (b10 : Int × Int × Bool) (b12 : Int × Int × (List UInt8)) : Option (GR05Req × Int) :=
  (m43_r05_val (wI (v2.1.toNat : Int))).bind fun v13 => if v13 then ((m56_r01_Reader_Lists 32 v1.1 b12.1 b12.2.1).bind fun v23 => m15_r05_ReadReq_k14 v1 v2 v3 b6 b8 b10 b12 (v23.2.1, v23.2.2, v23.1)) else (m15_r05_ReadReq_k14 v1 v2 v3 b6 b8 b10 b12 (b12.1, b12.2.1, ([] : List UInt8)))

def m15_r05_ReadReq_k10 (v1 : (List UInt8) × Int × Int) (v2 : (BitVec 64) × Int × Int) (v3 : (BitVec 64) × Int × Int) (b6 : Int × Int × Int) (b8 : Int × Int × Int) (b10 : Int × Int × Bool) : Option (GR05Req × Int) :=
  (m41_r05_key (wI (v2.1.toNat : Int))).bind fun v11 => if v11 then ((m56_r01_Reader_Lists 16 v1.1 b10.1 b10.2.1).bind fun v24 => m15_r05_ReadReq_k12 v1 v2 v3 b6 b8 b10 (v24.2.1, v24.2.2, v24.1)) else (m15_r05_ReadReq_k12 v1 v2 v3 b6 b8 b10 (b10.1, b10.2.1, ([] : List UInt8)))

def m15_r05_ReadReq_k8 (v1 : (List UInt8) × Int × Int) (v2 : (BitVec 64) × Int × Int) (v3 : (BitVec 64) × Int × Int) (b6 : Int × Int × Int) (b8 : Int × Int × Int) : Option (GR05Req × Int) :=
  (m39_r05_flag (wI (v2.1.toNat : Int))).bind fun v9 => if v9 then ((m55_r01_Reader_Flags v1.1 b8.1 b8.2.1).bind fun v25 => m15_r05_ReadReq_k10 v1 v2 v3 b6 b8 (v25.2.1, v25.2.2, v25.1)) else (m15_r05_ReadReq_k10 v1 v2 v3 b6 b8 (b8.1, b8.2.1, false))

def m15_r05_ReadReq_k6 (v1 : (List UInt8) × Int × Int) (v2 : (BitVec 64) × Int × Int) (v3 : (BitVec 64) × Int × Int) (b6 : Int × Int × Int) : Option (GR05Req × Int) :=
  (m38_r05_attempt (wI (v2.1.toNat : Int))).bind fun v7 => if v7 then ((m52_r01_Reader_Us 2 v1.1 b6.1 b6.2.1).bind fun v26 => m15_r05_ReadReq_k8 v1 v2 v3 b6 (v26.2.1, v26.2.2, (wI (v26.1.toNat : Int)))) else (m15_r05_ReadReq_k8 v1 v2 v3 b6 (b6.1, b6.2.1, 0))

def m15_r05_ReadReq_k4 (v1 : (List UInt8) × Int × Int) (v2 : (BitVec 64) × Int × Int) (v3 : (BitVec 64) × Int × Int) (b4 : Int) : Option (GR05Req × Int) :=
  (m37_r05_token (wI (v2.1.toNat : Int))).bind fun v5 => if v5 then ((m54_r05_numbers v1.1 v3.2.1 b4).bind fun v27 => m15_r05_ReadReq_k6 v1 v2 v3 (v27.2.1, v27.2.2, v27.1)) else (m15_r05_ReadReq_k6 v1 v2 v3 (v3.2.1, b4, 0))
def m15_r05_ReadReq (a0 : List UInt8) : Option (GR05Req × Int) :=
  (m51_r01_News a0).bind fun v1 => (m52_r01_Reader_Us 1 v1.1 v1.2.1 v1.2.2).bind fun v2 => (m52_r01_Reader_Us 4 v1.1 v2.2.1 v2.2.2).bind fun v3 => if (decide ((wI (v2.1.toNat : Int)) < 1)) then ((m53_r01_Reader_Fails 3 v1.1 v3.2.1 v3.2.2).bind fun v28 => m15_r05_ReadReq_k4 v1 v2 v3 v28) else (if (decide (11 < (wI (v2.1.toNat : Int)))) then ((m53_r01_Reader_Fails 3 v1.1 v3.2.1 v3.2.2).bind fun v29 => m15_r05_ReadReq_k4 v1 v2 v3 v29) else (m15_r05_ReadReq_k4 v1 v2 v3 v3.2.2))

set_option maxRecDepth 100000 in
theorem m15_r05_ReadReq_c {a0 : List UInt8} {r : GR05Req × Int} (h : m15_r05_ReadReq a0 = some r) : CallsA Tryd.prog 15 [.one (.sl a0.length (a0.flatMap eU8))] (· = .tup [.agg [.i .i64 r.1.Kind, .i .i64 r.1.Seq, .i .i64 r.1.Token, .i .i64 r.1.Attempt, .b r.1.RO, .sl r.1.Key.length (r.1.Key.flatMap eU8), .sl r.1.Val.length (r.1.Val.flatMap eU8), .sl r.1.Rng.Lo.length (r.1.Rng.Lo.flatMap eU8), .sl r.1.Rng.Hi.length (r.1.Rng.Hi.flatMap eU8), .b r.1.Rng.Open], .one (.i .i64 r.2)]) := by
  unfold m15_r05_ReadReq at h
  refine callsA_of Tryd.func15 rfl (nt := 87) rfl (Nat.le_of_ble_eq_true rfl) ?_
  intro w0 S0
  refine cseq ?_
  refine cregion ?_
  refine salloc rfl zi26 ?_
  refine sv rfl (opv_as rfl) ?_
  refine snil ?_
  refine cseq ?_
  refine cregion ?_
  refine sv rfl (opv_mv rfl) ?_
  obtain ⟨v1, hv1, h⟩ := bind_eq h
  refine scallB (x' := .s (.one (.lp 1 0))) (M' := [.box [.i .i64 0, .i .i64 0, .i .i64 0, .i .i64 0, .b false, .raw (.slice none 0 0), .raw (.slice none 0 0), .raw (.slice none 0 0), .raw (.slice none 0 0), .b false], .box [.sl v1.1.length (v1.1.flatMap eU8), .i .i64 v1.2.1, .i .i64 v1.2.2]]) [] rfl fn51 (.func _) (opnds_cons rfl opnds_nil) (m51_r01_News_c hv1) rfl rfl (by decide) rfl rfl rfl ?_
  refine sv rfl (opv_as rfl) ?_
  refine snil ?_
  refine cseq ?_
  refine cregion ?_
  refine sv rfl (opv_mv rfl) ?_
  obtain ⟨v2, hv2, h⟩ := bind_eq h
  refine scallB (x' := .s (.one (.i .u64 (v2.1.toNat : Int)))) (M' := [.box [.i .i64 0, .i .i64 0, .i .i64 0, .i .i64 0, .b false, .raw (.slice none 0 0), .raw (.slice none 0 0), .raw (.slice none 0 0), .raw (.slice none 0 0), .b false], .box [.sl v1.1.length (v1.1.flatMap eU8), .i .i64 v2.2.1, .i .i64 v2.2.2]]) [1] rfl fn52 (.func _) (opnds_cons rfl (opnds_cons rfl opnds_nil)) (m52_r01_Reader_Us_c hv2) rfl rfl (by decide) rfl rfl rfl ?_
  refine sv rfl (opv_conv_int Tryd.underlying69 Tryd.underlying3 rfl) ?_
  refine sv rfl (opv_build zi26 pi26 (parts_cons rfl parts_nil) (.cons _ _ _ _ _ _ _ rfl rfl (Nat.le_of_ble_eq_true rfl) (.nil _))) ?_
  refine salloc rfl zi26 ?_
  refine sstore sz26 rfl rfl rfl rfl (Nat.le_of_ble_eq_true rfl) ?_
  refine smem [.box [.i .i64 0, .i .i64 0, .i .i64 0, .i .i64 0, .b false, .raw (.slice none 0 0), .raw (.slice none 0 0), .raw (.slice none 0 0), .raw (.slice none 0 0), .b false], .box [.sl v1.1.length (v1.1.flatMap eU8), .i .i64 v2.2.1, .i .i64 v2.2.2], .box [.i .i64 (wI (v2.1.toNat : Int)), .i .i64 0, .i .i64 0, .i .i64 0, .b false, .raw (.slice none 0 0), .raw (.slice none 0 0), .raw (.slice none 0 0), .raw (.slice none 0 0), .b false]] rfl ?_
  refine snil ?_
  refine cseq ?_
  refine cregion ?_
  refine sv rfl (opv_mv rfl) ?_
  obtain ⟨v3, hv3, h⟩ := bind_eq h
  refine scallB (x' := .s (.one (.i .u64 (v3.1.toNat : Int)))) (M' := [.box [.i .i64 0, .i .i64 0, .i .i64 0, .i .i64 0, .b false, .raw (.slice none 0 0), .raw (.slice none 0 0), .raw (.slice none 0 0), .raw (.slice none 0 0), .b false], .box [.sl v1.1.length (v1.1.flatMap eU8), .i .i64 v3.2.1, .i .i64 v3.2.2], .box [.i .i64 (wI (v2.1.toNat : Int)), .i .i64 0, .i .i64 0, .i .i64 0, .b false, .raw (.slice none 0 0), .raw (.slice none 0 0), .raw (.slice none 0 0), .raw (.slice none 0 0), .b false]]) [1] rfl fn52 (.func _) (opnds_cons rfl (opnds_cons rfl opnds_nil)) (m52_r01_Reader_Us_c hv3) rfl rfl (by decide) rfl rfl rfl ?_
  refine sv rfl (opv_conv_int Tryd.underlying69 Tryd.underlying3 rfl) ?_
  refine sv rfl (opv_fieldAddr_lp fi26_1 rfl) ?_
  refine sstore sz3 rfl rfl rfl rfl (Nat.le_of_ble_eq_true rfl) ?_
  refine smem [.box [.i .i64 0, .i .i64 0, .i .i64 0, .i .i64 0, .b false, .raw (.slice none 0 0), .raw (.slice none 0 0), .raw (.slice none 0 0), .raw (.slice none 0 0), .b false], .box [.sl v1.1.length (v1.1.flatMap eU8), .i .i64 v3.2.1, .i .i64 v3.2.2], .box [.i .i64 (wI (v2.1.toNat : Int)), .i .i64 (wI (v3.1.toNat : Int)), .i .i64 0, .i .i64 0, .b false, .raw (.slice none 0 0), .raw (.slice none 0 0), .raw (.slice none 0 0), .raw (.slice none 0 0), .b false]] rfl ?_
  refine snil ?_
  refine cseq ?_
  refine cseq ?_
  refine cjoin3 (Int) (fun b4 => [(2, .s (.one (.lp 0 0))), (4, .s (.one (.lp 1 0))), (5, .s (.one (.lp 2 0)))]) (fun b4 => [.box [.i .i64 0, .i .i64 0, .i .i64 0, .i .i64 0, .b false, .raw (.slice none 0 0), .raw (.slice none 0 0), .raw (.slice none 0 0), .raw (.slice none 0 0), .b false], .box [.sl v1.1.length (v1.1.flatMap eU8), .i .i64 v3.2.1, .i .i64 b4], .box [.i .i64 (wI (v2.1.toNat : Int)), .i .i64 (wI (v3.1.toNat : Int)), .i .i64 0, .i .i64 0, .b false, .raw (.slice none 0 0), .raw (.slice none 0 0), .raw (.slice none 0 0), .raw (.slice none 0 0), .b false]]) (fun b4 => m15_r05_ReadReq_k4 v1 v2 v3 b4 = some r) (fun _ _ => inbL_of rfl) (fun _ _ => blkinb_of rfl) (fun _ _ => Nat.le_of_ble_eq_true rfl) (fun b4 h => ?_) ?_
  · unfold m15_r05_ReadReq_k4 at h
    refine cseq ?_
    refine cseq ?_
    refine cregion ?_
    refine sv rfl (opv_fieldAddr_lp fi26_0 rfl) ?_
    refine sv rfl (opv_load1 ti3 rfl (.lp _ _ _ rfl) rfl) ?_
    obtain ⟨v5, hv5, h⟩ := bind_eq h
    refine scall1 rfl fn37 (opnds_cons rfl opnds_nil) (pubA_id rfl) (m37_r05_token_c hv5) ?_
    refine snil ?_
    refine cjoin (Int × Int × Int) (fun b6 => [(2, .s (.one (.lp 0 0))), (4, .s (.one (.lp 1 0))), (5, .s (.one (.lp 2 0)))]) (fun b6 => [.box [.i .i64 0, .i .i64 0, .i .i64 0, .i .i64 0, .b false, .raw (.slice none 0 0), .raw (.slice none 0 0), .raw (.slice none 0 0), .raw (.slice none 0 0), .b false], .box [.sl v1.1.length (v1.1.flatMap eU8), .i .i64 b6.1, .i .i64 b6.2.1], .box [.i .i64 (wI (v2.1.toNat : Int)), .i .i64 (wI (v3.1.toNat : Int)), .i .i64 b6.2.2, .i .i64 0, .b false, .raw (.slice none 0 0), .raw (.slice none 0 0), .raw (.slice none 0 0), .raw (.slice none 0 0), .b false]]) (fun b6 => m15_r05_ReadReq_k6 v1 v2 v3 b6 = some r) (fun _ _ => inbL_of rfl) (fun _ _ => blkinb_of rfl) (fun _ _ => Nat.le_of_ble_eq_true rfl) (fun b6 h => ?_) ?_
    · unfold m15_r05_ReadReq_k6 at h
      refine cseq ?_
      refine cseq ?_
      refine cregion ?_
      refine sv rfl (opv_fieldAddr_lp fi26_0 rfl) ?_
      refine sv rfl (opv_load1 ti3 rfl (.lp _ _ _ rfl) rfl) ?_
      obtain ⟨v7, hv7, h⟩ := bind_eq h
      refine scall1 rfl fn38 (opnds_cons rfl opnds_nil) (pubA_id rfl) (m38_r05_attempt_c hv7) ?_
      refine snil ?_
      refine cjoin (Int × Int × Int) (fun b8 => [(2, .s (.one (.lp 0 0))), (4, .s (.one (.lp 1 0))), (5, .s (.one (.lp 2 0)))]) (fun b8 => [.box [.i .i64 0, .i .i64 0, .i .i64 0, .i .i64 0, .b false, .raw (.slice none 0 0), .raw (.slice none 0 0), .raw (.slice none 0 0), .raw (.slice none 0 0), .b false], .box [.sl v1.1.length (v1.1.flatMap eU8), .i .i64 b8.1, .i .i64 b8.2.1], .box [.i .i64 (wI (v2.1.toNat : Int)), .i .i64 (wI (v3.1.toNat : Int)), .i .i64 b6.2.2, .i .i64 b8.2.2, .b false, .raw (.slice none 0 0), .raw (.slice none 0 0), .raw (.slice none 0 0), .raw (.slice none 0 0), .b false]]) (fun b8 => m15_r05_ReadReq_k8 v1 v2 v3 b6 b8 = some r) (fun _ _ => inbL_of rfl) (fun _ _ => blkinb_of rfl) (fun _ _ => Nat.le_of_ble_eq_true rfl) (fun b8 h => ?_) ?_
      · unfold m15_r05_ReadReq_k8 at h
        refine cseq ?_
        refine cseq ?_
        refine cregion ?_
        refine sv rfl (opv_fieldAddr_lp fi26_0 rfl) ?_
        refine sv rfl (opv_load1 ti3 rfl (.lp _ _ _ rfl) rfl) ?_
        obtain ⟨v9, hv9, h⟩ := bind_eq h
        refine scall1 rfl fn39 (opnds_cons rfl opnds_nil) (pubA_id rfl) (m39_r05_flag_c hv9) ?_
        refine snil ?_
        refine cjoin (Int × Int × Bool) (fun b10 => [(2, .s (.one (.lp 0 0))), (4, .s (.one (.lp 1 0))), (5, .s (.one (.lp 2 0)))]) (fun b10 => [.box [.i .i64 0, .i .i64 0, .i .i64 0, .i .i64 0, .b false, .raw (.slice none 0 0), .raw (.slice none 0 0), .raw (.slice none 0 0), .raw (.slice none 0 0), .b false], .box [.sl v1.1.length (v1.1.flatMap eU8), .i .i64 b10.1, .i .i64 b10.2.1], .box [.i .i64 (wI (v2.1.toNat : Int)), .i .i64 (wI (v3.1.toNat : Int)), .i .i64 b6.2.2, .i .i64 b8.2.2, .b b10.2.2, .raw (.slice none 0 0), .raw (.slice none 0 0), .raw (.slice none 0 0), .raw (.slice none 0 0), .b false]]) (fun b10 => m15_r05_ReadReq_k10 v1 v2 v3 b6 b8 b10 = some r) (fun _ _ => inbL_of rfl) (fun _ _ => blkinb_of rfl) (fun _ _ => Nat.le_of_ble_eq_true rfl) (fun b10 h => ?_) ?_
        · unfold m15_r05_ReadReq_k10 at h
          refine cseq ?_
          refine cseq ?_
          refine cregion ?_
          refine sv rfl (opv_fieldAddr_lp fi26_0 rfl) ?_
          refine sv rfl (opv_load1 ti3 rfl (.lp _ _ _ rfl) rfl) ?_
          obtain ⟨v11, hv11, h⟩ := bind_eq h
          refine scall1 rfl fn41 (opnds_cons rfl opnds_nil) (pubA_id rfl) (m41_r05_key_c hv11) ?_
          refine snil ?_
          refine cjoin (Int × Int × (List UInt8)) (fun b12 => [(2, .s (.one (.lp 0 0))), (4, .s (.one (.lp 1 0))), (5, .s (.one (.lp 2 0)))]) (fun b12 => [.box [.i .i64 0, .i .i64 0, .i .i64 0, .i .i64 0, .b false, .raw (.slice none 0 0), .raw (.slice none 0 0), .raw (.slice none 0 0), .raw (.slice none 0 0), .b false], .box [.sl v1.1.length (v1.1.flatMap eU8), .i .i64 b12.1, .i .i64 b12.2.1], .box [.i .i64 (wI (v2.1.toNat : Int)), .i .i64 (wI (v3.1.toNat : Int)), .i .i64 b6.2.2, .i .i64 b8.2.2, .b b10.2.2, .sl b12.2.2.length (b12.2.2.flatMap eU8), .raw (.slice none 0 0), .raw (.slice none 0 0), .raw (.slice none 0 0), .b false]]) (fun b12 => m15_r05_ReadReq_k12 v1 v2 v3 b6 b8 b10 b12 = some r) (fun _ _ => inbL_of rfl) (fun _ _ => blkinb_of rfl) (fun _ _ => Nat.le_of_ble_eq_true rfl) (fun b12 h => ?_) ?_
          · unfold m15_r05_ReadReq_k12 at h
            refine cseq ?_
            refine cseq ?_
            refine cregion ?_
            refine sv rfl (opv_fieldAddr_lp fi26_0 rfl) ?_
            refine sv rfl (opv_load1 ti3 rfl (.lp _ _ _ rfl) rfl) ?_
            obtain ⟨v13, hv13, h⟩ := bind_eq h
            refine scall1 rfl fn43 (opnds_cons rfl opnds_nil) (pubA_id rfl) (m43_r05_val_c hv13) ?_
            refine snil ?_
            refine cjoin (Int × Int × (List UInt8)) (fun b14 => [(2, .s (.one (.lp 0 0))), (4, .s (.one (.lp 1 0))), (5, .s (.one (.lp 2 0)))]) (fun b14 => [.box [.i .i64 0, .i .i64 0, .i .i64 0, .i .i64 0, .b false, .raw (.slice none 0 0), .raw (.slice none 0 0), .raw (.slice none 0 0), .raw (.slice none 0 0), .b false], .box [.sl v1.1.length (v1.1.flatMap eU8), .i .i64 b14.1, .i .i64 b14.2.1], .box [.i .i64 (wI (v2.1.toNat : Int)), .i .i64 (wI (v3.1.toNat : Int)), .i .i64 b6.2.2, .i .i64 b8.2.2, .b b10.2.2, .sl b12.2.2.length (b12.2.2.flatMap eU8), .sl b14.2.2.length (b14.2.2.flatMap eU8), .raw (.slice none 0 0), .raw (.slice none 0 0), .b false]]) (fun b14 => m15_r05_ReadReq_k14 v1 v2 v3 b6 b8 b10 b12 b14 = some r) (fun _ _ => inbL_of rfl) (fun _ _ => blkinb_of rfl) (fun _ _ => Nat.le_of_ble_eq_true rfl) (fun b14 h => ?_) ?_
            · unfold m15_r05_ReadReq_k14 at h
              refine cseq ?_
              refine cseq ?_
              refine cregion ?_
              refine sv rfl (opv_fieldAddr_lp fi26_0 rfl) ?_
              refine sv rfl (opv_load1 ti3 rfl (.lp _ _ _ rfl) rfl) ?_
              obtain ⟨v15, hv15, h⟩ := bind_eq h
              refine scall1 rfl fn44 (opnds_cons rfl opnds_nil) (pubA_id rfl) (m44_r05_rng_c hv15) ?_
              refine snil ?_
              refine cjoin (Int × Int × (List UInt8) × (List UInt8) × Bool) (fun b16 => [(2, .s (.one (.lp 0 0))), (4, .s (.one (.lp 1 0))), (5, .s (.one (.lp 2 0)))]) (fun b16 => [.box [.i .i64 0, .i .i64 0, .i .i64 0, .i .i64 0, .b false, .raw (.slice none 0 0), .raw (.slice none 0 0), .raw (.slice none 0 0), .raw (.slice none 0 0), .b false], .box [.sl v1.1.length (v1.1.flatMap eU8), .i .i64 b16.1, .i .i64 b16.2.1], .box [.i .i64 (wI (v2.1.toNat : Int)), .i .i64 (wI (v3.1.toNat : Int)), .i .i64 b6.2.2, .i .i64 b8.2.2, .b b10.2.2, .sl b12.2.2.length (b12.2.2.flatMap eU8), .sl b14.2.2.length (b14.2.2.flatMap eU8), .sl b16.2.2.1.length (b16.2.2.1.flatMap eU8), .sl b16.2.2.2.1.length (b16.2.2.2.1.flatMap eU8), .b b16.2.2.2.2]]) (fun b16 => m15_r05_ReadReq_k16 v1 v2 v3 b6 b8 b10 b12 b14 b16 = some r) (fun _ _ => inbL_of rfl) (fun _ _ => blkinb_of rfl) (fun _ _ => Nat.le_of_ble_eq_true rfl) (fun b16 h => ?_) ?_
              · unfold m15_r05_ReadReq_k16 at h
                refine cseq ?_
                refine cregion ?_
                refine sv rfl (opv_mv rfl) ?_
                obtain ⟨v17, hv17, h⟩ := bind_eq h
                refine scallB (x' := .s (.one (.i .i64 v17))) (M' := [.box [.i .i64 0, .i .i64 0, .i .i64 0, .i .i64 0, .b false, .raw (.slice none 0 0), .raw (.slice none 0 0), .raw (.slice none 0 0), .raw (.slice none 0 0), .b false], .box [.sl v1.1.length (v1.1.flatMap eU8), .i .i64 b16.1, .i .i64 b16.2.1], .box [.i .i64 (wI (v2.1.toNat : Int)), .i .i64 (wI (v3.1.toNat : Int)), .i .i64 b6.2.2, .i .i64 b8.2.2, .b b10.2.2, .sl b12.2.2.length (b12.2.2.flatMap eU8), .sl b14.2.2.length (b14.2.2.flatMap eU8), .sl b16.2.2.1.length (b16.2.2.1.flatMap eU8), .sl b16.2.2.2.1.length (b16.2.2.2.1.flatMap eU8), .b b16.2.2.2.2]]) [1] rfl fn57 (.func _) (opnds_cons rfl opnds_nil) (m57_r01_Reader_Ends_c hv17) rfl rfl (by decide) rfl rfl rfl ?_
                refine sv rfl (opv_as rfl) ?_
                refine snil ?_
                refine cseq ?_
                refine cseq ?_
                refine cjoin3 (Int) (fun b18 => [(2, .s (.one (.lp 0 0))), (5, .s (.one (.lp 2 0))), (6, .s (.one (.i .i64 b18)))]) (fun b18 => [.box [.i .i64 0, .i .i64 0, .i .i64 0, .i .i64 0, .b false, .raw (.slice none 0 0), .raw (.slice none 0 0), .raw (.slice none 0 0), .raw (.slice none 0 0), .b false], .box [.sl v1.1.length (v1.1.flatMap eU8), .i .i64 b16.1, .i .i64 b16.2.1], .box [.i .i64 (wI (v2.1.toNat : Int)), .i .i64 (wI (v3.1.toNat : Int)), .i .i64 b6.2.2, .i .i64 b8.2.2, .b b10.2.2, .sl b12.2.2.length (b12.2.2.flatMap eU8), .sl b14.2.2.length (b14.2.2.flatMap eU8), .sl b16.2.2.1.length (b16.2.2.1.flatMap eU8), .sl b16.2.2.2.1.length (b16.2.2.2.1.flatMap eU8), .b b16.2.2.2.2]]) (fun b18 => m15_r05_ReadReq_k18 v2 v3 b6 b8 b10 b12 b14 b16 b18 = some r) (fun _ _ => inbL_of rfl) (fun _ _ => blkinb_of rfl) (fun _ _ => Nat.le_of_ble_eq_true rfl) (fun b18 h => ?_) ?_
                · unfold m15_r05_ReadReq_k18 at h
                  refine cseq ?_
                  refine cseq ?_
                  refine cregion ?_
                  refine sv rfl (opv_mv rfl) ?_
                  refine sv rfl (opv_ineq rfl rfl) ?_
                  refine snil ?_
                  refine ccond rfl (fun hc => ?_) (fun hc => ?_)
                  · replace h := ite_t hc h
                    clear hc
                    refine cseq ?_
                    refine cregion ?_
                    refine sv rfl (opv_build zi26 pi26 parts_nil (.nil _)) ?_
                    refine sv rfl (opv_mv rfl) ?_
                    refine sstore sz26 rfl rfl rfl rfl (Nat.le_of_ble_eq_true rfl) ?_
                    refine smem [.box [.i .i64 0, .i .i64 0, .i .i64 0, .i .i64 0, .b false, .raw (.slice none 0 0), .raw (.slice none 0 0), .raw (.slice none 0 0), .raw (.slice none 0 0), .b false], .box [.sl v1.1.length (v1.1.flatMap eU8), .i .i64 b16.1, .i .i64 b16.2.1], .box [.i .i64 (wI (v2.1.toNat : Int)), .i .i64 (wI (v3.1.toNat : Int)), .i .i64 b6.2.2, .i .i64 b8.2.2, .b b10.2.2, .sl b12.2.2.length (b12.2.2.flatMap eU8), .sl b14.2.2.length (b14.2.2.flatMap eU8), .sl b16.2.2.1.length (b16.2.2.1.flatMap eU8), .sl b16.2.2.2.1.length (b16.2.2.2.1.flatMap eU8), .b b16.2.2.2.2]] rfl ?_
                    refine sv rfl (opv_as rfl) ?_
                    refine snil ?_
                    refine cret ?_
                    refine then_ret ?_
                    obtain rfl := Option.some.inj h
                    refine ⟨Or.inr rfl, _, _, _, (resVs_cons (ResV.agg _ _ _ _ _ ti26 rfl (.lp _ _ _ rfl) (Nat.le_of_ble_eq_true rfl)) (resVs_cons (ResV.tmp _ _ rfl) resVs_nil)), (pubC rfl), ?_⟩
                    rfl
                  · replace h := ite_f hc h
                    clear hc
                    refine cskip ?_
                    refine then_normal ?_
                    refine cseq ?_
                    refine cregion ?_
                    refine sv rfl (opv_loadN ti26 rfl (.lp _ _ _ rfl) (Nat.le_of_ble_eq_true rfl)) ?_
                    refine sstore sz26 rfl rfl rfl rfl (Nat.le_of_ble_eq_true rfl) ?_
                    refine smem [.box [.i .i64 (wI (v2.1.toNat : Int)), .i .i64 (wI (v3.1.toNat : Int)), .i .i64 b6.2.2, .i .i64 b8.2.2, .b b10.2.2, .sl b12.2.2.length (b12.2.2.flatMap eU8), .sl b14.2.2.length (b14.2.2.flatMap eU8), .sl b16.2.2.1.length (b16.2.2.1.flatMap eU8), .sl b16.2.2.2.1.length (b16.2.2.2.1.flatMap eU8), .b b16.2.2.2.2], .box [.sl v1.1.length (v1.1.flatMap eU8), .i .i64 b16.1, .i .i64 b16.2.1], .box [.i .i64 (wI (v2.1.toNat : Int)), .i .i64 (wI (v3.1.toNat : Int)), .i .i64 b6.2.2, .i .i64 b8.2.2, .b b10.2.2, .sl b12.2.2.length (b12.2.2.flatMap eU8), .sl b14.2.2.length (b14.2.2.flatMap eU8), .sl b16.2.2.1.length (b16.2.2.1.flatMap eU8), .sl b16.2.2.2.1.length (b16.2.2.2.1.flatMap eU8), .b b16.2.2.2.2]] rfl ?_
                    refine sv rfl (opv_as rfl) ?_
                    refine snil ?_
                    refine cret ?_
                    obtain rfl := Option.some.inj h
                    refine ⟨Or.inr rfl, _, _, _, (resVs_cons (ResV.agg _ _ _ _ _ ti26 rfl (.lp _ _ _ rfl) (Nat.le_of_ble_eq_true rfl)) (resVs_cons (ResV.tmp _ _ rfl) resVs_nil)), (pubA_id rfl), ?_⟩
                    rfl
                · skip
                  refine cregion ?_
                  refine sv rfl (opv_mv rfl) ?_
                  refine sv rfl (opv_ieql rfl rfl) ?_
                  refine sv rfl (opv_mv rfl) ?_
                  refine ssplit 77 rfl (fun hc => ?_) (fun hc => ?_)
                  · replace h := ite_t hc h
                    clear hc
                    refine son rfl rfl rfl ?_
                    refine sv rfl (opv_loadN ti26 rfl (.lp _ _ _ rfl) (Nat.le_of_ble_eq_true rfl)) ?_
                    refine son rfl rfl rfl ?_
                    obtain ⟨v19, hv19, h⟩ := bind_eq h
                    refine scall1 rfl fn19 (opnds_cons rfl opnds_nil) (pubA_id rfl) (m19_r05_SaneReq_c hv19) ?_
                    refine son rfl rfl rfl ?_
                    refine sv rfl (opv_not rfl) ?_
                    refine sv rfl (opv_pick_t rfl rfl) ?_
                    refine snil ?_
                    refine ccond rfl (fun hc => ?_) (fun hc => ?_)
                    · replace h := ite_t hc h
                      clear hc
                      refine cregion ?_
                      refine sv rfl (opv_as rfl) ?_
                      refine snil ?_
                      exact ⟨3, _, h, ⟨rfl, rfl, rfl, trivial⟩, rfl⟩
                    · replace h := ite_f hc h
                      clear hc
                      refine cskip ?_
                      refine then_normal ?_
                      exact ⟨v17, _, h, ⟨rfl, rfl, rfl, trivial⟩, rfl⟩
                  · replace h := ite_f hc h
                    clear hc
                    refine soff rfl rfl rfl rfl ?_
                    refine soff rfl rfl rfl rfl ?_
                    refine soff rfl rfl rfl rfl ?_
                    refine sv rfl (opv_pick_f rfl rfl) ?_
                    refine snil ?_
                    refine ccond rfl (fun hx => Bool.noConfusion hx) (fun _ => ?_)
                    refine cskip ?_
                    refine then_normal ?_
                    exact ⟨v17, _, h, ⟨rfl, rfl, rfl, trivial⟩, rfl⟩
              · skip
                refine ccond rfl (fun hc => ?_) (fun hc => ?_)
                · replace h := ite_t hc h
                  clear hc
                  refine cseq ?_
                  refine cregion ?_
                  refine sv rfl (opv_mv rfl) ?_
                  obtain ⟨v20, hv20, h⟩ := bind_eq h
                  refine scallB (x' := .s (.one (.sl v20.1.length (v20.1.flatMap eU8)))) (M' := [.box [.i .i64 0, .i .i64 0, .i .i64 0, .i .i64 0, .b false, .raw (.slice none 0 0), .raw (.slice none 0 0), .raw (.slice none 0 0), .raw (.slice none 0 0), .b false], .box [.sl v1.1.length (v1.1.flatMap eU8), .i .i64 v20.2.1, .i .i64 v20.2.2], .box [.i .i64 (wI (v2.1.toNat : Int)), .i .i64 (wI (v3.1.toNat : Int)), .i .i64 b6.2.2, .i .i64 b8.2.2, .b b10.2.2, .sl b12.2.2.length (b12.2.2.flatMap eU8), .sl b14.2.2.length (b14.2.2.flatMap eU8), .raw (.slice none 0 0), .raw (.slice none 0 0), .b false]]) [1] rfl fn56 (.func _) (opnds_cons rfl (opnds_cons rfl opnds_nil)) (m56_r01_Reader_Lists_c hv20) rfl rfl (by decide) rfl rfl rfl ?_
                  refine sv rfl (opv_fieldAddr_lp fi26_7 rfl) ?_
                  refine sv rfl (opv_fieldAddr_lp fi24_0 rfl) ?_
                  refine sstore sz22 rfl rfl rfl rfl (Nat.le_of_ble_eq_true rfl) ?_
                  refine smem [.box [.i .i64 0, .i .i64 0, .i .i64 0, .i .i64 0, .b false, .raw (.slice none 0 0), .raw (.slice none 0 0), .raw (.slice none 0 0), .raw (.slice none 0 0), .b false], .box [.sl v1.1.length (v1.1.flatMap eU8), .i .i64 v20.2.1, .i .i64 v20.2.2], .box [.i .i64 (wI (v2.1.toNat : Int)), .i .i64 (wI (v3.1.toNat : Int)), .i .i64 b6.2.2, .i .i64 b8.2.2, .b b10.2.2, .sl b12.2.2.length (b12.2.2.flatMap eU8), .sl b14.2.2.length (b14.2.2.flatMap eU8), .sl v20.1.length (v20.1.flatMap eU8), .raw (.slice none 0 0), .b false]] rfl ?_
                  refine snil ?_
                  refine cseq ?_
                  refine cregion ?_
                  refine sv rfl (opv_mv rfl) ?_
                  obtain ⟨v21, hv21, h⟩ := bind_eq h
                  refine scallB (x' := .s (.one (.b v21.1))) (M' := [.box [.i .i64 0, .i .i64 0, .i .i64 0, .i .i64 0, .b false, .raw (.slice none 0 0), .raw (.slice none 0 0), .raw (.slice none 0 0), .raw (.slice none 0 0), .b false], .box [.sl v1.1.length (v1.1.flatMap eU8), .i .i64 v21.2.1, .i .i64 v21.2.2], .box [.i .i64 (wI (v2.1.toNat : Int)), .i .i64 (wI (v3.1.toNat : Int)), .i .i64 b6.2.2, .i .i64 b8.2.2, .b b10.2.2, .sl b12.2.2.length (b12.2.2.flatMap eU8), .sl b14.2.2.length (b14.2.2.flatMap eU8), .sl v20.1.length (v20.1.flatMap eU8), .raw (.slice none 0 0), .b false]]) [1] rfl fn55 (.func _) (opnds_cons rfl opnds_nil) (m55_r01_Reader_Flags_c hv21) rfl rfl (by decide) rfl rfl rfl ?_
                  refine sv rfl (opv_fieldAddr_lp fi26_7 rfl) ?_
                  refine sv rfl (opv_fieldAddr_lp fi24_2 rfl) ?_
                  refine sstore sz4 rfl rfl rfl rfl (Nat.le_of_ble_eq_true rfl) ?_
                  refine smem [.box [.i .i64 0, .i .i64 0, .i .i64 0, .i .i64 0, .b false, .raw (.slice none 0 0), .raw (.slice none 0 0), .raw (.slice none 0 0), .raw (.slice none 0 0), .b false], .box [.sl v1.1.length (v1.1.flatMap eU8), .i .i64 v21.2.1, .i .i64 v21.2.2], .box [.i .i64 (wI (v2.1.toNat : Int)), .i .i64 (wI (v3.1.toNat : Int)), .i .i64 b6.2.2, .i .i64 b8.2.2, .b b10.2.2, .sl b12.2.2.length (b12.2.2.flatMap eU8), .sl b14.2.2.length (b14.2.2.flatMap eU8), .sl v20.1.length (v20.1.flatMap eU8), .raw (.slice none 0 0), .b v21.1]] rfl ?_
                  refine snil ?_
                  refine cregion ?_
                  refine sv rfl (opv_mv rfl) ?_
                  obtain ⟨v22, hv22, h⟩ := bind_eq h
                  refine scallB (x' := .s (.one (.sl v22.1.length (v22.1.flatMap eU8)))) (M' := [.box [.i .i64 0, .i .i64 0, .i .i64 0, .i .i64 0, .b false, .raw (.slice none 0 0), .raw (.slice none 0 0), .raw (.slice none 0 0), .raw (.slice none 0 0), .b false], .box [.sl v1.1.length (v1.1.flatMap eU8), .i .i64 v22.2.1, .i .i64 v22.2.2], .box [.i .i64 (wI (v2.1.toNat : Int)), .i .i64 (wI (v3.1.toNat : Int)), .i .i64 b6.2.2, .i .i64 b8.2.2, .b b10.2.2, .sl b12.2.2.length (b12.2.2.flatMap eU8), .sl b14.2.2.length (b14.2.2.flatMap eU8), .sl v20.1.length (v20.1.flatMap eU8), .raw (.slice none 0 0), .b v21.1]]) [1] rfl fn56 (.func _) (opnds_cons rfl (opnds_cons rfl opnds_nil)) (m56_r01_Reader_Lists_c hv22) rfl rfl (by decide) rfl rfl rfl ?_
                  refine sv rfl (opv_fieldAddr_lp fi26_7 rfl) ?_
                  refine sv rfl (opv_fieldAddr_lp fi24_1 rfl) ?_
                  refine sstore sz22 rfl rfl rfl rfl (Nat.le_of_ble_eq_true rfl) ?_
                  refine smem [.box [.i .i64 0, .i .i64 0, .i .i64 0, .i .i64 0, .b false, .raw (.slice none 0 0), .raw (.slice none 0 0), .raw (.slice none 0 0), .raw (.slice none 0 0), .b false], .box [.sl v1.1.length (v1.1.flatMap eU8), .i .i64 v22.2.1, .i .i64 v22.2.2], .box [.i .i64 (wI (v2.1.toNat : Int)), .i .i64 (wI (v3.1.toNat : Int)), .i .i64 b6.2.2, .i .i64 b8.2.2, .b b10.2.2, .sl b12.2.2.length (b12.2.2.flatMap eU8), .sl b14.2.2.length (b14.2.2.flatMap eU8), .sl v20.1.length (v20.1.flatMap eU8), .sl v22.1.length (v22.1.flatMap eU8), .b v21.1]] rfl ?_
                  refine snil ?_
                  exact ⟨(v22.2.1, v22.2.2, v20.1, v22.1, v21.1), _, h, ⟨rfl, rfl, rfl, trivial⟩, rfl⟩
                · replace h := ite_f hc h
                  clear hc
                  refine cpubbox 2 7 rfl rfl PubL.nil rfl ?_
                  refine cpubbox 2 8 rfl rfl PubL.nil rfl ?_
                  refine cskip ?_
                  refine then_normal ?_
                  exact ⟨(b14.1, b14.2.1, ([] : List UInt8), ([] : List UInt8), false), _, h, ⟨rfl, rfl, rfl, trivial⟩, rfl⟩
            · skip
              refine ccond rfl (fun hc => ?_) (fun hc => ?_)
              · replace h := ite_t hc h
                clear hc
                refine cregion ?_
                refine sv rfl (opv_mv rfl) ?_
                obtain ⟨v23, hv23, h⟩ := bind_eq h
                refine scallB (x' := .s (.one (.sl v23.1.length (v23.1.flatMap eU8)))) (M' := [.box [.i .i64 0, .i .i64 0, .i .i64 0, .i .i64 0, .b false, .raw (.slice none 0 0), .raw (.slice none 0 0), .raw (.slice none 0 0), .raw (.slice none 0 0), .b false], .box [.sl v1.1.length (v1.1.flatMap eU8), .i .i64 v23.2.1, .i .i64 v23.2.2], .box [.i .i64 (wI (v2.1.toNat : Int)), .i .i64 (wI (v3.1.toNat : Int)), .i .i64 b6.2.2, .i .i64 b8.2.2, .b b10.2.2, .sl b12.2.2.length (b12.2.2.flatMap eU8), .raw (.slice none 0 0), .raw (.slice none 0 0), .raw (.slice none 0 0), .b false]]) [1] rfl fn56 (.func _) (opnds_cons rfl (opnds_cons rfl opnds_nil)) (m56_r01_Reader_Lists_c hv23) rfl rfl (by decide) rfl rfl rfl ?_
                refine sv rfl (opv_fieldAddr_lp fi26_6 rfl) ?_
                refine sstore sz22 rfl rfl rfl rfl (Nat.le_of_ble_eq_true rfl) ?_
                refine smem [.box [.i .i64 0, .i .i64 0, .i .i64 0, .i .i64 0, .b false, .raw (.slice none 0 0), .raw (.slice none 0 0), .raw (.slice none 0 0), .raw (.slice none 0 0), .b false], .box [.sl v1.1.length (v1.1.flatMap eU8), .i .i64 v23.2.1, .i .i64 v23.2.2], .box [.i .i64 (wI (v2.1.toNat : Int)), .i .i64 (wI (v3.1.toNat : Int)), .i .i64 b6.2.2, .i .i64 b8.2.2, .b b10.2.2, .sl b12.2.2.length (b12.2.2.flatMap eU8), .sl v23.1.length (v23.1.flatMap eU8), .raw (.slice none 0 0), .raw (.slice none 0 0), .b false]] rfl ?_
                refine snil ?_
                exact ⟨(v23.2.1, v23.2.2, v23.1), _, h, ⟨rfl, rfl, rfl, trivial⟩, rfl⟩
              · replace h := ite_f hc h
                clear hc
                refine cpubbox 2 6 rfl rfl PubL.nil rfl ?_
                refine cskip ?_
                refine then_normal ?_
                exact ⟨(b12.1, b12.2.1, ([] : List UInt8)), _, h, ⟨rfl, rfl, rfl, trivial⟩, rfl⟩
          · skip
            refine ccond rfl (fun hc => ?_) (fun hc => ?_)
            · replace h := ite_t hc h
              clear hc
              refine cregion ?_
              refine sv rfl (opv_mv rfl) ?_
              obtain ⟨v24, hv24, h⟩ := bind_eq h
              refine scallB (x' := .s (.one (.sl v24.1.length (v24.1.flatMap eU8)))) (M' := [.box [.i .i64 0, .i .i64 0, .i .i64 0, .i .i64 0, .b false, .raw (.slice none 0 0), .raw (.slice none 0 0), .raw (.slice none 0 0), .raw (.slice none 0 0), .b false], .box [.sl v1.1.length (v1.1.flatMap eU8), .i .i64 v24.2.1, .i .i64 v24.2.2], .box [.i .i64 (wI (v2.1.toNat : Int)), .i .i64 (wI (v3.1.toNat : Int)), .i .i64 b6.2.2, .i .i64 b8.2.2, .b b10.2.2, .raw (.slice none 0 0), .raw (.slice none 0 0), .raw (.slice none 0 0), .raw (.slice none 0 0), .b false]]) [1] rfl fn56 (.func _) (opnds_cons rfl (opnds_cons rfl opnds_nil)) (m56_r01_Reader_Lists_c hv24) rfl rfl (by decide) rfl rfl rfl ?_
              refine sv rfl (opv_fieldAddr_lp fi26_5 rfl) ?_
              refine sstore sz22 rfl rfl rfl rfl (Nat.le_of_ble_eq_true rfl) ?_
              refine smem [.box [.i .i64 0, .i .i64 0, .i .i64 0, .i .i64 0, .b false, .raw (.slice none 0 0), .raw (.slice none 0 0), .raw (.slice none 0 0), .raw (.slice none 0 0), .b false], .box [.sl v1.1.length (v1.1.flatMap eU8), .i .i64 v24.2.1, .i .i64 v24.2.2], .box [.i .i64 (wI (v2.1.toNat : Int)), .i .i64 (wI (v3.1.toNat : Int)), .i .i64 b6.2.2, .i .i64 b8.2.2, .b b10.2.2, .sl v24.1.length (v24.1.flatMap eU8), .raw (.slice none 0 0), .raw (.slice none 0 0), .raw (.slice none 0 0), .b false]] rfl ?_
              refine snil ?_
              exact ⟨(v24.2.1, v24.2.2, v24.1), _, h, ⟨rfl, rfl, rfl, trivial⟩, rfl⟩
            · replace h := ite_f hc h
              clear hc
              refine cpubbox 2 5 rfl rfl PubL.nil rfl ?_
              refine cskip ?_
              refine then_normal ?_
              exact ⟨(b10.1, b10.2.1, ([] : List UInt8)), _, h, ⟨rfl, rfl, rfl, trivial⟩, rfl⟩
        · skip
          refine ccond rfl (fun hc => ?_) (fun hc => ?_)
          · replace h := ite_t hc h
            clear hc
            refine cregion ?_
            refine sv rfl (opv_mv rfl) ?_
            obtain ⟨v25, hv25, h⟩ := bind_eq h
            refine scallB (x' := .s (.one (.b v25.1))) (M' := [.box [.i .i64 0, .i .i64 0, .i .i64 0, .i .i64 0, .b false, .raw (.slice none 0 0), .raw (.slice none 0 0), .raw (.slice none 0 0), .raw (.slice none 0 0), .b false], .box [.sl v1.1.length (v1.1.flatMap eU8), .i .i64 v25.2.1, .i .i64 v25.2.2], .box [.i .i64 (wI (v2.1.toNat : Int)), .i .i64 (wI (v3.1.toNat : Int)), .i .i64 b6.2.2, .i .i64 b8.2.2, .b false, .raw (.slice none 0 0), .raw (.slice none 0 0), .raw (.slice none 0 0), .raw (.slice none 0 0), .b false]]) [1] rfl fn55 (.func _) (opnds_cons rfl opnds_nil) (m55_r01_Reader_Flags_c hv25) rfl rfl (by decide) rfl rfl rfl ?_
            refine sv rfl (opv_fieldAddr_lp fi26_4 rfl) ?_
            refine sstore sz4 rfl rfl rfl rfl (Nat.le_of_ble_eq_true rfl) ?_
            refine smem [.box [.i .i64 0, .i .i64 0, .i .i64 0, .i .i64 0, .b false, .raw (.slice none 0 0), .raw (.slice none 0 0), .raw (.slice none 0 0), .raw (.slice none 0 0), .b false], .box [.sl v1.1.length (v1.1.flatMap eU8), .i .i64 v25.2.1, .i .i64 v25.2.2], .box [.i .i64 (wI (v2.1.toNat : Int)), .i .i64 (wI (v3.1.toNat : Int)), .i .i64 b6.2.2, .i .i64 b8.2.2, .b v25.1, .raw (.slice none 0 0), .raw (.slice none 0 0), .raw (.slice none 0 0), .raw (.slice none 0 0), .b false]] rfl ?_
            refine snil ?_
            exact ⟨(v25.2.1, v25.2.2, v25.1), _, h, ⟨rfl, rfl, rfl, trivial⟩, rfl⟩
          · replace h := ite_f hc h
            clear hc
            refine cskip ?_
            refine then_normal ?_
            exact ⟨(b8.1, b8.2.1, false), _, h, ⟨rfl, rfl, rfl, trivial⟩, rfl⟩
      · skip
        refine ccond rfl (fun hc => ?_) (fun hc => ?_)
        · replace h := ite_t hc h
          clear hc
          refine cregion ?_
          refine sv rfl (opv_mv rfl) ?_
          obtain ⟨v26, hv26, h⟩ := bind_eq h
          refine scallB (x' := .s (.one (.i .u64 (v26.1.toNat : Int)))) (M' := [.box [.i .i64 0, .i .i64 0, .i .i64 0, .i .i64 0, .b false, .raw (.slice none 0 0), .raw (.slice none 0 0), .raw (.slice none 0 0), .raw (.slice none 0 0), .b false], .box [.sl v1.1.length (v1.1.flatMap eU8), .i .i64 v26.2.1, .i .i64 v26.2.2], .box [.i .i64 (wI (v2.1.toNat : Int)), .i .i64 (wI (v3.1.toNat : Int)), .i .i64 b6.2.2, .i .i64 0, .b false, .raw (.slice none 0 0), .raw (.slice none 0 0), .raw (.slice none 0 0), .raw (.slice none 0 0), .b false]]) [1] rfl fn52 (.func _) (opnds_cons rfl (opnds_cons rfl opnds_nil)) (m52_r01_Reader_Us_c hv26) rfl rfl (by decide) rfl rfl rfl ?_
          refine sv rfl (opv_conv_int Tryd.underlying69 Tryd.underlying3 rfl) ?_
          refine sv rfl (opv_fieldAddr_lp fi26_3 rfl) ?_
          refine sstore sz3 rfl rfl rfl rfl (Nat.le_of_ble_eq_true rfl) ?_
          refine smem [.box [.i .i64 0, .i .i64 0, .i .i64 0, .i .i64 0, .b false, .raw (.slice none 0 0), .raw (.slice none 0 0), .raw (.slice none 0 0), .raw (.slice none 0 0), .b false], .box [.sl v1.1.length (v1.1.flatMap eU8), .i .i64 v26.2.1, .i .i64 v26.2.2], .box [.i .i64 (wI (v2.1.toNat : Int)), .i .i64 (wI (v3.1.toNat : Int)), .i .i64 b6.2.2, .i .i64 (wI (v26.1.toNat : Int)), .b false, .raw (.slice none 0 0), .raw (.slice none 0 0), .raw (.slice none 0 0), .raw (.slice none 0 0), .b false]] rfl ?_
          refine snil ?_
          exact ⟨(v26.2.1, v26.2.2, (wI (v26.1.toNat : Int))), _, h, ⟨rfl, rfl, rfl, trivial⟩, rfl⟩
        · replace h := ite_f hc h
          clear hc
          refine cskip ?_
          refine then_normal ?_
          exact ⟨(b6.1, b6.2.1, 0), _, h, ⟨rfl, rfl, rfl, trivial⟩, rfl⟩
    · skip
      refine ccond rfl (fun hc => ?_) (fun hc => ?_)
      · replace h := ite_t hc h
        clear hc
        refine cregion ?_
        refine sv rfl (opv_mv rfl) ?_
        obtain ⟨v27, hv27, h⟩ := bind_eq h
        refine scallB (x' := .s (.one (.i .i64 v27.1))) (M' := [.box [.i .i64 0, .i .i64 0, .i .i64 0, .i .i64 0, .b false, .raw (.slice none 0 0), .raw (.slice none 0 0), .raw (.slice none 0 0), .raw (.slice none 0 0), .b false], .box [.sl v1.1.length (v1.1.flatMap eU8), .i .i64 v27.2.1, .i .i64 v27.2.2], .box [.i .i64 (wI (v2.1.toNat : Int)), .i .i64 (wI (v3.1.toNat : Int)), .i .i64 0, .i .i64 0, .b false, .raw (.slice none 0 0), .raw (.slice none 0 0), .raw (.slice none 0 0), .raw (.slice none 0 0), .b false]]) [1] rfl fn54 (.func _) (opnds_cons rfl opnds_nil) (m54_r05_numbers_c hv27) rfl rfl (by decide) rfl rfl rfl ?_
        refine sv rfl (opv_fieldAddr_lp fi26_2 rfl) ?_
        refine sstore sz3 rfl rfl rfl rfl (Nat.le_of_ble_eq_true rfl) ?_
        refine smem [.box [.i .i64 0, .i .i64 0, .i .i64 0, .i .i64 0, .b false, .raw (.slice none 0 0), .raw (.slice none 0 0), .raw (.slice none 0 0), .raw (.slice none 0 0), .b false], .box [.sl v1.1.length (v1.1.flatMap eU8), .i .i64 v27.2.1, .i .i64 v27.2.2], .box [.i .i64 (wI (v2.1.toNat : Int)), .i .i64 (wI (v3.1.toNat : Int)), .i .i64 v27.1, .i .i64 0, .b false, .raw (.slice none 0 0), .raw (.slice none 0 0), .raw (.slice none 0 0), .raw (.slice none 0 0), .b false]] rfl ?_
        refine snil ?_
        exact ⟨(v27.2.1, v27.2.2, v27.1), _, h, ⟨rfl, rfl, rfl, trivial⟩, rfl⟩
      · replace h := ite_f hc h
        clear hc
        refine cskip ?_
        refine then_normal ?_
        exact ⟨(v3.2.1, b4, 0), _, h, ⟨rfl, rfl, rfl, trivial⟩, rfl⟩
  · skip
    refine cregion ?_
    refine sv rfl (opv_fieldAddr_lp fi26_0 rfl) ?_
    refine sv rfl (opv_load1 ti3 rfl (.lp _ _ _ rfl) rfl) ?_
    refine sv rfl (opv_lss rfl rfl) ?_
    refine sv rfl (opv_mv rfl) ?_
    refine ssplit 20 rfl (fun hc => ?_) (fun hc => ?_)
    · replace h := ite_t hc h
      clear hc
      refine soff rfl rfl rfl rfl ?_
      refine soff rfl rfl rfl rfl ?_
      refine soff rfl rfl rfl rfl ?_
      refine sv rfl (opv_pick_t rfl rfl) ?_
      refine snil ?_
      refine ccond rfl (fun _ => ?_) (fun hx => Bool.noConfusion hx)
      refine cregion ?_
      refine sv rfl (opv_mv rfl) ?_
      obtain ⟨v28, hv28, h⟩ := bind_eq h
      refine scallB (x' := .tup []) (M' := [.box [.i .i64 0, .i .i64 0, .i .i64 0, .i .i64 0, .b false, .raw (.slice none 0 0), .raw (.slice none 0 0), .raw (.slice none 0 0), .raw (.slice none 0 0), .b false], .box [.sl v1.1.length (v1.1.flatMap eU8), .i .i64 v3.2.1, .i .i64 v28], .box [.i .i64 (wI (v2.1.toNat : Int)), .i .i64 (wI (v3.1.toNat : Int)), .i .i64 0, .i .i64 0, .b false, .raw (.slice none 0 0), .raw (.slice none 0 0), .raw (.slice none 0 0), .raw (.slice none 0 0), .b false]]) [1] rfl fn53 (.func _) (opnds_cons rfl (opnds_cons rfl opnds_nil)) (m53_r01_Reader_Fails_c hv28) rfl rfl (by decide) rfl rfl rfl ?_
      refine snil ?_
      exact ⟨v28, _, h, ⟨rfl, rfl, rfl, trivial⟩, rfl⟩
    · replace h := ite_f hc h
      clear hc
      refine son rfl rfl rfl ?_
      refine sv rfl (opv_fieldAddr_lp fi26_0 rfl) ?_
      refine son rfl rfl rfl ?_
      refine sv rfl (opv_load1 ti3 rfl (.lp _ _ _ rfl) rfl) ?_
      refine son rfl rfl rfl ?_
      refine sv rfl (opv_gtr rfl rfl) ?_
      refine sv rfl (opv_pick_f rfl rfl) ?_
      refine snil ?_
      refine ccond rfl (fun hc => ?_) (fun hc => ?_)
      · replace h := ite_t hc h
        clear hc
        refine cregion ?_
        refine sv rfl (opv_mv rfl) ?_
        obtain ⟨v29, hv29, h⟩ := bind_eq h
        refine scallB (x' := .tup []) (M' := [.box [.i .i64 0, .i .i64 0, .i .i64 0, .i .i64 0, .b false, .raw (.slice none 0 0), .raw (.slice none 0 0), .raw (.slice none 0 0), .raw (.slice none 0 0), .b false], .box [.sl v1.1.length (v1.1.flatMap eU8), .i .i64 v3.2.1, .i .i64 v29], .box [.i .i64 (wI (v2.1.toNat : Int)), .i .i64 (wI (v3.1.toNat : Int)), .i .i64 0, .i .i64 0, .b false, .raw (.slice none 0 0), .raw (.slice none 0 0), .raw (.slice none 0 0), .raw (.slice none 0 0), .b false]]) [1] rfl fn53 (.func _) (opnds_cons rfl (opnds_cons rfl opnds_nil)) (m53_r01_Reader_Fails_c hv29) rfl rfl (by decide) rfl rfl rfl ?_
        refine snil ?_
        exact ⟨v29, _, h, ⟨rfl, rfl, rfl, trivial⟩, rfl⟩
      · replace h := ite_f hc h
        clear hc
        refine cskip ?_
        refine then_normal ?_
        exact ⟨v3.2.2, _, h, ⟨rfl, rfl, rfl, trivial⟩, rfl⟩

def m17_l05_asked (a0 : GMsgReq) : Option GR05Req :=
  some (GR05Req.mk a0.Kind a0.Seq a0.Token a0.Attempt a0.RO a0.Key a0.Val (GApiRange.mk a0.Rng.Lo a0.Rng.Hi a0.Rng.Open))

set_option maxRecDepth 100000 in
theorem m17_l05_asked_c {a0 : GMsgReq} {r : GR05Req} (h : m17_l05_asked a0 = some r) : CallsA Tryd.prog 17 [.agg [.i .i64 a0.Kind, .i .i64 a0.Seq, .i .i64 a0.Token, .i .i64 a0.Attempt, .b a0.RO, .sl a0.Key.length (a0.Key.flatMap eU8), .sl a0.Val.length (a0.Val.flatMap eU8), .sl a0.Rng.Lo.length (a0.Rng.Lo.flatMap eU8), .sl a0.Rng.Hi.length (a0.Rng.Hi.flatMap eU8), .b a0.Rng.Open]] (· = .s (.agg [.i .i64 r.Kind, .i .i64 r.Seq, .i .i64 r.Token, .i .i64 r.Attempt, .b r.RO, .sl r.Key.length (r.Key.flatMap eU8), .sl r.Val.length (r.Val.flatMap eU8), .sl r.Rng.Lo.length (r.Rng.Lo.flatMap eU8), .sl r.Rng.Hi.length (r.Rng.Hi.flatMap eU8), .b r.Rng.Open])) := by
  unfold m17_l05_asked at h
  refine callsA_of Tryd.func17 rfl (nt := 20) rfl (Nat.le_of_ble_eq_true rfl) ?_
  intro w0 S0
  refine cseq ?_
  refine cregion ?_
  refine sbox rfl rfl ?_
  refine salloc rfl zi26 ?_
  refine snil ?_
  refine cseq ?_
  refine cregion ?_
  refine sv rfl (opv_fieldAddr_lp fi32_0 rfl) ?_
  refine sv rfl (opv_load1 ti3 rfl (.lp _ _ _ rfl) rfl) ?_
  refine sv rfl (opv_fieldAddr_lp fi32_1 rfl) ?_
  refine sv rfl (opv_load1 ti3 rfl (.lp _ _ _ rfl) rfl) ?_
  refine sv rfl (opv_fieldAddr_lp fi32_2 rfl) ?_
  refine sv rfl (opv_load1 ti3 rfl (.lp _ _ _ rfl) rfl) ?_
  refine sv rfl (opv_fieldAddr_lp fi32_3 rfl) ?_
  refine sv rfl (opv_load1 ti3 rfl (.lp _ _ _ rfl) rfl) ?_
  refine sv rfl (opv_fieldAddr_lp fi32_4 rfl) ?_
  refine sv rfl (opv_load1 ti4 rfl (.lp _ _ _ rfl) rfl) ?_
  refine sv rfl (opv_fieldAddr_lp fi32_5 rfl) ?_
  refine sv rfl (opv_load1 ti22 rfl (.lp _ _ _ rfl) rfl) ?_
  refine sv rfl (opv_fieldAddr_lp fi32_6 rfl) ?_
  refine sv rfl (opv_load1 ti22 rfl (.lp _ _ _ rfl) rfl) ?_
  refine sv rfl (opv_fieldAddr_lp fi32_7 rfl) ?_
  refine sv rfl (opv_loadN ti24 rfl (.lp _ _ _ rfl) (Nat.le_of_ble_eq_true rfl)) ?_
  refine sv rfl (opv_build zi26 pi26 (parts_cons rfl (parts_cons rfl (parts_cons rfl (parts_cons rfl (parts_cons rfl (parts_cons rfl (parts_cons rfl (parts_cons rfl parts_nil)))))))) (bcons [.i .i64 a0.Kind, .i .i64 0, .i .i64 0, .i .i64 0, .b false, .raw (.slice none 0 0), .raw (.slice none 0 0), .raw (.slice none 0 0), .raw (.slice none 0 0), .b false] rfl rfl (Nat.le_of_ble_eq_true rfl) rfl (bcons [.i .i64 a0.Kind, .i .i64 a0.Seq, .i .i64 0, .i .i64 0, .b false, .raw (.slice none 0 0), .raw (.slice none 0 0), .raw (.slice none 0 0), .raw (.slice none 0 0), .b false] rfl rfl (Nat.le_of_ble_eq_true rfl) rfl (bcons [.i .i64 a0.Kind, .i .i64 a0.Seq, .i .i64 a0.Token, .i .i64 0, .b false, .raw (.slice none 0 0), .raw (.slice none 0 0), .raw (.slice none 0 0), .raw (.slice none 0 0), .b false] rfl rfl (Nat.le_of_ble_eq_true rfl) rfl (bcons [.i .i64 a0.Kind, .i .i64 a0.Seq, .i .i64 a0.Token, .i .i64 a0.Attempt, .b false, .raw (.slice none 0 0), .raw (.slice none 0 0), .raw (.slice none 0 0), .raw (.slice none 0 0), .b false] rfl rfl (Nat.le_of_ble_eq_true rfl) rfl (bcons [.i .i64 a0.Kind, .i .i64 a0.Seq, .i .i64 a0.Token, .i .i64 a0.Attempt, .b a0.RO, .raw (.slice none 0 0), .raw (.slice none 0 0), .raw (.slice none 0 0), .raw (.slice none 0 0), .b false] rfl rfl (Nat.le_of_ble_eq_true rfl) rfl (bcons [.i .i64 a0.Kind, .i .i64 a0.Seq, .i .i64 a0.Token, .i .i64 a0.Attempt, .b a0.RO, .sl a0.Key.length (a0.Key.flatMap eU8), .raw (.slice none 0 0), .raw (.slice none 0 0), .raw (.slice none 0 0), .b false] rfl rfl (Nat.le_of_ble_eq_true rfl) rfl (bcons [.i .i64 a0.Kind, .i .i64 a0.Seq, .i .i64 a0.Token, .i .i64 a0.Attempt, .b a0.RO, .sl a0.Key.length (a0.Key.flatMap eU8), .sl a0.Val.length (a0.Val.flatMap eU8), .raw (.slice none 0 0), .raw (.slice none 0 0), .b false] rfl rfl (Nat.le_of_ble_eq_true rfl) rfl (bcons [.i .i64 a0.Kind, .i .i64 a0.Seq, .i .i64 a0.Token, .i .i64 a0.Attempt, .b a0.RO, .sl a0.Key.length (a0.Key.flatMap eU8), .sl a0.Val.length (a0.Val.flatMap eU8), .sl a0.Rng.Lo.length (a0.Rng.Lo.flatMap eU8), .sl a0.Rng.Hi.length (a0.Rng.Hi.flatMap eU8), .b a0.Rng.Open] rfl rfl (Nat.le_of_ble_eq_true rfl) rfl (.nil _)))))))))) ?_
  refine sstore sz26 rfl rfl rfl rfl (Nat.le_of_ble_eq_true rfl) ?_
  refine smem [.box [.i .i64 a0.Kind, .i .i64 a0.Seq, .i .i64 a0.Token, .i .i64 a0.Attempt, .b a0.RO, .sl a0.Key.length (a0.Key.flatMap eU8), .sl a0.Val.length (a0.Val.flatMap eU8), .sl a0.Rng.Lo.length (a0.Rng.Lo.flatMap eU8), .sl a0.Rng.Hi.length (a0.Rng.Hi.flatMap eU8), .b a0.Rng.Open], .box [.i .i64 a0.Kind, .i .i64 a0.Seq, .i .i64 a0.Token, .i .i64 a0.Attempt, .b a0.RO, .sl a0.Key.length (a0.Key.flatMap eU8), .sl a0.Val.length (a0.Val.flatMap eU8), .sl a0.Rng.Lo.length (a0.Rng.Lo.flatMap eU8), .sl a0.Rng.Hi.length (a0.Rng.Hi.flatMap eU8), .b a0.Rng.Open]] rfl ?_
  refine snil ?_
  refine cret ?_
  obtain rfl := Option.some.inj h
  refine ⟨Or.inr rfl, _, _, _, (resVs_cons (ResV.agg _ _ _ _ _ ti26 rfl (.lp _ _ _ rfl) (Nat.le_of_ble_eq_true rfl)) resVs_nil), (pubA_id rfl), ?_⟩
  rfl

end Go.Proofs.YtljkjkkpogkgbaaDoor.Abs
