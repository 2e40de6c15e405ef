/-
  t
-/
import Derived.Test.YtljkjkkpogkgbaaDoorT05a
namespace Go.Proofs.YtljkjkkpogkgbaaDoor.Abs
open Go.RowKit Go.Proofs
def m9_l05_awake  : Option Bool :=
  (m11_msg_PutReq (GMsgReq.mk 7 7 0 0 false ([] : List UInt8) ([] : List UInt8) (GApiRange.mk ([] : List UInt8) ([] : List UInt8) false))).bind fun v1 => (m14_msg_ReadReq v1.1).bind fun v2 => (m22_msg_PutReply (GMsgReply.mk 0 3 0 0 false ([] : List UInt8) ([] : List GApiKV))).bind fun v3 => (m25_msg_ReadReply v3.1).bind fun v4 => if (decide (v1.2 = 0)) then (if (decide (v2.2 = 0)) then (if (decide (v3.2 = 0)) then (if (decide (v4.2 = 0)) then (if (v1.1 == [(UInt8.ofBitVec (7#8)), (UInt8.ofBitVec (7#8)), (UInt8.ofBitVec (0#8)), (UInt8.ofBitVec (0#8)), (UInt8.ofBitVec (0#8))]) then (if (decide (v2.1.Seq = 7)) then (some (decide (v4.1.Seq = 3))) else (some false)) else (some false)) else (some false)) else (some false)) else (some false)) else (some false)

set_option maxRecDepth 100000 in
theorem m9_l05_awake_c  {r : Bool} (h : m9_l05_awake = some r) : CallsA Tryd.prog 9 [] (· = .s (.one (.b r))) := by
  unfold m9_l05_awake at h
  refine callsA_of Tryd.func9 rfl (nt := 60) rfl (Nat.le_of_ble_eq_true rfl) ?_
  intro w0 S0
  refine cseq ?_
  refine cregion ?_
  refine sv rfl (opv_as rfl) ?_
  refine snil ?_
  refine cseq ?_
  refine cregion ?_
  refine sv rfl (opv_build zi32 pi32 (parts_cons rfl (parts_cons rfl parts_nil)) (.cons _ _ _ _ _ _ _ rfl rfl (Nat.le_of_ble_eq_true rfl) (.cons _ _ _ _ _ _ _ rfl rfl (Nat.le_of_ble_eq_true rfl) (.nil _)))) ?_
  obtain ⟨v1, hv1, h⟩ := bind_eq h
  refine scall1 rfl fn11 (opnds_cons rfl opnds_nil) (pubC rfl) (m11_msg_PutReq_c hv1) ?_
  refine sv rfl (opv_mvt rfl) ?_
  refine sv rfl (opv_extract rfl rfl) ?_
  refine sv rfl (opv_extract rfl rfl) ?_
  refine sv rfl (opv_as rfl) ?_
  refine sv rfl (opv_as rfl) ?_
  refine snil ?_
  refine cseq ?_
  refine cregion ?_
  refine sv rfl (opv_mv rfl) ?_
  obtain ⟨v2, hv2, h⟩ := bind_eq h
  refine scall1 rfl fn14 (opnds_cons rfl opnds_nil) (pubA_id rfl) (m14_msg_ReadReq_c hv2) ?_
  refine sv rfl (opv_mvt rfl) ?_
  refine sv rfl (opv_extract rfl rfl) ?_
  refine sv rfl (opv_extract rfl rfl) ?_
  refine salloc rfl zi32 ?_
  refine sstore sz32 rfl rfl rfl rfl (Nat.le_of_ble_eq_true rfl) ?_
  refine smem [.box [.i .i64 v2.1.Kind, .i .i64 v2.1.Seq, .i .i64 v2.1.Token, .i .i64 v2.1.Attempt, .b v2.1.RO, .sl v2.1.Key.length (v2.1.Key.flatMap eU8), .sl v2.1.Val.length (v2.1.Val.flatMap eU8), .sl v2.1.Rng.Lo.length (v2.1.Rng.Lo.flatMap eU8), .sl v2.1.Rng.Hi.length (v2.1.Rng.Hi.flatMap eU8), .b v2.1.Rng.Open]] rfl ?_
  refine sv rfl (opv_as rfl) ?_
  refine snil ?_
  refine cseq ?_
  refine cregion ?_
  refine sv rfl (opv_build zi49 pi49 (parts_cons rfl parts_nil) (.cons _ _ _ _ _ _ _ rfl rfl (Nat.le_of_ble_eq_true rfl) (.nil _))) ?_
  obtain ⟨v3, hv3, h⟩ := bind_eq h
  refine scall1 rfl fn22 (opnds_cons rfl opnds_nil) (pubC rfl) (m22_msg_PutReply_c hv3) ?_
  refine sv rfl (opv_mvt rfl) ?_
  refine sv rfl (opv_extract rfl rfl) ?_
  refine sv rfl (opv_extract rfl rfl) ?_
  refine sv rfl (opv_as rfl) ?_
  refine sv rfl (opv_as rfl) ?_
  refine snil ?_
  refine cseq ?_
  refine cregion ?_
  refine sv rfl (opv_mv rfl) ?_
  obtain ⟨v4, hv4, h⟩ := bind_eq h
  refine scall1 rfl fn25 (opnds_cons rfl opnds_nil) (pubA_id rfl) (m25_msg_ReadReply_c hv4) ?_
  refine sv rfl (opv_mvt rfl) ?_
  refine sv rfl (opv_extract rfl rfl) ?_
  refine sv rfl (opv_extract rfl rfl) ?_
  refine salloc rfl zi49 ?_
  refine sstore sz49 rfl rfl rfl rfl (Nat.le_of_ble_eq_true rfl) ?_
  refine smem [.box [.i .i64 v2.1.Kind, .i .i64 v2.1.Seq, .i .i64 v2.1.Token, .i .i64 v2.1.Attempt, .b v2.1.RO, .sl v2.1.Key.length (v2.1.Key.flatMap eU8), .sl v2.1.Val.length (v2.1.Val.flatMap eU8), .sl v2.1.Rng.Lo.length (v2.1.Rng.Lo.flatMap eU8), .sl v2.1.Rng.Hi.length (v2.1.Rng.Hi.flatMap eU8), .b v2.1.Rng.Open], .box [.i .i64 v4.1.Kind, .i .i64 v4.1.Seq, .i .i64 v4.1.Code, .i .i64 v4.1.N, .b v4.1.Found, .sl v4.1.Val.length (v4.1.Val.flatMap eU8), .sl v4.1.List.length (v4.1.List.flatMap eGApiKV)]] rfl ?_
  refine sv rfl (opv_as rfl) ?_
  refine snil ?_
  refine cseq ?_
  refine cregion ?_
  refine sv rfl (opv_mv rfl) ?_
  refine sv rfl (opv_ieql rfl rfl) ?_
  refine sv rfl (opv_mv rfl) ?_
  refine ssplit 31 rfl (fun hc => ?_) (fun hc => ?_)
  · replace h := ite_t hc h
    clear hc
    refine son rfl rfl rfl ?_
    refine sv rfl (opv_mv rfl) ?_
    refine son rfl rfl rfl ?_
    refine sv rfl (opv_ieql rfl rfl) ?_
    refine sv rfl (opv_pick_t rfl rfl) ?_
    refine sv rfl (opv_mv rfl) ?_
    refine ssplit 35 rfl (fun hc => ?_) (fun hc => ?_)
    · replace h := ite_t hc h
      clear hc
      refine son rfl rfl rfl ?_
      refine sv rfl (opv_mv rfl) ?_
      refine son rfl rfl rfl ?_
      refine sv rfl (opv_ieql rfl rfl) ?_
      refine sv rfl (opv_pick_t rfl rfl) ?_
      refine sv rfl (opv_mv rfl) ?_
      refine ssplit 39 rfl (fun hc => ?_) (fun hc => ?_)
      · replace h := ite_t hc h
        clear hc
        refine son rfl rfl rfl ?_
        refine sv rfl (opv_mv rfl) ?_
        refine son rfl rfl rfl ?_
        refine sv rfl (opv_ieql rfl rfl) ?_
        refine sv rfl (opv_pick_t rfl rfl) ?_
        refine sv rfl (opv_mv rfl) ?_
        refine ssplit 43 rfl (fun hc => ?_) (fun hc => ?_)
        · replace h := ite_t hc h
          clear hc
          refine son rfl rfl rfl ?_
          refine sv rfl (opv_mv rfl) ?_
          refine son rfl rfl rfl ?_
          refine sv rfl (opv_bs (l := v1.1) Tryd.underlying22 Tryd.underlying5 Tryd.underlying9 rfl rfl rfl) ?_
          refine son rfl rfl rfl ?_
          refine sbuildN (out := ([(UInt8.ofBitVec (7#8)), (UInt8.ofBitVec (7#8)), (UInt8.ofBitVec (0#8)), (UInt8.ofBitVec (0#8)), (UInt8.ofBitVec (0#8))] : List UInt8).flatMap eU8) rfl Tryd.underlying22 ei5 (parts_cons rfl (parts_cons rfl (parts_cons rfl (parts_cons rfl (parts_cons rfl parts_nil))))) (.cons _ _ _ _ _ _ _ rfl rfl (Nat.le_of_ble_eq_true rfl) (.cons _ _ _ _ _ _ _ rfl rfl (Nat.le_of_ble_eq_true rfl) (.cons _ _ _ _ _ _ _ rfl rfl (Nat.le_of_ble_eq_true rfl) (.cons _ _ _ _ _ _ _ rfl rfl (Nat.le_of_ble_eq_true rfl) (.cons _ _ _ _ _ _ _ rfl rfl (Nat.le_of_ble_eq_true rfl) (.nil _)))))) rfl (by decide) ?_
          refine son rfl rfl rfl ?_
          refine spub 46 rfl (by (repeat' first | exact PubA.nil _ | apply PubA.cons | apply PubV.one | apply PubV.agg | exact PubL.nil | exact PubL.ls _ _ _ _ _ _ rfl (flat_len (f := eU8) (fun _ => rfl) ([(UInt8.ofBitVec (7#8)), (UInt8.ofBitVec (7#8)), (UInt8.ofBitVec (0#8)), (UInt8.ofBitVec (0#8)), (UInt8.ofBitVec (0#8))] : List UInt8)).symm | exact PubL.ls _ _ _ _ _ _ rfl (flat_len (f := eU8) (fun _ => rfl) _).symm | exact PubL.id _ rfl | exact PubLs.nil _ | apply PubLs.cons)) ?_
          refine sv rfl (opv_bs (l := [(UInt8.ofBitVec (7#8)), (UInt8.ofBitVec (7#8)), (UInt8.ofBitVec (0#8)), (UInt8.ofBitVec (0#8)), (UInt8.ofBitVec (0#8))]) Tryd.underlying22 Tryd.underlying5 Tryd.underlying9 rfl rfl rfl) ?_
          refine son rfl rfl rfl ?_
          refine sv rfl (opv_seql' rfl rfl) ?_
          refine sv rfl (opv_pick_t rfl rfl) ?_
          refine sv rfl (opv_mv rfl) ?_
          refine ssplit 50 rfl (fun hc => ?_) (fun hc => ?_)
          · replace h := ite_t hc h
            clear hc
            refine son rfl rfl rfl ?_
            refine sv rfl (opv_fieldAddr_lp fi32_1 rfl) ?_
            refine son rfl rfl rfl ?_
            refine sv rfl (opv_load1 ti3 rfl (.lp _ _ _ rfl) rfl) ?_
            refine son rfl rfl rfl ?_
            refine sv rfl (opv_ieql rfl rfl) ?_
            refine sv rfl (opv_pick_t rfl rfl) ?_
            refine sv rfl (opv_mv rfl) ?_
            refine ssplit 55 rfl (fun hc => ?_) (fun hc => ?_)
            · replace h := ite_t hc h
              clear hc
              refine son rfl rfl rfl ?_
              refine sv rfl (opv_fieldAddr_lp fi49_1 rfl) ?_
              refine son rfl rfl rfl ?_
              refine sv rfl (opv_load1 ti3 rfl (.lp _ _ _ rfl) rfl) ?_
              refine son rfl rfl rfl ?_
              refine sv rfl (opv_ieql rfl rfl) ?_
              refine sv rfl (opv_pick_t rfl rfl) ?_
              refine sv rfl (opv_as rfl) ?_
              refine snil ?_
              refine cret ?_
              obtain rfl := Option.some.inj h
              refine ⟨Or.inr rfl, _, _, _, (resVs_cons (ResV.tmp _ _ rfl) resVs_nil), (pubA_id rfl), ?_⟩
              rfl
            · replace h := ite_f hc h
              clear hc
              refine soff rfl rfl rfl rfl ?_
              refine soff rfl rfl rfl rfl ?_
              refine soff rfl rfl rfl rfl ?_
              refine sv rfl (opv_pick_f rfl rfl) ?_
              refine sv rfl (opv_as rfl) ?_
              refine snil ?_
              refine cret ?_
              obtain rfl := Option.some.inj h
              refine ⟨Or.inr rfl, _, _, _, (resVs_cons (ResV.tmp _ _ rfl) resVs_nil), (pubA_id rfl), ?_⟩
              rfl
          · replace h := ite_f hc h
            clear hc
            refine soff rfl rfl rfl rfl ?_
            refine soff rfl rfl rfl rfl ?_
            refine soff rfl rfl rfl rfl ?_
            refine sv rfl (opv_pick_f rfl rfl) ?_
            refine sv rfl (opv_mv rfl) ?_
            refine soff rfl rfl rfl rfl ?_
            refine soff rfl rfl rfl rfl ?_
            refine soff rfl rfl rfl rfl ?_
            refine sv rfl (opv_pick_f rfl rfl) ?_
            refine sv rfl (opv_as rfl) ?_
            refine snil ?_
            refine cret ?_
            obtain rfl := Option.some.inj h
            refine ⟨Or.inr rfl, _, _, _, (resVs_cons (ResV.tmp _ _ rfl) resVs_nil), (pubA_id rfl), ?_⟩
            rfl
        · replace h := ite_f hc h
          clear hc
          refine soff rfl rfl rfl rfl ?_
          refine soff rfl rfl rfl rfl ?_
          refine soff rfl rfl rfl rfl ?_
          refine soff rfl rfl rfl rfl ?_
          refine soff rfl rfl rfl rfl ?_
          refine sv rfl (opv_pick_f rfl rfl) ?_
          refine sv rfl (opv_mv rfl) ?_
          refine soff rfl rfl rfl rfl ?_
          refine soff rfl rfl rfl rfl ?_
          refine soff rfl rfl rfl rfl ?_
          refine sv rfl (opv_pick_f rfl rfl) ?_
          refine sv rfl (opv_mv rfl) ?_
          refine soff rfl rfl rfl rfl ?_
          refine soff rfl rfl rfl rfl ?_
          refine soff rfl rfl rfl rfl ?_
          refine sv rfl (opv_pick_f rfl rfl) ?_
          refine sv rfl (opv_as rfl) ?_
          refine snil ?_
          refine cret ?_
          obtain rfl := Option.some.inj h
          refine ⟨Or.inr rfl, _, _, _, (resVs_cons (ResV.tmp _ _ rfl) resVs_nil), (pubA_id rfl), ?_⟩
          rfl
      · replace h := ite_f hc h
        clear hc
        refine soff rfl rfl rfl rfl ?_
        refine soff rfl rfl rfl rfl ?_
        refine sv rfl (opv_pick_f rfl rfl) ?_
        refine sv rfl (opv_mv rfl) ?_
        refine soff rfl rfl rfl rfl ?_
        refine soff rfl rfl rfl rfl ?_
        refine soff rfl rfl rfl rfl ?_
        refine soff rfl rfl rfl rfl ?_
        refine soff rfl rfl rfl rfl ?_
        refine sv rfl (opv_pick_f rfl rfl) ?_
        refine sv rfl (opv_mv rfl) ?_
        refine soff rfl rfl rfl rfl ?_
        refine soff rfl rfl rfl rfl ?_
        refine soff rfl rfl rfl rfl ?_
        refine sv rfl (opv_pick_f rfl rfl) ?_
        refine sv rfl (opv_mv rfl) ?_
        refine soff rfl rfl rfl rfl ?_
        refine soff rfl rfl rfl rfl ?_
        refine soff rfl rfl rfl rfl ?_
        refine sv rfl (opv_pick_f rfl rfl) ?_
        refine sv rfl (opv_as rfl) ?_
        refine snil ?_
        refine cret ?_
        obtain rfl := Option.some.inj h
        refine ⟨Or.inr rfl, _, _, _, (resVs_cons (ResV.tmp _ _ rfl) resVs_nil), (pubA_id rfl), ?_⟩
        rfl
    · replace h := ite_f hc h
      clear hc
      refine soff rfl rfl rfl rfl ?_
      refine soff rfl rfl rfl rfl ?_
      refine sv rfl (opv_pick_f rfl rfl) ?_
      refine sv rfl (opv_mv rfl) ?_
      refine soff rfl rfl rfl rfl ?_
      refine soff rfl rfl rfl rfl ?_
      refine sv rfl (opv_pick_f rfl rfl) ?_
      refine sv rfl (opv_mv rfl) ?_
      refine soff rfl rfl rfl rfl ?_
      refine soff rfl rfl rfl rfl ?_
      refine soff rfl rfl rfl rfl ?_
      refine soff rfl rfl rfl rfl ?_
      refine soff rfl rfl rfl rfl ?_
      refine sv rfl (opv_pick_f rfl rfl) ?_
      refine sv rfl (opv_mv rfl) ?_
      refine soff rfl rfl rfl rfl ?_
      refine soff rfl rfl rfl rfl ?_
      refine soff rfl rfl rfl rfl ?_
      refine sv rfl (opv_pick_f rfl rfl) ?_
      refine sv rfl (opv_mv rfl) ?_
      refine soff rfl rfl rfl rfl ?_
      refine soff rfl rfl rfl rfl ?_
      refine soff rfl rfl rfl rfl ?_
      refine sv rfl (opv_pick_f rfl rfl) ?_
      refine sv rfl (opv_as rfl) ?_
      refine snil ?_
      refine cret ?_
      obtain rfl := Option.some.inj h
      refine ⟨Or.inr rfl, _, _, _, (resVs_cons (ResV.tmp _ _ rfl) resVs_nil), (pubA_id rfl), ?_⟩
      rfl
  · replace h := ite_f hc h
    clear hc
    refine soff rfl rfl rfl rfl ?_
    refine soff rfl rfl rfl rfl ?_
    refine sv rfl (opv_pick_f rfl rfl) ?_
    refine sv rfl (opv_mv rfl) ?_
    refine soff rfl rfl rfl rfl ?_
    refine soff rfl rfl rfl rfl ?_
    refine sv rfl (opv_pick_f rfl rfl) ?_
    refine sv rfl (opv_mv rfl) ?_
    refine soff rfl rfl rfl rfl ?_
    refine soff rfl rfl rfl rfl ?_
    refine sv rfl (opv_pick_f rfl rfl) ?_
    refine sv rfl (opv_mv rfl) ?_
    refine soff rfl rfl rfl rfl ?_
    refine soff rfl rfl rfl rfl ?_
    refine soff rfl rfl rfl rfl ?_
    refine soff rfl rfl rfl rfl ?_
    refine soff rfl rfl rfl rfl ?_
    refine sv rfl (opv_pick_f rfl rfl) ?_
    refine sv rfl (opv_mv rfl) ?_
    refine soff rfl rfl rfl rfl ?_
    refine soff rfl rfl rfl rfl ?_
    refine soff rfl rfl rfl rfl ?_
    refine sv rfl (opv_pick_f rfl rfl) ?_
    refine sv rfl (opv_mv rfl) ?_
    refine soff rfl rfl rfl rfl ?_
    refine soff rfl rfl rfl rfl ?_
    refine soff rfl rfl rfl rfl ?_
    refine sv rfl (opv_pick_f rfl rfl) ?_
    refine sv rfl (opv_as rfl) ?_
    refine snil ?_
    refine cret ?_
    obtain rfl := Option.some.inj h
    refine ⟨Or.inr rfl, _, _, _, (resVs_cons (ResV.tmp _ _ rfl) resVs_nil), (pubA_id rfl), ?_⟩
    rfl

def m10_r05_Few (a0 : GR05Req) : Option Bool :=
  if (decide ((a0.Key.length : Int) ≤ 100)) then (if (decide ((a0.Val.length : Int) ≤ 100)) then (if (decide ((a0.Rng.Lo.length : Int) ≤ 100)) then (some (decide ((a0.Rng.Hi.length : Int) ≤ 100))) else (some false)) else (some false)) else (some false)

set_option maxRecDepth 100000 in
theorem m10_r05_Few_c {a0 : GR05Req} {r : Bool} (h : m10_r05_Few a0 = some r) : CallsA Tryd.prog 10 [.agg [.i .i64 a0.Kind, .i .i64 a0.Seq, .i .i64 a0.Token, .i .i64 a0.Attempt, .b a0.RO, .sl a0.Key.length (a0.Key.flatMap eU8), .sl a0.Val.length (a0.Val.flatMap eU8), .sl a0.Rng.Lo.length (a0.Rng.Lo.flatMap eU8), .sl a0.Rng.Hi.length (a0.Rng.Hi.flatMap eU8), .b a0.Rng.Open]] (· = .s (.one (.b r))) := by
  unfold m10_r05_Few at h
  refine callsA_of Tryd.func10 rfl (nt := 27) rfl (Nat.le_of_ble_eq_true rfl) ?_
  intro w0 S0
  refine cseq ?_
  refine cregion ?_
  refine sbox rfl rfl ?_
  refine sv rfl (opv_as rfl) ?_
  refine snil ?_
  refine cseq ?_
  refine cregion ?_
  refine sv rfl (opv_fieldAddr_lp fi26_5 rfl) ?_
  refine sv rfl (opv_load1 ti22 rfl (.lp _ _ _ rfl) rfl) ?_
  refine sv rfl (opv_len_sl si22 rfl) ?_
  refine sv rfl (opv_leq rfl rfl) ?_
  refine sv rfl (opv_mv rfl) ?_
  refine ssplit 7 rfl (fun hc => ?_) (fun hc => ?_)
  · replace h := ite_t hc h
    clear hc
    refine son rfl rfl rfl ?_
    refine sv rfl (opv_fieldAddr_lp fi26_6 rfl) ?_
    refine son rfl rfl rfl ?_
    refine sv rfl (opv_load1 ti22 rfl (.lp _ _ _ rfl) rfl) ?_
    refine son rfl rfl rfl ?_
    refine sv rfl (opv_len_sl si22 rfl) ?_
    refine son rfl rfl rfl ?_
    refine sv rfl (opv_leq rfl rfl) ?_
    refine sv rfl (opv_pick_t rfl rfl) ?_
    refine sv rfl (opv_mv rfl) ?_
    refine ssplit 13 rfl (fun hc => ?_) (fun hc => ?_)
    · replace h := ite_t hc h
      clear hc
      refine son rfl rfl rfl ?_
      refine sv rfl (opv_fieldAddr_lp fi26_7 rfl) ?_
      refine son rfl rfl rfl ?_
      refine sv rfl (opv_fieldAddr_lp fi24_0 rfl) ?_
      refine son rfl rfl rfl ?_
      refine sv rfl (opv_load1 ti22 rfl (.lp _ _ _ rfl) rfl) ?_
      refine son rfl rfl rfl ?_
      refine sv rfl (opv_len_sl si22 rfl) ?_
      refine son rfl rfl rfl ?_
      refine sv rfl (opv_leq rfl rfl) ?_
      refine sv rfl (opv_pick_t rfl rfl) ?_
      refine sv rfl (opv_mv rfl) ?_
      refine ssplit 20 rfl (fun hc => ?_) (fun hc => ?_)
      · replace h := ite_t hc h
        clear hc
        refine son rfl rfl rfl ?_
        refine sv rfl (opv_fieldAddr_lp fi26_7 rfl) ?_
        refine son rfl rfl rfl ?_
        refine sv rfl (opv_fieldAddr_lp fi24_1 rfl) ?_
        refine son rfl rfl rfl ?_
        refine sv rfl (opv_load1 ti22 rfl (.lp _ _ _ rfl) rfl) ?_
        refine son rfl rfl rfl ?_
        refine sv rfl (opv_len_sl si22 rfl) ?_
        refine son rfl rfl rfl ?_
        refine sv rfl (opv_leq rfl rfl) ?_
        refine sv rfl (opv_pick_t rfl rfl) ?_
        refine sv rfl (opv_as rfl) ?_
        refine snil ?_
        refine cret ?_
        obtain rfl := Option.some.inj h
        refine ⟨Or.inr rfl, _, _, _, (resVs_cons (ResV.tmp _ _ rfl) resVs_nil), (pubA_id rfl), ?_⟩
        rfl
      · replace h := ite_f hc h
        clear hc
        refine soff rfl rfl rfl rfl ?_
        refine soff rfl rfl rfl rfl ?_
        refine soff rfl rfl rfl rfl ?_
        refine soff rfl rfl rfl rfl ?_
        refine soff rfl rfl rfl rfl ?_
        refine sv rfl (opv_pick_f rfl rfl) ?_
        refine sv rfl (opv_as rfl) ?_
        refine snil ?_
        refine cret ?_
        obtain rfl := Option.some.inj h
        refine ⟨Or.inr rfl, _, _, _, (resVs_cons (ResV.tmp _ _ rfl) resVs_nil), (pubA_id rfl), ?_⟩
        rfl
    · replace h := ite_f hc h
      clear hc
      refine soff rfl rfl rfl rfl ?_
      refine soff rfl rfl rfl rfl ?_
      refine soff rfl rfl rfl rfl ?_
      refine soff rfl rfl rfl rfl ?_
      refine soff rfl rfl rfl rfl ?_
      refine sv rfl (opv_pick_f rfl rfl) ?_
      refine sv rfl (opv_mv rfl) ?_
      refine soff rfl rfl rfl rfl ?_
      refine soff rfl rfl rfl rfl ?_
      refine soff rfl rfl rfl rfl ?_
      refine soff rfl rfl rfl rfl ?_
      refine soff rfl rfl rfl rfl ?_
      refine sv rfl (opv_pick_f rfl rfl) ?_
      refine sv rfl (opv_as rfl) ?_
      refine snil ?_
      refine cret ?_
      obtain rfl := Option.some.inj h
      refine ⟨Or.inr rfl, _, _, _, (resVs_cons (ResV.tmp _ _ rfl) resVs_nil), (pubA_id rfl), ?_⟩
      rfl
  · replace h := ite_f hc h
    clear hc
    refine soff rfl rfl rfl rfl ?_
    refine soff rfl rfl rfl rfl ?_
    refine soff rfl rfl rfl rfl ?_
    refine soff rfl rfl rfl rfl ?_
    refine sv rfl (opv_pick_f rfl rfl) ?_
    refine sv rfl (opv_mv rfl) ?_
    refine soff rfl rfl rfl rfl ?_
    refine soff rfl rfl rfl rfl ?_
    refine soff rfl rfl rfl rfl ?_
    refine soff rfl rfl rfl rfl ?_
    refine soff rfl rfl rfl rfl ?_
    refine sv rfl (opv_pick_f rfl rfl) ?_
    refine sv rfl (opv_mv rfl) ?_
    refine soff rfl rfl rfl rfl ?_
    refine soff rfl rfl rfl rfl ?_
    refine soff rfl rfl rfl rfl ?_
    refine soff rfl rfl rfl rfl ?_
    refine soff rfl rfl rfl rfl ?_
    refine sv rfl (opv_pick_f rfl rfl) ?_
    refine sv rfl (opv_as rfl) ?_
    refine snil ?_
    refine cret ?_
    obtain rfl := Option.some.inj h
    refine ⟨Or.inr rfl, _, _, _, (resVs_cons (ResV.tmp _ _ rfl) resVs_nil), (pubA_id rfl), ?_⟩
    rfl

def m12_l05_req (a0 : GR05Req) : Option GMsgReq :=
  some (GMsgReq.mk a0.Kind a0.Seq a0.Token a0.Attempt a0.RO a0.Key a0.Val (GApiRange.mk a0.Rng.Lo a0.Rng.Hi a0.Rng.Open))

set_option maxRecDepth 100000 in
theorem m12_l05_req_c {a0 : GR05Req} {r : GMsgReq} (h : m12_l05_req a0 = some r) : CallsA Tryd.prog 12 [.agg [.i .i64 a0.Kind, .i .i64 a0.Seq, .i .i64 a0.Token, .i .i64 a0.Attempt, .b a0.RO, .sl a0.Key.length (a0.Key.flatMap eU8), .sl a0.Val.length (a0.Val.flatMap eU8), .sl a0.Rng.Lo.length (a0.Rng.Lo.flatMap eU8), .sl a0.Rng.Hi.length (a0.Rng.Hi.flatMap eU8), .b a0.Rng.Open]] (· = .s (.agg [.i .i64 r.Kind, .i .i64 r.Seq, .i .i64 r.Token, .i .i64 r.Attempt, .b r.RO, .sl r.Key.length (r.Key.flatMap eU8), .sl r.Val.length (r.Val.flatMap eU8), .sl r.Rng.Lo.length (r.Rng.Lo.flatMap eU8), .sl r.Rng.Hi.length (r.Rng.Hi.flatMap eU8), .b r.Rng.Open])) := by
  unfold m12_l05_req at h
  refine callsA_of Tryd.func12 rfl (nt := 20) rfl (Nat.le_of_ble_eq_true rfl) ?_
  intro w0 S0
  refine cseq ?_
  refine cregion ?_
  refine sbox rfl rfl ?_
  refine salloc rfl zi32 ?_
  refine snil ?_
  refine cseq ?_
  refine cregion ?_
  refine sv rfl (opv_fieldAddr_lp fi26_0 rfl) ?_
  refine sv rfl (opv_load1 ti3 rfl (.lp _ _ _ rfl) rfl) ?_
  refine sv rfl (opv_fieldAddr_lp fi26_1 rfl) ?_
  refine sv rfl (opv_load1 ti3 rfl (.lp _ _ _ rfl) rfl) ?_
  refine sv rfl (opv_fieldAddr_lp fi26_2 rfl) ?_
  refine sv rfl (opv_load1 ti3 rfl (.lp _ _ _ rfl) rfl) ?_
  refine sv rfl (opv_fieldAddr_lp fi26_3 rfl) ?_
  refine sv rfl (opv_load1 ti3 rfl (.lp _ _ _ rfl) rfl) ?_
  refine sv rfl (opv_fieldAddr_lp fi26_4 rfl) ?_
  refine sv rfl (opv_load1 ti4 rfl (.lp _ _ _ rfl) rfl) ?_
  refine sv rfl (opv_fieldAddr_lp fi26_5 rfl) ?_
  refine sv rfl (opv_load1 ti22 rfl (.lp _ _ _ rfl) rfl) ?_
  refine sv rfl (opv_fieldAddr_lp fi26_6 rfl) ?_
  refine sv rfl (opv_load1 ti22 rfl (.lp _ _ _ rfl) rfl) ?_
  refine sv rfl (opv_fieldAddr_lp fi26_7 rfl) ?_
  refine sv rfl (opv_loadN ti24 rfl (.lp _ _ _ rfl) (Nat.le_of_ble_eq_true rfl)) ?_
  refine sv rfl (opv_build zi32 pi32 (parts_cons rfl (parts_cons rfl (parts_cons rfl (parts_cons rfl (parts_cons rfl (parts_cons rfl (parts_cons rfl (parts_cons rfl parts_nil)))))))) (bcons [.i .i64 a0.Kind, .i .i64 0, .i .i64 0, .i .i64 0, .b false, .raw (.slice none 0 0), .raw (.slice none 0 0), .raw (.slice none 0 0), .raw (.slice none 0 0), .b false] rfl rfl (Nat.le_of_ble_eq_true rfl) rfl (bcons [.i .i64 a0.Kind, .i .i64 a0.Seq, .i .i64 0, .i .i64 0, .b false, .raw (.slice none 0 0), .raw (.slice none 0 0), .raw (.slice none 0 0), .raw (.slice none 0 0), .b false] rfl rfl (Nat.le_of_ble_eq_true rfl) rfl (bcons [.i .i64 a0.Kind, .i .i64 a0.Seq, .i .i64 a0.Token, .i .i64 0, .b false, .raw (.slice none 0 0), .raw (.slice none 0 0), .raw (.slice none 0 0), .raw (.slice none 0 0), .b false] rfl rfl (Nat.le_of_ble_eq_true rfl) rfl (bcons [.i .i64 a0.Kind, .i .i64 a0.Seq, .i .i64 a0.Token, .i .i64 a0.Attempt, .b false, .raw (.slice none 0 0), .raw (.slice none 0 0), .raw (.slice none 0 0), .raw (.slice none 0 0), .b false] rfl rfl (Nat.le_of_ble_eq_true rfl) rfl (bcons [.i .i64 a0.Kind, .i .i64 a0.Seq, .i .i64 a0.Token, .i .i64 a0.Attempt, .b a0.RO, .raw (.slice none 0 0), .raw (.slice none 0 0), .raw (.slice none 0 0), .raw (.slice none 0 0), .b false] rfl rfl (Nat.le_of_ble_eq_true rfl) rfl (bcons [.i .i64 a0.Kind, .i .i64 a0.Seq, .i .i64 a0.Token, .i .i64 a0.Attempt, .b a0.RO, .sl a0.Key.length (a0.Key.flatMap eU8), .raw (.slice none 0 0), .raw (.slice none 0 0), .raw (.slice none 0 0), .b false] rfl rfl (Nat.le_of_ble_eq_true rfl) rfl (bcons [.i .i64 a0.Kind, .i .i64 a0.Seq, .i .i64 a0.Token, .i .i64 a0.Attempt, .b a0.RO, .sl a0.Key.length (a0.Key.flatMap eU8), .sl a0.Val.length (a0.Val.flatMap eU8), .raw (.slice none 0 0), .raw (.slice none 0 0), .b false] rfl rfl (Nat.le_of_ble_eq_true rfl) rfl (bcons [.i .i64 a0.Kind, .i .i64 a0.Seq, .i .i64 a0.Token, .i .i64 a0.Attempt, .b a0.RO, .sl a0.Key.length (a0.Key.flatMap eU8), .sl a0.Val.length (a0.Val.flatMap eU8), .sl a0.Rng.Lo.length (a0.Rng.Lo.flatMap eU8), .sl a0.Rng.Hi.length (a0.Rng.Hi.flatMap eU8), .b a0.Rng.Open] rfl rfl (Nat.le_of_ble_eq_true rfl) rfl (.nil _)))))))))) ?_
  refine sstore sz32 rfl rfl rfl rfl (Nat.le_of_ble_eq_true rfl) ?_
  refine smem [.box [.i .i64 a0.Kind, .i .i64 a0.Seq, .i .i64 a0.Token, .i .i64 a0.Attempt, .b a0.RO, .sl a0.Key.length (a0.Key.flatMap eU8), .sl a0.Val.length (a0.Val.flatMap eU8), .sl a0.Rng.Lo.length (a0.Rng.Lo.flatMap eU8), .sl a0.Rng.Hi.length (a0.Rng.Hi.flatMap eU8), .b a0.Rng.Open], .box [.i .i64 a0.Kind, .i .i64 a0.Seq, .i .i64 a0.Token, .i .i64 a0.Attempt, .b a0.RO, .sl a0.Key.length (a0.Key.flatMap eU8), .sl a0.Val.length (a0.Val.flatMap eU8), .sl a0.Rng.Lo.length (a0.Rng.Lo.flatMap eU8), .sl a0.Rng.Hi.length (a0.Rng.Hi.flatMap eU8), .b a0.Rng.Open]] rfl ?_
  refine snil ?_
  refine cret ?_
  obtain rfl := Option.some.inj h
  refine ⟨Or.inr rfl, _, _, _, (resVs_cons (ResV.agg _ _ _ _ _ ti32 rfl (.lp _ _ _ rfl) (Nat.le_of_ble_eq_true rfl)) resVs_nil), (pubA_id rfl), ?_⟩
  rfl

def m37_r05_token (a0 : Int) : Option Bool :=
  if (decide (a0 = 1)) then (some true) else (if (decide (a0 = 2)) then (some true) else (if (decide (a0 = 9)) then (some true) else (some (decide (a0 = 10)))))

set_option maxRecDepth 100000 in
theorem m37_r05_token_c {a0 : Int} {r : Bool} (h : m37_r05_token a0 = some r) : CallsA Tryd.prog 37 [.one (.i .i64 a0)] (· = .s (.one (.b r))) := by
  unfold m37_r05_token at h
  refine callsA_of Tryd.func37 rfl (nt := 17) rfl (Nat.le_of_ble_eq_true rfl) ?_
  intro w0 S0
  refine cseq ?_
  refine cregion ?_
  refine sv rfl (opv_as rfl) ?_
  refine snil ?_
  refine cseq ?_
  refine cregion ?_
  refine sv rfl (opv_mv rfl) ?_
  refine sv rfl (opv_ieql rfl rfl) ?_
  refine sv rfl (opv_mv rfl) ?_
  refine ssplit 5 rfl (fun hc => ?_) (fun hc => ?_)
  · replace h := ite_t hc h
    clear hc
    refine soff rfl rfl rfl rfl ?_
    refine soff rfl rfl rfl rfl ?_
    refine sv rfl (opv_pick_t rfl rfl) ?_
    refine sv rfl (opv_mv rfl) ?_
    refine soff rfl rfl rfl rfl ?_
    refine soff rfl rfl rfl rfl ?_
    refine sv rfl (opv_pick_t rfl rfl) ?_
    refine sv rfl (opv_mv rfl) ?_
    refine soff rfl rfl rfl rfl ?_
    refine soff rfl rfl rfl rfl ?_
    refine sv rfl (opv_pick_t rfl rfl) ?_
    refine sv rfl (opv_as rfl) ?_
    refine snil ?_
    refine cret ?_
    obtain rfl := Option.some.inj h
    refine ⟨Or.inr rfl, _, _, _, (resVs_cons (ResV.tmp _ _ rfl) resVs_nil), (pubA_id rfl), ?_⟩
    rfl
  · replace h := ite_f hc h
    clear hc
    refine son rfl rfl rfl ?_
    refine sv rfl (opv_mv rfl) ?_
    refine son rfl rfl rfl ?_
    refine sv rfl (opv_ieql rfl rfl) ?_
    refine sv rfl (opv_pick_f rfl rfl) ?_
    refine sv rfl (opv_mv rfl) ?_
    refine ssplit 9 rfl (fun hc => ?_) (fun hc => ?_)
    · replace h := ite_t hc h
      clear hc
      refine soff rfl rfl rfl rfl ?_
      refine soff rfl rfl rfl rfl ?_
      refine sv rfl (opv_pick_t rfl rfl) ?_
      refine sv rfl (opv_mv rfl) ?_
      refine soff rfl rfl rfl rfl ?_
      refine soff rfl rfl rfl rfl ?_
      refine sv rfl (opv_pick_t rfl rfl) ?_
      refine sv rfl (opv_as rfl) ?_
      refine snil ?_
      refine cret ?_
      obtain rfl := Option.some.inj h
      refine ⟨Or.inr rfl, _, _, _, (resVs_cons (ResV.tmp _ _ rfl) resVs_nil), (pubA_id rfl), ?_⟩
      rfl
    · replace h := ite_f hc h
      clear hc
      refine son rfl rfl rfl ?_
      refine sv rfl (opv_mv rfl) ?_
      refine son rfl rfl rfl ?_
      refine sv rfl (opv_ieql rfl rfl) ?_
      refine sv rfl (opv_pick_f rfl rfl) ?_
      refine sv rfl (opv_mv rfl) ?_
      refine ssplit 13 rfl (fun hc => ?_) (fun hc => ?_)
      · replace h := ite_t hc h
        clear hc
        refine soff rfl rfl rfl rfl ?_
        refine soff rfl rfl rfl rfl ?_
        refine sv rfl (opv_pick_t rfl rfl) ?_
        refine sv rfl (opv_as rfl) ?_
        refine snil ?_
        refine cret ?_
        obtain rfl := Option.some.inj h
        refine ⟨Or.inr rfl, _, _, _, (resVs_cons (ResV.tmp _ _ rfl) resVs_nil), (pubA_id rfl), ?_⟩
        rfl
      · replace h := ite_f hc h
        clear hc
        refine son rfl rfl rfl ?_
        refine sv rfl (opv_mv rfl) ?_
        refine son rfl rfl rfl ?_
        refine sv rfl (opv_ieql rfl rfl) ?_
        refine sv rfl (opv_pick_f rfl rfl) ?_
        refine sv rfl (opv_as rfl) ?_
        refine snil ?_
        refine cret ?_
        obtain rfl := Option.some.inj h
        refine ⟨Or.inr rfl, _, _, _, (resVs_cons (ResV.tmp _ _ rfl) resVs_nil), (pubA_id rfl), ?_⟩
        rfl

def m38_r05_attempt (a0 : Int) : Option Bool :=
  if (decide (a0 = 1)) then (some true) else (if (decide (a0 = 2)) then (some true) else (some (decide (a0 = 9))))

set_option maxRecDepth 100000 in
theorem m38_r05_attempt_c {a0 : Int} {r : Bool} (h : m38_r05_attempt a0 = some r) : CallsA Tryd.prog 38 [.one (.i .i64 a0)] (· = .s (.one (.b r))) := by
  unfold m38_r05_attempt at h
  refine callsA_of Tryd.func38 rfl (nt := 13) rfl (Nat.le_of_ble_eq_true rfl) ?_
  intro w0 S0
  refine cseq ?_
  refine cregion ?_
  refine sv rfl (opv_as rfl) ?_
  refine snil ?_
  refine cseq ?_
  refine cregion ?_
  refine sv rfl (opv_mv rfl) ?_
  refine sv rfl (opv_ieql rfl rfl) ?_
  refine sv rfl (opv_mv rfl) ?_
  refine ssplit 5 rfl (fun hc => ?_) (fun hc => ?_)
  · replace h := ite_t hc h
    clear hc
    refine soff rfl rfl rfl rfl ?_
    refine soff rfl rfl rfl rfl ?_
    refine sv rfl (opv_pick_t rfl rfl) ?_
    refine sv rfl (opv_mv rfl) ?_
    refine soff rfl rfl rfl rfl ?_
    refine soff rfl rfl rfl rfl ?_
    refine sv rfl (opv_pick_t rfl rfl) ?_
    refine sv rfl (opv_as rfl) ?_
    refine snil ?_
    refine cret ?_
    obtain rfl := Option.some.inj h
    refine ⟨Or.inr rfl, _, _, _, (resVs_cons (ResV.tmp _ _ rfl) resVs_nil), (pubA_id rfl), ?_⟩
    rfl
  · replace h := ite_f hc h
    clear hc
    refine son rfl rfl rfl ?_
    refine sv rfl (opv_mv rfl) ?_
    refine son rfl rfl rfl ?_
    refine sv rfl (opv_ieql rfl rfl) ?_
    refine sv rfl (opv_pick_f rfl rfl) ?_
    refine sv rfl (opv_mv rfl) ?_
    refine ssplit 9 rfl (fun hc => ?_) (fun hc => ?_)
    · replace h := ite_t hc h
      clear hc
      refine soff rfl rfl rfl rfl ?_
      refine soff rfl rfl rfl rfl ?_
      refine sv rfl (opv_pick_t rfl rfl) ?_
      refine sv rfl (opv_as rfl) ?_
      refine snil ?_
      refine cret ?_
      obtain rfl := Option.some.inj h
      refine ⟨Or.inr rfl, _, _, _, (resVs_cons (ResV.tmp _ _ rfl) resVs_nil), (pubA_id rfl), ?_⟩
      rfl
    · replace h := ite_f hc h
      clear hc
      refine son rfl rfl rfl ?_
      refine sv rfl (opv_mv rfl) ?_
      refine son rfl rfl rfl ?_
      refine sv rfl (opv_ieql rfl rfl) ?_
      refine sv rfl (opv_pick_f rfl rfl) ?_
      refine sv rfl (opv_as rfl) ?_
      refine snil ?_
      refine cret ?_
      obtain rfl := Option.some.inj h
      refine ⟨Or.inr rfl, _, _, _, (resVs_cons (ResV.tmp _ _ rfl) resVs_nil), (pubA_id rfl), ?_⟩
      rfl

def m39_r05_flag (a0 : Int) : Option Bool :=
  some (decide (a0 = 2))

set_option maxRecDepth 100000 in
theorem m39_r05_flag_c {a0 : Int} {r : Bool} (h : m39_r05_flag a0 = some r) : CallsA Tryd.prog 39 [.one (.i .i64 a0)] (· = .s (.one (.b r))) := by
  unfold m39_r05_flag at h
  refine callsA_of Tryd.func39 rfl (nt := 5) rfl (Nat.le_of_ble_eq_true rfl) ?_
  intro w0 S0
  refine cseq ?_
  refine cregion ?_
  refine sv rfl (opv_as rfl) ?_
  refine snil ?_
  refine cseq ?_
  refine cregion ?_
  refine sv rfl (opv_mv rfl) ?_
  refine sv rfl (opv_ieql rfl rfl) ?_
  refine sv rfl (opv_as rfl) ?_
  refine snil ?_
  refine cret ?_
  obtain rfl := Option.some.inj h
  refine ⟨Or.inr rfl, _, _, _, (resVs_cons (ResV.tmp _ _ rfl) resVs_nil), (pubA_id rfl), ?_⟩
  rfl

def m41_r05_key (a0 : Int) : Option Bool :=
  if (decide (3 ≤ a0)) then (some (decide (a0 ≤ 5))) else (some false)

set_option maxRecDepth 100000 in
theorem m41_r05_key_c {a0 : Int} {r : Bool} (h : m41_r05_key a0 = some r) : CallsA Tryd.prog 41 [.one (.i .i64 a0)] (· = .s (.one (.b r))) := by
  unfold m41_r05_key at h
  refine callsA_of Tryd.func41 rfl (nt := 9) rfl (Nat.le_of_ble_eq_true rfl) ?_
  intro w0 S0
  refine cseq ?_
  refine cregion ?_
  refine sv rfl (opv_as rfl) ?_
  refine snil ?_
  refine cseq ?_
  refine cregion ?_
  refine sv rfl (opv_mv rfl) ?_
  refine sv rfl (opv_geq rfl rfl) ?_
  refine sv rfl (opv_mv rfl) ?_
  refine ssplit 5 rfl (fun hc => ?_) (fun hc => ?_)
  · replace h := ite_t hc h
    clear hc
    refine son rfl rfl rfl ?_
    refine sv rfl (opv_mv rfl) ?_
    refine son rfl rfl rfl ?_
    refine sv rfl (opv_leq rfl rfl) ?_
    refine sv rfl (opv_pick_t rfl rfl) ?_
    refine sv rfl (opv_as rfl) ?_
    refine snil ?_
    refine cret ?_
    obtain rfl := Option.some.inj h
    refine ⟨Or.inr rfl, _, _, _, (resVs_cons (ResV.tmp _ _ rfl) resVs_nil), (pubA_id rfl), ?_⟩
    rfl
  · replace h := ite_f hc h
    clear hc
    refine soff rfl rfl rfl rfl ?_
    refine soff rfl rfl rfl rfl ?_
    refine sv rfl (opv_pick_f rfl rfl) ?_
    refine sv rfl (opv_as rfl) ?_
    refine snil ?_
    refine cret ?_
    obtain rfl := Option.some.inj h
    refine ⟨Or.inr rfl, _, _, _, (resVs_cons (ResV.tmp _ _ rfl) resVs_nil), (pubA_id rfl), ?_⟩
    rfl

def m43_r05_val (a0 : Int) : Option Bool :=
  some (decide (a0 = 4))

set_option maxRecDepth 100000 in
theorem m43_r05_val_c {a0 : Int} {r : Bool} (h : m43_r05_val a0 = some r) : CallsA Tryd.prog 43 [.one (.i .i64 a0)] (· = .s (.one (.b r))) := by
  unfold m43_r05_val at h
  refine callsA_of Tryd.func43 rfl (nt := 5) rfl (Nat.le_of_ble_eq_true rfl) ?_
  intro w0 S0
  refine cseq ?_
  refine cregion ?_
  refine sv rfl (opv_as rfl) ?_
  refine snil ?_
  refine cseq ?_
  refine cregion ?_
  refine sv rfl (opv_mv rfl) ?_
  refine sv rfl (opv_ieql rfl rfl) ?_
  refine sv rfl (opv_as rfl) ?_
  refine snil ?_
  refine cret ?_
  obtain rfl := Option.some.inj h
  refine ⟨Or.inr rfl, _, _, _, (resVs_cons (ResV.tmp _ _ rfl) resVs_nil), (pubA_id rfl), ?_⟩
  rfl

def m62_r05_plain (a0 : GApiRange) : Option Bool :=
  if (decide ((a0.Lo.length : Int) ≤ 16)) then (if (decide ((a0.Hi.length : Int) ≤ 16)) then (if a0.Open then (some (!(decide (0 < (a0.Hi.length : Int))))) else (some true)) else (some false)) else (some false)

set_option maxRecDepth 100000 in
theorem m62_r05_plain_c {a0 : GApiRange} {r : Bool} (h : m62_r05_plain a0 = some r) : CallsA Tryd.prog 62 [.agg [.sl a0.Lo.length (a0.Lo.flatMap eU8), .sl a0.Hi.length (a0.Hi.flatMap eU8), .b a0.Open]] (· = .s (.one (.b r))) := by
  unfold m62_r05_plain at h
  refine callsA_of Tryd.func62 rfl (nt := 24) rfl (Nat.le_of_ble_eq_true rfl) ?_
  intro w0 S0
  refine cseq ?_
  refine cregion ?_
  refine sbox rfl rfl ?_
  refine sv rfl (opv_as rfl) ?_
  refine snil ?_
  refine cseq ?_
  refine cregion ?_
  refine sv rfl (opv_fieldAddr_lp fi24_0 rfl) ?_
  refine sv rfl (opv_load1 ti22 rfl (.lp _ _ _ rfl) rfl) ?_
  refine sv rfl (opv_len_sl si22 rfl) ?_
  refine sv rfl (opv_leq rfl rfl) ?_
  refine sv rfl (opv_mv rfl) ?_
  refine ssplit 7 rfl (fun hc => ?_) (fun hc => ?_)
  · replace h := ite_t hc h
    clear hc
    refine son rfl rfl rfl ?_
    refine sv rfl (opv_fieldAddr_lp fi24_1 rfl) ?_
    refine son rfl rfl rfl ?_
    refine sv rfl (opv_load1 ti22 rfl (.lp _ _ _ rfl) rfl) ?_
    refine son rfl rfl rfl ?_
    refine sv rfl (opv_len_sl si22 rfl) ?_
    refine son rfl rfl rfl ?_
    refine sv rfl (opv_leq rfl rfl) ?_
    refine sv rfl (opv_pick_t rfl rfl) ?_
    refine sv rfl (opv_mv rfl) ?_
    refine ssplit 13 rfl (fun hc => ?_) (fun hc => ?_)
    · replace h := ite_t hc h
      clear hc
      refine son rfl rfl rfl ?_
      refine sv rfl (opv_fieldAddr_lp fi24_2 rfl) ?_
      refine son rfl rfl rfl ?_
      refine sv rfl (opv_load1 ti4 rfl (.lp _ _ _ rfl) rfl) ?_
      refine son rfl rfl rfl ?_
      refine sv rfl (opv_mv rfl) ?_
      refine ssplit 16 rfl (fun hc => ?_) (fun hc => ?_)
      · replace h := ite_t hc h
        clear hc
        refine son rfl rfl rfl ?_
        refine sv rfl (opv_fieldAddr_lp fi24_1 rfl) ?_
        refine son rfl rfl rfl ?_
        refine sv rfl (opv_load1 ti22 rfl (.lp _ _ _ rfl) rfl) ?_
        refine son rfl rfl rfl ?_
        refine sv rfl (opv_len_sl si22 rfl) ?_
        refine son rfl rfl rfl ?_
        refine sv rfl (opv_gtr rfl rfl) ?_
        refine son rfl rfl rfl ?_
        refine sv rfl (opv_pick_t rfl rfl) ?_
        refine son rfl rfl rfl ?_
        refine sv rfl (opv_not rfl) ?_
        refine sv rfl (opv_pick_t rfl rfl) ?_
        refine sv rfl (opv_as rfl) ?_
        refine snil ?_
        refine cret ?_
        obtain rfl := Option.some.inj h
        refine ⟨Or.inr rfl, _, _, _, (resVs_cons (ResV.tmp _ _ rfl) resVs_nil), (pubA_id rfl), ?_⟩
        rfl
      · replace h := ite_f hc h
        clear hc
        refine soff rfl rfl rfl rfl ?_
        refine soff rfl rfl rfl rfl ?_
        refine soff rfl rfl rfl rfl ?_
        refine soff rfl rfl rfl rfl ?_
        refine son rfl rfl rfl ?_
        refine sv rfl (opv_pick_f rfl rfl) ?_
        refine son rfl rfl rfl ?_
        refine sv rfl (opv_not rfl) ?_
        refine sv rfl (opv_pick_t rfl rfl) ?_
        refine sv rfl (opv_as rfl) ?_
        refine snil ?_
        refine cret ?_
        obtain rfl := Option.some.inj h
        refine ⟨Or.inr rfl, _, _, _, (resVs_cons (ResV.tmp _ _ rfl) resVs_nil), (pubA_id rfl), ?_⟩
        rfl
    · replace h := ite_f hc h
      clear hc
      refine soff rfl rfl rfl rfl ?_
      refine soff rfl rfl rfl rfl ?_
      refine soff rfl rfl rfl rfl ?_
      refine soffu rfl rfl rfl ?_
      refine soffu rfl rfl rfl ?_
      refine soffu rfl rfl rfl ?_
      refine soffu rfl rfl rfl ?_
      refine soff rfl rfl rfl rfl ?_
      refine soff rfl rfl rfl rfl ?_
      refine sv rfl (opv_pick_f rfl rfl) ?_
      refine sv rfl (opv_as rfl) ?_
      refine snil ?_
      refine cret ?_
      obtain rfl := Option.some.inj h
      refine ⟨Or.inr rfl, _, _, _, (resVs_cons (ResV.tmp _ _ rfl) resVs_nil), (pubA_id rfl), ?_⟩
      rfl
  · replace h := ite_f hc h
    clear hc
    refine soff rfl rfl rfl rfl ?_
    refine soff rfl rfl rfl rfl ?_
    refine soff rfl rfl rfl rfl ?_
    refine soff rfl rfl rfl rfl ?_
    refine sv rfl (opv_pick_f rfl rfl) ?_
    refine sv rfl (opv_mv rfl) ?_
    refine soff rfl rfl rfl rfl ?_
    refine soff rfl rfl rfl rfl ?_
    refine soff rfl rfl rfl rfl ?_
    refine soffu rfl rfl rfl ?_
    refine soffu rfl rfl rfl ?_
    refine soffu rfl rfl rfl ?_
    refine soffu rfl rfl rfl ?_
    refine soff rfl rfl rfl rfl ?_
    refine soff rfl rfl rfl rfl ?_
    refine sv rfl (opv_pick_f rfl rfl) ?_
    refine sv rfl (opv_as rfl) ?_
    refine snil ?_
    refine cret ?_
    obtain rfl := Option.some.inj h
    refine ⟨Or.inr rfl, _, _, _, (resVs_cons (ResV.tmp _ _ rfl) resVs_nil), (pubA_id rfl), ?_⟩
    rfl

def m44_r05_rng (a0 : Int) : Option Bool :=
  some (decide (a0 = 6))

set_option maxRecDepth 100000 in
theorem m44_r05_rng_c {a0 : Int} {r : Bool} (h : m44_r05_rng a0 = some r) : CallsA Tryd.prog 44 [.one (.i .i64 a0)] (· = .s (.one (.b r))) := by
  unfold m44_r05_rng at h
  refine callsA_of Tryd.func44 rfl (nt := 5) rfl (Nat.le_of_ble_eq_true rfl) ?_
  intro w0 S0
  refine cseq ?_
  refine cregion ?_
  refine sv rfl (opv_as rfl) ?_
  refine snil ?_
  refine cseq ?_
  refine cregion ?_
  refine sv rfl (opv_mv rfl) ?_
  refine sv rfl (opv_ieql rfl rfl) ?_
  refine sv rfl (opv_as rfl) ?_
  refine snil ?_
  refine cret ?_
  obtain rfl := Option.some.inj h
  refine ⟨Or.inr rfl, _, _, _, (resVs_cons (ResV.tmp _ _ rfl) resVs_nil), (pubA_id rfl), ?_⟩
  rfl

def m19_r05_SaneReq_k3 (a0 : GR05Req) (b3 : Unit) : Option Bool :=
  (m62_r05_plain (GApiRange.mk a0.Rng.Lo a0.Rng.Hi a0.Rng.Open)).bind fun v4 => if v4 then ((m44_r05_rng a0.Kind).bind fun v5 => if v5 then (some true) else (if (decide ((a0.Rng.Lo.length : Int) = 0)) then (if (decide ((a0.Rng.Hi.length : Int) = 0)) then (some (!a0.Rng.Open)) else (some false)) else (some false))) else (some false)

def m19_r05_SaneReq_k2 (a0 : GR05Req) (b2 : Unit) : Option Bool :=
  (m41_r05_key a0.Kind).bind fun v6 => if v6 then (if (decide ((a0.Key.length : Int) < 1)) then (some false) else (if (decide (16 < (a0.Key.length : Int))) then (some false) else ((m41_r05_key a0.Kind).bind fun v7 => if (!v7) then (if (decide (0 < (a0.Key.length : Int))) then (some false) else (if (decide (32 < (a0.Val.length : Int))) then (some false) else ((m43_r05_val a0.Kind).bind fun v8 => if (!v8) then (if (decide (0 < (a0.Val.length : Int))) then (some false) else (m19_r05_SaneReq_k3 a0 ())) else (m19_r05_SaneReq_k3 a0 ())))) else (if (decide (32 < (a0.Val.length : Int))) then (some false) else ((m43_r05_val a0.Kind).bind fun v9 => if (!v9) then (if (decide (0 < (a0.Val.length : Int))) then (some false) else (m19_r05_SaneReq_k3 a0 ())) else (m19_r05_SaneReq_k3 a0 ())))))) else ((m41_r05_key a0.Kind).bind fun v10 => if (!v10) then (if (decide (0 < (a0.Key.length : Int))) then (some false) else (if (decide (32 < (a0.Val.length : Int))) then (some false) else ((m43_r05_val a0.Kind).bind fun v11 => if (!v11) then (if (decide (0 < (a0.Val.length : Int))) then (some false) else (m19_r05_SaneReq_k3 a0 ())) else (m19_r05_SaneReq_k3 a0 ())))) else (if (decide (32 < (a0.Val.length : Int))) then (some false) else ((m43_r05_val a0.Kind).bind fun v12 => if (!v12) then (if (decide (0 < (a0.Val.length : Int))) then (some false) else (m19_r05_SaneReq_k3 a0 ())) else (m19_r05_SaneReq_k3 a0 ()))))

def m19_r05_SaneReq_k1 (a0 : GR05Req) (b1 : Unit) : Option Bool :=
  (m37_r05_token a0.Kind).bind fun v13 => if (!v13) then (if (!decide (a0.Token = 0)) then (some false) else ((m38_r05_attempt a0.Kind).bind fun v14 => if (!v14) then (if (!decide (a0.Attempt = 0)) then (some false) else ((m39_r05_flag a0.Kind).bind fun v15 => if (!v15) then (if a0.RO then (some false) else (m19_r05_SaneReq_k2 a0 ())) else (m19_r05_SaneReq_k2 a0 ()))) else ((m39_r05_flag a0.Kind).bind fun v16 => if (!v16) then (if a0.RO then (some false) else (m19_r05_SaneReq_k2 a0 ())) else (m19_r05_SaneReq_k2 a0 ())))) else ((m38_r05_attempt a0.Kind).bind fun v17 => if (!v17) then (if (!decide (a0.Attempt = 0)) then (some false) else ((m39_r05_flag a0.Kind).bind fun v18 => if (!v18) then (if a0.RO then (some false) else (m19_r05_SaneReq_k2 a0 ())) else (m19_r05_SaneReq_k2 a0 ()))) else ((m39_r05_flag a0.Kind).bind fun v19 => if (!v19) then (if a0.RO then (some false) else (m19_r05_SaneReq_k2 a0 ())) else (m19_r05_SaneReq_k2 a0 ())))
def m19_r05_SaneReq (a0 : GR05Req) : Option Bool :=
  if (decide (a0.Kind < 1)) then (some false) else (if (decide (11 < a0.Kind)) then (some false) else (if (decide (a0.Seq < 0)) then (some false) else (if (decide (4294967295 < a0.Seq)) then (some false) else (if (decide (a0.Token < 0)) then (some false) else (if (decide (1099511627776 < a0.Token)) then (some false) else (if (decide (a0.Attempt < 0)) then (some false) else (if (decide (65535 < a0.Attempt)) then (some false) else (m19_r05_SaneReq_k1 a0 ()))))))))

set_option maxRecDepth 100000 in
theorem m19_r05_SaneReq_c {a0 : GR05Req} {r : Bool} (h : m19_r05_SaneReq a0 = some r) : CallsA Tryd.prog 19 [.agg [.i .i64 a0.Kind, .i .i64 a0.Seq, .i .i64 a0.Token, .i .i64 a0.Attempt, .b a0.RO, .sl a0.Key.length (a0.Key.flatMap eU8), .sl a0.Val.length (a0.Val.flatMap eU8), .sl a0.Rng.Lo.length (a0.Rng.Lo.flatMap eU8), .sl a0.Rng.Hi.length (a0.Rng.Hi.flatMap eU8), .b a0.Rng.Open]] (· = .s (.one (.b r))) := by
  unfold m19_r05_SaneReq at h
  refine callsA_of Tryd.func19 rfl (nt := 138) rfl (Nat.le_of_ble_eq_true rfl) ?_
  intro w0 S0
  refine cseq ?_
  refine cregion ?_
  refine sbox rfl rfl ?_
  refine sv rfl (opv_as rfl) ?_
  refine snil ?_
  refine cseq ?_
  refine cregion ?_
  refine sv rfl (opv_fieldAddr_lp fi26_0 rfl) ?_
  refine sv rfl (opv_load1 ti3 rfl (.lp _ _ _ rfl) rfl) ?_
  refine sv rfl (opv_as rfl) ?_
  refine snil ?_
  refine cseq ?_
  refine cseq ?_
  refine cjoin3 (Unit) (fun b1 => [(1, .s (.one (.lp 0 0))), (3, .s (.one (.i .i64 a0.Kind)))]) (fun b1 => [.box [.i .i64 a0.Kind, .i .i64 a0.Seq, .i .i64 a0.Token, .i .i64 a0.Attempt, .b a0.RO, .sl a0.Key.length (a0.Key.flatMap eU8), .sl a0.Val.length (a0.Val.flatMap eU8), .sl a0.Rng.Lo.length (a0.Rng.Lo.flatMap eU8), .sl a0.Rng.Hi.length (a0.Rng.Hi.flatMap eU8), .b a0.Rng.Open]]) (fun b1 => m19_r05_SaneReq_k1 a0 b1 = some r) (fun _ _ => inbL_of rfl) (fun _ _ => blkinb_of rfl) (fun _ _ => Nat.le_of_ble_eq_true rfl) (fun b1 h => ?_) ?_
  · unfold m19_r05_SaneReq_k1 at h
    refine cseq ?_
    refine cseq ?_
    refine cjoin3 (Unit) (fun b2 => [(1, .s (.one (.lp 0 0))), (3, .s (.one (.i .i64 a0.Kind)))]) (fun b2 => [.box [.i .i64 a0.Kind, .i .i64 a0.Seq, .i .i64 a0.Token, .i .i64 a0.Attempt, .b a0.RO, .sl a0.Key.length (a0.Key.flatMap eU8), .sl a0.Val.length (a0.Val.flatMap eU8), .sl a0.Rng.Lo.length (a0.Rng.Lo.flatMap eU8), .sl a0.Rng.Hi.length (a0.Rng.Hi.flatMap eU8), .b a0.Rng.Open]]) (fun b2 => m19_r05_SaneReq_k2 a0 b2 = some r) (fun _ _ => inbL_of rfl) (fun _ _ => blkinb_of rfl) (fun _ _ => Nat.le_of_ble_eq_true rfl) (fun b2 h => ?_) ?_
    · unfold m19_r05_SaneReq_k2 at h
      refine cseq ?_
      refine cseq ?_
      refine cjoin3 (Unit) (fun b3 => [(1, .s (.one (.lp 0 0))), (3, .s (.one (.i .i64 a0.Kind)))]) (fun b3 => [.box [.i .i64 a0.Kind, .i .i64 a0.Seq, .i .i64 a0.Token, .i .i64 a0.Attempt, .b a0.RO, .sl a0.Key.length (a0.Key.flatMap eU8), .sl a0.Val.length (a0.Val.flatMap eU8), .sl a0.Rng.Lo.length (a0.Rng.Lo.flatMap eU8), .sl a0.Rng.Hi.length (a0.Rng.Hi.flatMap eU8), .b a0.Rng.Open]]) (fun b3 => m19_r05_SaneReq_k3 a0 b3 = some r) (fun _ _ => inbL_of rfl) (fun _ _ => blkinb_of rfl) (fun _ _ => Nat.le_of_ble_eq_true rfl) (fun b3 h => ?_) ?_
      · unfold m19_r05_SaneReq_k3 at h
        refine cseq ?_
        refine cregion ?_
        refine sv rfl (opv_fieldAddr_lp fi26_7 rfl) ?_
        refine sv rfl (opv_loadN ti24 rfl (.lp _ _ _ rfl) (Nat.le_of_ble_eq_true rfl)) ?_
        obtain ⟨v4, hv4, h⟩ := bind_eq h
        refine scall1 rfl fn62 (opnds_cons rfl opnds_nil) (pubA_id rfl) (m62_r05_plain_c hv4) ?_
        refine sv rfl (opv_mv rfl) ?_
        refine ssplit 114 rfl (fun hc => ?_) (fun hc => ?_)
        · replace h := ite_t hc h
          clear hc
          refine son rfl rfl rfl ?_
          refine sv rfl (opv_mv rfl) ?_
          refine son rfl rfl rfl ?_
          obtain ⟨v5, hv5, h⟩ := bind_eq h
          refine scall1 rfl fn44 (opnds_cons rfl opnds_nil) (pubA_id rfl) (m44_r05_rng_c hv5) ?_
          refine son rfl rfl rfl ?_
          refine sv rfl (opv_mv rfl) ?_
          refine ssplit 117 rfl (fun hc => ?_) (fun hc => ?_)
          · replace h := ite_t hc h
            clear hc
            refine soff rfl rfl rfl rfl ?_
            refine soff rfl rfl rfl rfl ?_
            refine soff rfl rfl rfl rfl ?_
            refine soff rfl rfl rfl rfl ?_
            refine soff rfl rfl rfl rfl ?_
            refine soff rfl rfl rfl rfl ?_
            refine soffu rfl rfl rfl ?_
            refine soffu rfl rfl rfl ?_
            refine soffu rfl rfl rfl ?_
            refine soffu rfl rfl rfl ?_
            refine soffu rfl rfl rfl ?_
            refine soff rfl rfl rfl rfl ?_
            refine soff rfl rfl rfl rfl ?_
            refine soffu rfl rfl rfl ?_
            refine soffu rfl rfl rfl ?_
            refine soffu rfl rfl rfl ?_
            refine soffu rfl rfl rfl ?_
            refine soff rfl rfl rfl rfl ?_
            refine son rfl rfl rfl ?_
            refine sv rfl (opv_pick_t rfl rfl) ?_
            refine sv rfl (opv_pick_t rfl rfl) ?_
            refine sv rfl (opv_as rfl) ?_
            refine snil ?_
            refine cret ?_
            obtain rfl := Option.some.inj h
            refine ⟨Or.inr rfl, _, _, _, (resVs_cons (ResV.tmp _ _ rfl) resVs_nil), (pubA_id rfl), ?_⟩
            rfl
          · replace h := ite_f hc h
            clear hc
            refine son rfl rfl rfl ?_
            refine sv rfl (opv_fieldAddr_lp fi26_7 rfl) ?_
            refine son rfl rfl rfl ?_
            refine sv rfl (opv_fieldAddr_lp fi24_0 rfl) ?_
            refine son rfl rfl rfl ?_
            refine sv rfl (opv_load1 ti22 rfl (.lp _ _ _ rfl) rfl) ?_
            refine son rfl rfl rfl ?_
            refine sv rfl (opv_len_sl si22 rfl) ?_
            refine son rfl rfl rfl ?_
            refine sv rfl (opv_ieql rfl rfl) ?_
            refine son rfl rfl rfl ?_
            refine sv rfl (opv_mv rfl) ?_
            refine ssplit 123 rfl (fun hc => ?_) (fun hc => ?_)
            · replace h := ite_t hc h
              clear hc
              refine son rfl rfl rfl ?_
              refine sv rfl (opv_fieldAddr_lp fi26_7 rfl) ?_
              refine son rfl rfl rfl ?_
              refine sv rfl (opv_fieldAddr_lp fi24_1 rfl) ?_
              refine son rfl rfl rfl ?_
              refine sv rfl (opv_load1 ti22 rfl (.lp _ _ _ rfl) rfl) ?_
              refine son rfl rfl rfl ?_
              refine sv rfl (opv_len_sl si22 rfl) ?_
              refine son rfl rfl rfl ?_
              refine sv rfl (opv_ieql rfl rfl) ?_
              refine son rfl rfl rfl ?_
              refine sv rfl (opv_pick_t rfl rfl) ?_
              refine son rfl rfl rfl ?_
              refine sv rfl (opv_mv rfl) ?_
              refine ssplit 130 rfl (fun hc => ?_) (fun hc => ?_)
              · replace h := ite_t hc h
                clear hc
                refine son rfl rfl rfl ?_
                refine sv rfl (opv_fieldAddr_lp fi26_7 rfl) ?_
                refine son rfl rfl rfl ?_
                refine sv rfl (opv_fieldAddr_lp fi24_2 rfl) ?_
                refine son rfl rfl rfl ?_
                refine sv rfl (opv_load1 ti4 rfl (.lp _ _ _ rfl) rfl) ?_
                refine son rfl rfl rfl ?_
                refine sv rfl (opv_not rfl) ?_
                refine son rfl rfl rfl ?_
                refine sv rfl (opv_pick_t rfl rfl) ?_
                refine son rfl rfl rfl ?_
                refine sv rfl (opv_pick_f rfl rfl) ?_
                refine sv rfl (opv_pick_t rfl rfl) ?_
                refine sv rfl (opv_as rfl) ?_
                refine snil ?_
                refine cret ?_
                obtain rfl := Option.some.inj h
                refine ⟨Or.inr rfl, _, _, _, (resVs_cons (ResV.tmp _ _ rfl) resVs_nil), (pubA_id rfl), ?_⟩
                rfl
              · replace h := ite_f hc h
                clear hc
                refine soff rfl rfl rfl rfl ?_
                refine soff rfl rfl rfl rfl ?_
                refine soff rfl rfl rfl rfl ?_
                refine soff rfl rfl rfl rfl ?_
                refine son rfl rfl rfl ?_
                refine sv rfl (opv_pick_f rfl rfl) ?_
                refine son rfl rfl rfl ?_
                refine sv rfl (opv_pick_f rfl rfl) ?_
                refine sv rfl (opv_pick_t rfl rfl) ?_
                refine sv rfl (opv_as rfl) ?_
                refine snil ?_
                refine cret ?_
                obtain rfl := Option.some.inj h
                refine ⟨Or.inr rfl, _, _, _, (resVs_cons (ResV.tmp _ _ rfl) resVs_nil), (pubA_id rfl), ?_⟩
                rfl
            · replace h := ite_f hc h
              clear hc
              refine soff rfl rfl rfl rfl ?_
              refine soff rfl rfl rfl rfl ?_
              refine soff rfl rfl rfl rfl ?_
              refine soff rfl rfl rfl rfl ?_
              refine soff rfl rfl rfl rfl ?_
              refine son rfl rfl rfl ?_
              refine sv rfl (opv_pick_f rfl rfl) ?_
              refine son rfl rfl rfl ?_
              refine sv rfl (opv_mv rfl) ?_
              refine soff rfl rfl rfl rfl ?_
              refine soff rfl rfl rfl rfl ?_
              refine soff rfl rfl rfl rfl ?_
              refine soff rfl rfl rfl rfl ?_
              refine son rfl rfl rfl ?_
              refine sv rfl (opv_pick_f rfl rfl) ?_
              refine son rfl rfl rfl ?_
              refine sv rfl (opv_pick_f rfl rfl) ?_
              refine sv rfl (opv_pick_t rfl rfl) ?_
              refine sv rfl (opv_as rfl) ?_
              refine snil ?_
              refine cret ?_
              obtain rfl := Option.some.inj h
              refine ⟨Or.inr rfl, _, _, _, (resVs_cons (ResV.tmp _ _ rfl) resVs_nil), (pubA_id rfl), ?_⟩
              rfl
        · replace h := ite_f hc h
          clear hc
          refine soff rfl rfl rfl rfl ?_
          refine soff rfl rfl rfl rfl ?_
          refine soff rfl rfl rfl rfl ?_
          refine soffu rfl rfl rfl ?_
          refine soffu rfl rfl rfl ?_
          refine soffu rfl rfl rfl ?_
          refine soffu rfl rfl rfl ?_
          refine soffu rfl rfl rfl ?_
          refine soffu rfl rfl rfl ?_
          refine soffu rfl rfl rfl ?_
          refine soffu rfl rfl rfl ?_
          refine soffu rfl rfl rfl ?_
          refine soffu rfl rfl rfl ?_
          refine soffu rfl rfl rfl ?_
          refine soffu rfl rfl rfl ?_
          refine soffu rfl rfl rfl ?_
          refine soffu rfl rfl rfl ?_
          refine soffu rfl rfl rfl ?_
          refine soffu rfl rfl rfl ?_
          refine soffu rfl rfl rfl ?_
          refine soffu rfl rfl rfl ?_
          refine soff rfl rfl rfl rfl ?_
          refine sv rfl (opv_pick_f rfl rfl) ?_
          refine sv rfl (opv_as rfl) ?_
          refine snil ?_
          refine cret ?_
          obtain rfl := Option.some.inj h
          refine ⟨Or.inr rfl, _, _, _, (resVs_cons (ResV.tmp _ _ rfl) resVs_nil), (pubA_id rfl), ?_⟩
          rfl
      · skip
        refine cregion ?_
        refine sv rfl (opv_mv rfl) ?_
        obtain ⟨v6, hv6, h⟩ := bind_eq h
        refine scall1 rfl fn41 (opnds_cons rfl opnds_nil) (pubA_id rfl) (m41_r05_key_c hv6) ?_
        refine sv rfl (opv_mv rfl) ?_
        refine ssplit 71 rfl (fun hc => ?_) (fun hc => ?_)
        · replace h := ite_t hc h
          clear hc
          refine son rfl rfl rfl ?_
          refine sv rfl (opv_fieldAddr_lp fi26_5 rfl) ?_
          refine son rfl rfl rfl ?_
          refine sv rfl (opv_load1 ti22 rfl (.lp _ _ _ rfl) rfl) ?_
          refine son rfl rfl rfl ?_
          refine sv rfl (opv_len_sl si22 rfl) ?_
          refine son rfl rfl rfl ?_
          refine sv rfl (opv_lss rfl rfl) ?_
          refine son rfl rfl rfl ?_
          refine sv rfl (opv_mv rfl) ?_
          refine ssplit 76 rfl (fun hc => ?_) (fun hc => ?_)
          · replace h := ite_t hc h
            clear hc
            refine soff rfl rfl rfl rfl ?_
            refine soff rfl rfl rfl rfl ?_
            refine soff rfl rfl rfl rfl ?_
            refine soff rfl rfl rfl rfl ?_
            refine son rfl rfl rfl ?_
            refine sv rfl (opv_pick_t rfl rfl) ?_
            refine sv rfl (opv_pick_t rfl rfl) ?_
            refine sv rfl (opv_mv rfl) ?_
            refine soff rfl rfl rfl rfl ?_
            refine soff rfl rfl rfl rfl ?_
            refine soff rfl rfl rfl rfl ?_
            refine soff rfl rfl rfl rfl ?_
            refine soffu rfl rfl rfl ?_
            refine soffu rfl rfl rfl ?_
            refine soffu rfl rfl rfl ?_
            refine soffu rfl rfl rfl ?_
            refine soff rfl rfl rfl rfl ?_
            refine sv rfl (opv_pick_t rfl rfl) ?_
            refine sv rfl (opv_mv rfl) ?_
            refine soff rfl rfl rfl rfl ?_
            refine soff rfl rfl rfl rfl ?_
            refine soff rfl rfl rfl rfl ?_
            refine soff rfl rfl rfl rfl ?_
            refine sv rfl (opv_pick_t rfl rfl) ?_
            refine sv rfl (opv_mv rfl) ?_
            refine soff rfl rfl rfl rfl ?_
            refine soff rfl rfl rfl rfl ?_
            refine soff rfl rfl rfl rfl ?_
            refine soff rfl rfl rfl rfl ?_
            refine soffu rfl rfl rfl ?_
            refine soffu rfl rfl rfl ?_
            refine soffu rfl rfl rfl ?_
            refine soffu rfl rfl rfl ?_
            refine soff rfl rfl rfl rfl ?_
            refine sv rfl (opv_pick_t rfl rfl) ?_
            refine snil ?_
            refine ccond rfl (fun _ => ?_) (fun hx => Bool.noConfusion hx)
            refine cseq ?_
            refine cregion ?_
            refine sv rfl (opv_as rfl) ?_
            refine snil ?_
            refine cret ?_
            refine then_ret ?_
            obtain rfl := Option.some.inj h
            refine ⟨Or.inr rfl, _, _, _, (resVs_cons (ResV.tmp _ _ rfl) resVs_nil), (pubA_id rfl), ?_⟩
            rfl
          · replace h := ite_f hc h
            clear hc
            refine son rfl rfl rfl ?_
            refine sv rfl (opv_fieldAddr_lp fi26_5 rfl) ?_
            refine son rfl rfl rfl ?_
            refine sv rfl (opv_load1 ti22 rfl (.lp _ _ _ rfl) rfl) ?_
            refine son rfl rfl rfl ?_
            refine sv rfl (opv_len_sl si22 rfl) ?_
            refine son rfl rfl rfl ?_
            refine sv rfl (opv_gtr rfl rfl) ?_
            refine son rfl rfl rfl ?_
            refine sv rfl (opv_pick_f rfl rfl) ?_
            refine sv rfl (opv_pick_t rfl rfl) ?_
            refine sv rfl (opv_mv rfl) ?_
            refine ssplit 83 rfl (fun hc => ?_) (fun hc => ?_)
            · replace h := ite_t hc h
              clear hc
              refine soff rfl rfl rfl rfl ?_
              refine soff rfl rfl rfl rfl ?_
              refine soff rfl rfl rfl rfl ?_
              refine soff rfl rfl rfl rfl ?_
              refine soffu rfl rfl rfl ?_
              refine soffu rfl rfl rfl ?_
              refine soffu rfl rfl rfl ?_
              refine soffu rfl rfl rfl ?_
              refine soff rfl rfl rfl rfl ?_
              refine sv rfl (opv_pick_t rfl rfl) ?_
              refine sv rfl (opv_mv rfl) ?_
              refine soff rfl rfl rfl rfl ?_
              refine soff rfl rfl rfl rfl ?_
              refine soff rfl rfl rfl rfl ?_
              refine soff rfl rfl rfl rfl ?_
              refine sv rfl (opv_pick_t rfl rfl) ?_
              refine sv rfl (opv_mv rfl) ?_
              refine soff rfl rfl rfl rfl ?_
              refine soff rfl rfl rfl rfl ?_
              refine soff rfl rfl rfl rfl ?_
              refine soff rfl rfl rfl rfl ?_
              refine soffu rfl rfl rfl ?_
              refine soffu rfl rfl rfl ?_
              refine soffu rfl rfl rfl ?_
              refine soffu rfl rfl rfl ?_
              refine soff rfl rfl rfl rfl ?_
              refine sv rfl (opv_pick_t rfl rfl) ?_
              refine snil ?_
              refine ccond rfl (fun _ => ?_) (fun hx => Bool.noConfusion hx)
              refine cseq ?_
              refine cregion ?_
              refine sv rfl (opv_as rfl) ?_
              refine snil ?_
              refine cret ?_
              refine then_ret ?_
              obtain rfl := Option.some.inj h
              refine ⟨Or.inr rfl, _, _, _, (resVs_cons (ResV.tmp _ _ rfl) resVs_nil), (pubA_id rfl), ?_⟩
              rfl
            · replace h := ite_f hc h
              clear hc
              refine son rfl rfl rfl ?_
              refine sv rfl (opv_mv rfl) ?_
              refine son rfl rfl rfl ?_
              obtain ⟨v7, hv7, h⟩ := bind_eq h
              refine scall1 rfl fn41 (opnds_cons rfl opnds_nil) (pubA_id rfl) (m41_r05_key_c hv7) ?_
              refine son rfl rfl rfl ?_
              refine sv rfl (opv_not rfl) ?_
              refine son rfl rfl rfl ?_
              refine sv rfl (opv_mv rfl) ?_
              refine ssplit 87 rfl (fun hc => ?_) (fun hc => ?_)
              · replace h := ite_t hc h
                clear hc
                refine son rfl rfl rfl ?_
                refine sv rfl (opv_fieldAddr_lp fi26_5 rfl) ?_
                refine son rfl rfl rfl ?_
                refine sv rfl (opv_load1 ti22 rfl (.lp _ _ _ rfl) rfl) ?_
                refine son rfl rfl rfl ?_
                refine sv rfl (opv_len_sl si22 rfl) ?_
                refine son rfl rfl rfl ?_
                refine sv rfl (opv_gtr rfl rfl) ?_
                refine son rfl rfl rfl ?_
                refine sv rfl (opv_pick_t rfl rfl) ?_
                refine sv rfl (opv_pick_f rfl rfl) ?_
                refine sv rfl (opv_mv rfl) ?_
                refine ssplit 94 rfl (fun hc => ?_) (fun hc => ?_)
                · replace h := ite_t hc h
                  clear hc
                  refine soff rfl rfl rfl rfl ?_
                  refine soff rfl rfl rfl rfl ?_
                  refine soff rfl rfl rfl rfl ?_
                  refine soff rfl rfl rfl rfl ?_
                  refine sv rfl (opv_pick_t rfl rfl) ?_
                  refine sv rfl (opv_mv rfl) ?_
                  refine soff rfl rfl rfl rfl ?_
                  refine soff rfl rfl rfl rfl ?_
                  refine soff rfl rfl rfl rfl ?_
                  refine soff rfl rfl rfl rfl ?_
                  refine soffu rfl rfl rfl ?_
                  refine soffu rfl rfl rfl ?_
                  refine soffu rfl rfl rfl ?_
                  refine soffu rfl rfl rfl ?_
                  refine soff rfl rfl rfl rfl ?_
                  refine sv rfl (opv_pick_t rfl rfl) ?_
                  refine snil ?_
                  refine ccond rfl (fun _ => ?_) (fun hx => Bool.noConfusion hx)
                  refine cseq ?_
                  refine cregion ?_
                  refine sv rfl (opv_as rfl) ?_
                  refine snil ?_
                  refine cret ?_
                  refine then_ret ?_
                  obtain rfl := Option.some.inj h
                  refine ⟨Or.inr rfl, _, _, _, (resVs_cons (ResV.tmp _ _ rfl) resVs_nil), (pubA_id rfl), ?_⟩
                  rfl
                · replace h := ite_f hc h
                  clear hc
                  refine son rfl rfl rfl ?_
                  refine sv rfl (opv_fieldAddr_lp fi26_6 rfl) ?_
                  refine son rfl rfl rfl ?_
                  refine sv rfl (opv_load1 ti22 rfl (.lp _ _ _ rfl) rfl) ?_
                  refine son rfl rfl rfl ?_
                  refine sv rfl (opv_len_sl si22 rfl) ?_
                  refine son rfl rfl rfl ?_
                  refine sv rfl (opv_gtr rfl rfl) ?_
                  refine sv rfl (opv_pick_f rfl rfl) ?_
                  refine sv rfl (opv_mv rfl) ?_
                  refine ssplit 100 rfl (fun hc => ?_) (fun hc => ?_)
                  · replace h := ite_t hc h
                    clear hc
                    refine soff rfl rfl rfl rfl ?_
                    refine soff rfl rfl rfl rfl ?_
                    refine soff rfl rfl rfl rfl ?_
                    refine soff rfl rfl rfl rfl ?_
                    refine soffu rfl rfl rfl ?_
                    refine soffu rfl rfl rfl ?_
                    refine soffu rfl rfl rfl ?_
                    refine soffu rfl rfl rfl ?_
                    refine soff rfl rfl rfl rfl ?_
                    refine sv rfl (opv_pick_t rfl rfl) ?_
                    refine snil ?_
                    refine ccond rfl (fun _ => ?_) (fun hx => Bool.noConfusion hx)
                    refine cseq ?_
                    refine cregion ?_
                    refine sv rfl (opv_as rfl) ?_
                    refine snil ?_
                    refine cret ?_
                    refine then_ret ?_
                    obtain rfl := Option.some.inj h
                    refine ⟨Or.inr rfl, _, _, _, (resVs_cons (ResV.tmp _ _ rfl) resVs_nil), (pubA_id rfl), ?_⟩
                    rfl
                  · replace h := ite_f hc h
                    clear hc
                    refine son rfl rfl rfl ?_
                    refine sv rfl (opv_mv rfl) ?_
                    refine son rfl rfl rfl ?_
                    obtain ⟨v8, hv8, h⟩ := bind_eq h
                    refine scall1 rfl fn43 (opnds_cons rfl opnds_nil) (pubA_id rfl) (m43_r05_val_c hv8) ?_
                    refine son rfl rfl rfl ?_
                    refine sv rfl (opv_not rfl) ?_
                    refine son rfl rfl rfl ?_
                    refine sv rfl (opv_mv rfl) ?_
                    refine ssplit 104 rfl (fun hc => ?_) (fun hc => ?_)
                    · replace h := ite_t hc h
                      clear hc
                      refine son rfl rfl rfl ?_
                      refine sv rfl (opv_fieldAddr_lp fi26_6 rfl) ?_
                      refine son rfl rfl rfl ?_
                      refine sv rfl (opv_load1 ti22 rfl (.lp _ _ _ rfl) rfl) ?_
                      refine son rfl rfl rfl ?_
                      refine sv rfl (opv_len_sl si22 rfl) ?_
                      refine son rfl rfl rfl ?_
                      refine sv rfl (opv_gtr rfl rfl) ?_
                      refine son rfl rfl rfl ?_
                      refine sv rfl (opv_pick_t rfl rfl) ?_
                      refine sv rfl (opv_pick_f rfl rfl) ?_
                      refine snil ?_
                      refine ccond rfl (fun hc => ?_) (fun hc => ?_)
                      · replace h := ite_t hc h
                        clear hc
                        refine cseq ?_
                        refine cregion ?_
                        refine sv rfl (opv_as rfl) ?_
                        refine snil ?_
                        refine cret ?_
                        refine then_ret ?_
                        obtain rfl := Option.some.inj h
                        refine ⟨Or.inr rfl, _, _, _, (resVs_cons (ResV.tmp _ _ rfl) resVs_nil), (pubA_id rfl), ?_⟩
                        rfl
                      · replace h := ite_f hc h
                        clear hc
                        refine cskip ?_
                        refine then_normal ?_
                        exact ⟨(), _, h, ⟨rfl, rfl, trivial⟩, rfl⟩
                    · replace h := ite_f hc h
                      clear hc
                      refine soff rfl rfl rfl rfl ?_
                      refine soff rfl rfl rfl rfl ?_
                      refine soff rfl rfl rfl rfl ?_
                      refine soff rfl rfl rfl rfl ?_
                      refine son rfl rfl rfl ?_
                      refine sv rfl (opv_pick_f rfl rfl) ?_
                      refine sv rfl (opv_pick_f rfl rfl) ?_
                      refine snil ?_
                      refine ccond rfl (fun hx => Bool.noConfusion hx) (fun _ => ?_)
                      refine cskip ?_
                      refine then_normal ?_
                      exact ⟨(), _, h, ⟨rfl, rfl, trivial⟩, rfl⟩
              · replace h := ite_f hc h
                clear hc
                refine soff rfl rfl rfl rfl ?_
                refine soff rfl rfl rfl rfl ?_
                refine soff rfl rfl rfl rfl ?_
                refine soff rfl rfl rfl rfl ?_
                refine son rfl rfl rfl ?_
                refine sv rfl (opv_pick_f rfl rfl) ?_
                refine sv rfl (opv_pick_f rfl rfl) ?_
                refine sv rfl (opv_mv rfl) ?_
                refine son rfl rfl rfl ?_
                refine sv rfl (opv_fieldAddr_lp fi26_6 rfl) ?_
                refine son rfl rfl rfl ?_
                refine sv rfl (opv_load1 ti22 rfl (.lp _ _ _ rfl) rfl) ?_
                refine son rfl rfl rfl ?_
                refine sv rfl (opv_len_sl si22 rfl) ?_
                refine son rfl rfl rfl ?_
                refine sv rfl (opv_gtr rfl rfl) ?_
                refine sv rfl (opv_pick_f rfl rfl) ?_
                refine sv rfl (opv_mv rfl) ?_
                refine ssplit 100 rfl (fun hc => ?_) (fun hc => ?_)
                · replace h := ite_t hc h
                  clear hc
                  refine soff rfl rfl rfl rfl ?_
                  refine soff rfl rfl rfl rfl ?_
                  refine soff rfl rfl rfl rfl ?_
                  refine soff rfl rfl rfl rfl ?_
                  refine soffu rfl rfl rfl ?_
                  refine soffu rfl rfl rfl ?_
                  refine soffu rfl rfl rfl ?_
                  refine soffu rfl rfl rfl ?_
                  refine soff rfl rfl rfl rfl ?_
                  refine sv rfl (opv_pick_t rfl rfl) ?_
                  refine snil ?_
                  refine ccond rfl (fun _ => ?_) (fun hx => Bool.noConfusion hx)
                  refine cseq ?_
                  refine cregion ?_
                  refine sv rfl (opv_as rfl) ?_
                  refine snil ?_
                  refine cret ?_
                  refine then_ret ?_
                  obtain rfl := Option.some.inj h
                  refine ⟨Or.inr rfl, _, _, _, (resVs_cons (ResV.tmp _ _ rfl) resVs_nil), (pubA_id rfl), ?_⟩
                  rfl
                · replace h := ite_f hc h
                  clear hc
                  refine son rfl rfl rfl ?_
                  refine sv rfl (opv_mv rfl) ?_
                  refine son rfl rfl rfl ?_
                  obtain ⟨v9, hv9, h⟩ := bind_eq h
                  refine scall1 rfl fn43 (opnds_cons rfl opnds_nil) (pubA_id rfl) (m43_r05_val_c hv9) ?_
                  refine son rfl rfl rfl ?_
                  refine sv rfl (opv_not rfl) ?_
                  refine son rfl rfl rfl ?_
                  refine sv rfl (opv_mv rfl) ?_
                  refine ssplit 104 rfl (fun hc => ?_) (fun hc => ?_)
                  · replace h := ite_t hc h
                    clear hc
                    refine son rfl rfl rfl ?_
                    refine sv rfl (opv_fieldAddr_lp fi26_6 rfl) ?_
                    refine son rfl rfl rfl ?_
                    refine sv rfl (opv_load1 ti22 rfl (.lp _ _ _ rfl) rfl) ?_
                    refine son rfl rfl rfl ?_
                    refine sv rfl (opv_len_sl si22 rfl) ?_
                    refine son rfl rfl rfl ?_
                    refine sv rfl (opv_gtr rfl rfl) ?_
                    refine son rfl rfl rfl ?_
                    refine sv rfl (opv_pick_t rfl rfl) ?_
                    refine sv rfl (opv_pick_f rfl rfl) ?_
                    refine snil ?_
                    refine ccond rfl (fun hc => ?_) (fun hc => ?_)
                    · replace h := ite_t hc h
                      clear hc
                      refine cseq ?_
                      refine cregion ?_
                      refine sv rfl (opv_as rfl) ?_
                      refine snil ?_
                      refine cret ?_
                      refine then_ret ?_
                      obtain rfl := Option.some.inj h
                      refine ⟨Or.inr rfl, _, _, _, (resVs_cons (ResV.tmp _ _ rfl) resVs_nil), (pubA_id rfl), ?_⟩
                      rfl
                    · replace h := ite_f hc h
                      clear hc
                      refine cskip ?_
                      refine then_normal ?_
                      exact ⟨(), _, h, ⟨rfl, rfl, trivial⟩, rfl⟩
                  · replace h := ite_f hc h
                    clear hc
                    refine soff rfl rfl rfl rfl ?_
                    refine soff rfl rfl rfl rfl ?_
                    refine soff rfl rfl rfl rfl ?_
                    refine soff rfl rfl rfl rfl ?_
                    refine son rfl rfl rfl ?_
                    refine sv rfl (opv_pick_f rfl rfl) ?_
                    refine sv rfl (opv_pick_f rfl rfl) ?_
                    refine snil ?_
                    refine ccond rfl (fun hx => Bool.noConfusion hx) (fun _ => ?_)
                    refine cskip ?_
                    refine then_normal ?_
                    exact ⟨(), _, h, ⟨rfl, rfl, trivial⟩, rfl⟩
        · replace h := ite_f hc h
          clear hc
          refine soff rfl rfl rfl rfl ?_
          refine soff rfl rfl rfl rfl ?_
          refine soff rfl rfl rfl rfl ?_
          refine soff rfl rfl rfl rfl ?_
          refine soff rfl rfl rfl rfl ?_
          refine soffu rfl rfl rfl ?_
          refine soffu rfl rfl rfl ?_
          refine soffu rfl rfl rfl ?_
          refine soffu rfl rfl rfl ?_
          refine soff rfl rfl rfl rfl ?_
          refine sv rfl (opv_pick_f rfl rfl) ?_
          refine sv rfl (opv_mv rfl) ?_
          refine son rfl rfl rfl ?_
          refine sv rfl (opv_mv rfl) ?_
          refine son rfl rfl rfl ?_
          obtain ⟨v10, hv10, h⟩ := bind_eq h
          refine scall1 rfl fn41 (opnds_cons rfl opnds_nil) (pubA_id rfl) (m41_r05_key_c hv10) ?_
          refine son rfl rfl rfl ?_
          refine sv rfl (opv_not rfl) ?_
          refine son rfl rfl rfl ?_
          refine sv rfl (opv_mv rfl) ?_
          refine ssplit 87 rfl (fun hc => ?_) (fun hc => ?_)
          · replace h := ite_t hc h
            clear hc
            refine son rfl rfl rfl ?_
            refine sv rfl (opv_fieldAddr_lp fi26_5 rfl) ?_
            refine son rfl rfl rfl ?_
            refine sv rfl (opv_load1 ti22 rfl (.lp _ _ _ rfl) rfl) ?_
            refine son rfl rfl rfl ?_
            refine sv rfl (opv_len_sl si22 rfl) ?_
            refine son rfl rfl rfl ?_
            refine sv rfl (opv_gtr rfl rfl) ?_
            refine son rfl rfl rfl ?_
            refine sv rfl (opv_pick_t rfl rfl) ?_
            refine sv rfl (opv_pick_f rfl rfl) ?_
            refine sv rfl (opv_mv rfl) ?_
            refine ssplit 94 rfl (fun hc => ?_) (fun hc => ?_)
            · replace h := ite_t hc h
              clear hc
              refine soff rfl rfl rfl rfl ?_
              refine soff rfl rfl rfl rfl ?_
              refine soff rfl rfl rfl rfl ?_
              refine soff rfl rfl rfl rfl ?_
              refine sv rfl (opv_pick_t rfl rfl) ?_
              refine sv rfl (opv_mv rfl) ?_
              refine soff rfl rfl rfl rfl ?_
              refine soff rfl rfl rfl rfl ?_
              refine soff rfl rfl rfl rfl ?_
              refine soff rfl rfl rfl rfl ?_
              refine soffu rfl rfl rfl ?_
              refine soffu rfl rfl rfl ?_
              refine soffu rfl rfl rfl ?_
              refine soffu rfl rfl rfl ?_
              refine soff rfl rfl rfl rfl ?_
              refine sv rfl (opv_pick_t rfl rfl) ?_
              refine snil ?_
              refine ccond rfl (fun _ => ?_) (fun hx => Bool.noConfusion hx)
              refine cseq ?_
              refine cregion ?_
              refine sv rfl (opv_as rfl) ?_
              refine snil ?_
              refine cret ?_
              refine then_ret ?_
              obtain rfl := Option.some.inj h
              refine ⟨Or.inr rfl, _, _, _, (resVs_cons (ResV.tmp _ _ rfl) resVs_nil), (pubA_id rfl), ?_⟩
              rfl
            · replace h := ite_f hc h
              clear hc
              refine son rfl rfl rfl ?_
              refine sv rfl (opv_fieldAddr_lp fi26_6 rfl) ?_
              refine son rfl rfl rfl ?_
              refine sv rfl (opv_load1 ti22 rfl (.lp _ _ _ rfl) rfl) ?_
              refine son rfl rfl rfl ?_
              refine sv rfl (opv_len_sl si22 rfl) ?_
              refine son rfl rfl rfl ?_
              refine sv rfl (opv_gtr rfl rfl) ?_
              refine sv rfl (opv_pick_f rfl rfl) ?_
              refine sv rfl (opv_mv rfl) ?_
              refine ssplit 100 rfl (fun hc => ?_) (fun hc => ?_)
              · replace h := ite_t hc h
                clear hc
                refine soff rfl rfl rfl rfl ?_
                refine soff rfl rfl rfl rfl ?_
                refine soff rfl rfl rfl rfl ?_
                refine soff rfl rfl rfl rfl ?_
                refine soffu rfl rfl rfl ?_
                refine soffu rfl rfl rfl ?_
                refine soffu rfl rfl rfl ?_
                refine soffu rfl rfl rfl ?_
                refine soff rfl rfl rfl rfl ?_
                refine sv rfl (opv_pick_t rfl rfl) ?_
                refine snil ?_
                refine ccond rfl (fun _ => ?_) (fun hx => Bool.noConfusion hx)
                refine cseq ?_
                refine cregion ?_
                refine sv rfl (opv_as rfl) ?_
                refine snil ?_
                refine cret ?_
                refine then_ret ?_
                obtain rfl := Option.some.inj h
                refine ⟨Or.inr rfl, _, _, _, (resVs_cons (ResV.tmp _ _ rfl) resVs_nil), (pubA_id rfl), ?_⟩
                rfl
              · replace h := ite_f hc h
                clear hc
                refine son rfl rfl rfl ?_
                refine sv rfl (opv_mv rfl) ?_
                refine son rfl rfl rfl ?_
                obtain ⟨v11, hv11, h⟩ := bind_eq h
                refine scall1 rfl fn43 (opnds_cons rfl opnds_nil) (pubA_id rfl) (m43_r05_val_c hv11) ?_
                refine son rfl rfl rfl ?_
                refine sv rfl (opv_not rfl) ?_
                refine son rfl rfl rfl ?_
                refine sv rfl (opv_mv rfl) ?_
                refine ssplit 104 rfl (fun hc => ?_) (fun hc => ?_)
                · replace h := ite_t hc h
                  clear hc
                  refine son rfl rfl rfl ?_
                  refine sv rfl (opv_fieldAddr_lp fi26_6 rfl) ?_
                  refine son rfl rfl rfl ?_
                  refine sv rfl (opv_load1 ti22 rfl (.lp _ _ _ rfl) rfl) ?_
                  refine son rfl rfl rfl ?_
                  refine sv rfl (opv_len_sl si22 rfl) ?_
                  refine son rfl rfl rfl ?_
                  refine sv rfl (opv_gtr rfl rfl) ?_
                  refine son rfl rfl rfl ?_
                  refine sv rfl (opv_pick_t rfl rfl) ?_
                  refine sv rfl (opv_pick_f rfl rfl) ?_
                  refine snil ?_
                  refine ccond rfl (fun hc => ?_) (fun hc => ?_)
                  · replace h := ite_t hc h
                    clear hc
                    refine cseq ?_
                    refine cregion ?_
                    refine sv rfl (opv_as rfl) ?_
                    refine snil ?_
                    refine cret ?_
                    refine then_ret ?_
                    obtain rfl := Option.some.inj h
                    refine ⟨Or.inr rfl, _, _, _, (resVs_cons (ResV.tmp _ _ rfl) resVs_nil), (pubA_id rfl), ?_⟩
                    rfl
                  · replace h := ite_f hc h
                    clear hc
                    refine cskip ?_
                    refine then_normal ?_
                    exact ⟨(), _, h, ⟨rfl, rfl, trivial⟩, rfl⟩
                · replace h := ite_f hc h
                  clear hc
                  refine soff rfl rfl rfl rfl ?_
                  refine soff rfl rfl rfl rfl ?_
                  refine soff rfl rfl rfl rfl ?_
                  refine soff rfl rfl rfl rfl ?_
                  refine son rfl rfl rfl ?_
                  refine sv rfl (opv_pick_f rfl rfl) ?_
                  refine sv rfl (opv_pick_f rfl rfl) ?_
                  refine snil ?_
                  refine ccond rfl (fun hx => Bool.noConfusion hx) (fun _ => ?_)
                  refine cskip ?_
                  refine then_normal ?_
                  exact ⟨(), _, h, ⟨rfl, rfl, trivial⟩, rfl⟩
          · replace h := ite_f hc h
            clear hc
            refine soff rfl rfl rfl rfl ?_
            refine soff rfl rfl rfl rfl ?_
            refine soff rfl rfl rfl rfl ?_
            refine soff rfl rfl rfl rfl ?_
            refine son rfl rfl rfl ?_
            refine sv rfl (opv_pick_f rfl rfl) ?_
            refine sv rfl (opv_pick_f rfl rfl) ?_
            refine sv rfl (opv_mv rfl) ?_
            refine son rfl rfl rfl ?_
            refine sv rfl (opv_fieldAddr_lp fi26_6 rfl) ?_
            refine son rfl rfl rfl ?_
            refine sv rfl (opv_load1 ti22 rfl (.lp _ _ _ rfl) rfl) ?_
            refine son rfl rfl rfl ?_
            refine sv rfl (opv_len_sl si22 rfl) ?_
            refine son rfl rfl rfl ?_
            refine sv rfl (opv_gtr rfl rfl) ?_
            refine sv rfl (opv_pick_f rfl rfl) ?_
            refine sv rfl (opv_mv rfl) ?_
            refine ssplit 100 rfl (fun hc => ?_) (fun hc => ?_)
            · replace h := ite_t hc h
              clear hc
              refine soff rfl rfl rfl rfl ?_
              refine soff rfl rfl rfl rfl ?_
              refine soff rfl rfl rfl rfl ?_
              refine soff rfl rfl rfl rfl ?_
              refine soffu rfl rfl rfl ?_
              refine soffu rfl rfl rfl ?_
              refine soffu rfl rfl rfl ?_
              refine soffu rfl rfl rfl ?_
              refine soff rfl rfl rfl rfl ?_
              refine sv rfl (opv_pick_t rfl rfl) ?_
              refine snil ?_
              refine ccond rfl (fun _ => ?_) (fun hx => Bool.noConfusion hx)
              refine cseq ?_
              refine cregion ?_
              refine sv rfl (opv_as rfl) ?_
              refine snil ?_
              refine cret ?_
              refine then_ret ?_
              obtain rfl := Option.some.inj h
              refine ⟨Or.inr rfl, _, _, _, (resVs_cons (ResV.tmp _ _ rfl) resVs_nil), (pubA_id rfl), ?_⟩
              rfl
            · replace h := ite_f hc h
              clear hc
              refine son rfl rfl rfl ?_
              refine sv rfl (opv_mv rfl) ?_
              refine son rfl rfl rfl ?_
              obtain ⟨v12, hv12, h⟩ := bind_eq h
              refine scall1 rfl fn43 (opnds_cons rfl opnds_nil) (pubA_id rfl) (m43_r05_val_c hv12) ?_
              refine son rfl rfl rfl ?_
              refine sv rfl (opv_not rfl) ?_
              refine son rfl rfl rfl ?_
              refine sv rfl (opv_mv rfl) ?_
              refine ssplit 104 rfl (fun hc => ?_) (fun hc => ?_)
              · replace h := ite_t hc h
                clear hc
                refine son rfl rfl rfl ?_
                refine sv rfl (opv_fieldAddr_lp fi26_6 rfl) ?_
                refine son rfl rfl rfl ?_
                refine sv rfl (opv_load1 ti22 rfl (.lp _ _ _ rfl) rfl) ?_
                refine son rfl rfl rfl ?_
                refine sv rfl (opv_len_sl si22 rfl) ?_
                refine son rfl rfl rfl ?_
                refine sv rfl (opv_gtr rfl rfl) ?_
                refine son rfl rfl rfl ?_
                refine sv rfl (opv_pick_t rfl rfl) ?_
                refine sv rfl (opv_pick_f rfl rfl) ?_
                refine snil ?_
                refine ccond rfl (fun hc => ?_) (fun hc => ?_)
                · replace h := ite_t hc h
                  clear hc
                  refine cseq ?_
                  refine cregion ?_
                  refine sv rfl (opv_as rfl) ?_
                  refine snil ?_
                  refine cret ?_
                  refine then_ret ?_
                  obtain rfl := Option.some.inj h
                  refine ⟨Or.inr rfl, _, _, _, (resVs_cons (ResV.tmp _ _ rfl) resVs_nil), (pubA_id rfl), ?_⟩
                  rfl
                · replace h := ite_f hc h
                  clear hc
                  refine cskip ?_
                  refine then_normal ?_
                  exact ⟨(), _, h, ⟨rfl, rfl, trivial⟩, rfl⟩
              · replace h := ite_f hc h
                clear hc
                refine soff rfl rfl rfl rfl ?_
                refine soff rfl rfl rfl rfl ?_
                refine soff rfl rfl rfl rfl ?_
                refine soff rfl rfl rfl rfl ?_
                refine son rfl rfl rfl ?_
                refine sv rfl (opv_pick_f rfl rfl) ?_
                refine sv rfl (opv_pick_f rfl rfl) ?_
                refine snil ?_
                refine ccond rfl (fun hx => Bool.noConfusion hx) (fun _ => ?_)
                refine cskip ?_
                refine then_normal ?_
                exact ⟨(), _, h, ⟨rfl, rfl, trivial⟩, rfl⟩
    · skip
      refine cregion ?_
      refine sv rfl (opv_mv rfl) ?_
      obtain ⟨v13, hv13, h⟩ := bind_eq h
      refine scall1 rfl fn37 (opnds_cons rfl opnds_nil) (pubA_id rfl) (m37_r05_token_c hv13) ?_
      refine sv rfl (opv_not rfl) ?_
      refine sv rfl (opv_mv rfl) ?_
      refine ssplit 45 rfl (fun hc => ?_) (fun hc => ?_)
      · replace h := ite_t hc h
        clear hc
        refine son rfl rfl rfl ?_
        refine sv rfl (opv_fieldAddr_lp fi26_2 rfl) ?_
        refine son rfl rfl rfl ?_
        refine sv rfl (opv_load1 ti3 rfl (.lp _ _ _ rfl) rfl) ?_
        refine son rfl rfl rfl ?_
        refine sv rfl (opv_ineq rfl rfl) ?_
        refine sv rfl (opv_pick_t rfl rfl) ?_
        refine sv rfl (opv_mv rfl) ?_
        refine ssplit 50 rfl (fun hc => ?_) (fun hc => ?_)
        · replace h := ite_t hc h
          clear hc
          refine soff rfl rfl rfl rfl ?_
          refine soff rfl rfl rfl rfl ?_
          refine soff rfl rfl rfl rfl ?_
          refine soff rfl rfl rfl rfl ?_
          refine soffu rfl rfl rfl ?_
          refine soffu rfl rfl rfl ?_
          refine soffu rfl rfl rfl ?_
          refine soff rfl rfl rfl rfl ?_
          refine sv rfl (opv_pick_t rfl rfl) ?_
          refine sv rfl (opv_mv rfl) ?_
          refine soff rfl rfl rfl rfl ?_
          refine soff rfl rfl rfl rfl ?_
          refine soff rfl rfl rfl rfl ?_
          refine soff rfl rfl rfl rfl ?_
          refine soffu rfl rfl rfl ?_
          refine soffu rfl rfl rfl ?_
          refine soff rfl rfl rfl rfl ?_
          refine sv rfl (opv_pick_t rfl rfl) ?_
          refine snil ?_
          refine ccond rfl (fun _ => ?_) (fun hx => Bool.noConfusion hx)
          refine cseq ?_
          refine cregion ?_
          refine sv rfl (opv_as rfl) ?_
          refine snil ?_
          refine cret ?_
          refine then_ret ?_
          obtain rfl := Option.some.inj h
          refine ⟨Or.inr rfl, _, _, _, (resVs_cons (ResV.tmp _ _ rfl) resVs_nil), (pubA_id rfl), ?_⟩
          rfl
        · replace h := ite_f hc h
          clear hc
          refine son rfl rfl rfl ?_
          refine sv rfl (opv_mv rfl) ?_
          refine son rfl rfl rfl ?_
          obtain ⟨v14, hv14, h⟩ := bind_eq h
          refine scall1 rfl fn38 (opnds_cons rfl opnds_nil) (pubA_id rfl) (m38_r05_attempt_c hv14) ?_
          refine son rfl rfl rfl ?_
          refine sv rfl (opv_not rfl) ?_
          refine son rfl rfl rfl ?_
          refine sv rfl (opv_mv rfl) ?_
          refine ssplit 54 rfl (fun hc => ?_) (fun hc => ?_)
          · replace h := ite_t hc h
            clear hc
            refine son rfl rfl rfl ?_
            refine sv rfl (opv_fieldAddr_lp fi26_3 rfl) ?_
            refine son rfl rfl rfl ?_
            refine sv rfl (opv_load1 ti3 rfl (.lp _ _ _ rfl) rfl) ?_
            refine son rfl rfl rfl ?_
            refine sv rfl (opv_ineq rfl rfl) ?_
            refine son rfl rfl rfl ?_
            refine sv rfl (opv_pick_t rfl rfl) ?_
            refine sv rfl (opv_pick_f rfl rfl) ?_
            refine sv rfl (opv_mv rfl) ?_
            refine ssplit 60 rfl (fun hc => ?_) (fun hc => ?_)
            · replace h := ite_t hc h
              clear hc
              refine soff rfl rfl rfl rfl ?_
              refine soff rfl rfl rfl rfl ?_
              refine soff rfl rfl rfl rfl ?_
              refine soff rfl rfl rfl rfl ?_
              refine soffu rfl rfl rfl ?_
              refine soffu rfl rfl rfl ?_
              refine soff rfl rfl rfl rfl ?_
              refine sv rfl (opv_pick_t rfl rfl) ?_
              refine snil ?_
              refine ccond rfl (fun _ => ?_) (fun hx => Bool.noConfusion hx)
              refine cseq ?_
              refine cregion ?_
              refine sv rfl (opv_as rfl) ?_
              refine snil ?_
              refine cret ?_
              refine then_ret ?_
              obtain rfl := Option.some.inj h
              refine ⟨Or.inr rfl, _, _, _, (resVs_cons (ResV.tmp _ _ rfl) resVs_nil), (pubA_id rfl), ?_⟩
              rfl
            · replace h := ite_f hc h
              clear hc
              refine son rfl rfl rfl ?_
              refine sv rfl (opv_mv rfl) ?_
              refine son rfl rfl rfl ?_
              obtain ⟨v15, hv15, h⟩ := bind_eq h
              refine scall1 rfl fn39 (opnds_cons rfl opnds_nil) (pubA_id rfl) (m39_r05_flag_c hv15) ?_
              refine son rfl rfl rfl ?_
              refine sv rfl (opv_not rfl) ?_
              refine son rfl rfl rfl ?_
              refine sv rfl (opv_mv rfl) ?_
              refine ssplit 64 rfl (fun hc => ?_) (fun hc => ?_)
              · replace h := ite_t hc h
                clear hc
                refine son rfl rfl rfl ?_
                refine sv rfl (opv_fieldAddr_lp fi26_4 rfl) ?_
                refine son rfl rfl rfl ?_
                refine sv rfl (opv_load1 ti4 rfl (.lp _ _ _ rfl) rfl) ?_
                refine son rfl rfl rfl ?_
                refine sv rfl (opv_pick_t rfl rfl) ?_
                refine sv rfl (opv_pick_f rfl rfl) ?_
                refine snil ?_
                refine ccond rfl (fun hc => ?_) (fun hc => ?_)
                · replace h := ite_t hc h
                  clear hc
                  refine cseq ?_
                  refine cregion ?_
                  refine sv rfl (opv_as rfl) ?_
                  refine snil ?_
                  refine cret ?_
                  refine then_ret ?_
                  obtain rfl := Option.some.inj h
                  refine ⟨Or.inr rfl, _, _, _, (resVs_cons (ResV.tmp _ _ rfl) resVs_nil), (pubA_id rfl), ?_⟩
                  rfl
                · replace h := ite_f hc h
                  clear hc
                  refine cskip ?_
                  refine then_normal ?_
                  exact ⟨(), _, h, ⟨rfl, rfl, trivial⟩, rfl⟩
              · replace h := ite_f hc h
                clear hc
                refine soff rfl rfl rfl rfl ?_
                refine soff rfl rfl rfl rfl ?_
                refine son rfl rfl rfl ?_
                refine sv rfl (opv_pick_f rfl rfl) ?_
                refine sv rfl (opv_pick_f rfl rfl) ?_
                refine snil ?_
                refine ccond rfl (fun hx => Bool.noConfusion hx) (fun _ => ?_)
                refine cskip ?_
                refine then_normal ?_
                exact ⟨(), _, h, ⟨rfl, rfl, trivial⟩, rfl⟩
          · replace h := ite_f hc h
            clear hc
            refine soff rfl rfl rfl rfl ?_
            refine soff rfl rfl rfl rfl ?_
            refine soff rfl rfl rfl rfl ?_
            refine son rfl rfl rfl ?_
            refine sv rfl (opv_pick_f rfl rfl) ?_
            refine sv rfl (opv_pick_f rfl rfl) ?_
            refine sv rfl (opv_mv rfl) ?_
            refine son rfl rfl rfl ?_
            refine sv rfl (opv_mv rfl) ?_
            refine son rfl rfl rfl ?_
            obtain ⟨v16, hv16, h⟩ := bind_eq h
            refine scall1 rfl fn39 (opnds_cons rfl opnds_nil) (pubA_id rfl) (m39_r05_flag_c hv16) ?_
            refine son rfl rfl rfl ?_
            refine sv rfl (opv_not rfl) ?_
            refine son rfl rfl rfl ?_
            refine sv rfl (opv_mv rfl) ?_
            refine ssplit 64 rfl (fun hc => ?_) (fun hc => ?_)
            · replace h := ite_t hc h
              clear hc
              refine son rfl rfl rfl ?_
              refine sv rfl (opv_fieldAddr_lp fi26_4 rfl) ?_
              refine son rfl rfl rfl ?_
              refine sv rfl (opv_load1 ti4 rfl (.lp _ _ _ rfl) rfl) ?_
              refine son rfl rfl rfl ?_
              refine sv rfl (opv_pick_t rfl rfl) ?_
              refine sv rfl (opv_pick_f rfl rfl) ?_
              refine snil ?_
              refine ccond rfl (fun hc => ?_) (fun hc => ?_)
              · replace h := ite_t hc h
                clear hc
                refine cseq ?_
                refine cregion ?_
                refine sv rfl (opv_as rfl) ?_
                refine snil ?_
                refine cret ?_
                refine then_ret ?_
                obtain rfl := Option.some.inj h
                refine ⟨Or.inr rfl, _, _, _, (resVs_cons (ResV.tmp _ _ rfl) resVs_nil), (pubA_id rfl), ?_⟩
                rfl
              · replace h := ite_f hc h
                clear hc
                refine cskip ?_
                refine then_normal ?_
                exact ⟨(), _, h, ⟨rfl, rfl, trivial⟩, rfl⟩
            · replace h := ite_f hc h
              clear hc
              refine soff rfl rfl rfl rfl ?_
              refine soff rfl rfl rfl rfl ?_
              refine son rfl rfl rfl ?_
              refine sv rfl (opv_pick_f rfl rfl) ?_
              refine sv rfl (opv_pick_f rfl rfl) ?_
              refine snil ?_
              refine ccond rfl (fun hx => Bool.noConfusion hx) (fun _ => ?_)
              refine cskip ?_
              refine then_normal ?_
              exact ⟨(), _, h, ⟨rfl, rfl, trivial⟩, rfl⟩
      · replace h := ite_f hc h
        clear hc
        refine soff rfl rfl rfl rfl ?_
        refine soff rfl rfl rfl rfl ?_
        refine soff rfl rfl rfl rfl ?_
        refine sv rfl (opv_pick_f rfl rfl) ?_
        refine sv rfl (opv_mv rfl) ?_
        refine son rfl rfl rfl ?_
        refine sv rfl (opv_mv rfl) ?_
        refine son rfl rfl rfl ?_
        obtain ⟨v17, hv17, h⟩ := bind_eq h
        refine scall1 rfl fn38 (opnds_cons rfl opnds_nil) (pubA_id rfl) (m38_r05_attempt_c hv17) ?_
        refine son rfl rfl rfl ?_
        refine sv rfl (opv_not rfl) ?_
        refine son rfl rfl rfl ?_
        refine sv rfl (opv_mv rfl) ?_
        refine ssplit 54 rfl (fun hc => ?_) (fun hc => ?_)
        · replace h := ite_t hc h
          clear hc
          refine son rfl rfl rfl ?_
          refine sv rfl (opv_fieldAddr_lp fi26_3 rfl) ?_
          refine son rfl rfl rfl ?_
          refine sv rfl (opv_load1 ti3 rfl (.lp _ _ _ rfl) rfl) ?_
          refine son rfl rfl rfl ?_
          refine sv rfl (opv_ineq rfl rfl) ?_
          refine son rfl rfl rfl ?_
          refine sv rfl (opv_pick_t rfl rfl) ?_
          refine sv rfl (opv_pick_f rfl rfl) ?_
          refine sv rfl (opv_mv rfl) ?_
          refine ssplit 60 rfl (fun hc => ?_) (fun hc => ?_)
          · replace h := ite_t hc h
            clear hc
            refine soff rfl rfl rfl rfl ?_
            refine soff rfl rfl rfl rfl ?_
            refine soff rfl rfl rfl rfl ?_
            refine soff rfl rfl rfl rfl ?_
            refine soffu rfl rfl rfl ?_
            refine soffu rfl rfl rfl ?_
            refine soff rfl rfl rfl rfl ?_
            refine sv rfl (opv_pick_t rfl rfl) ?_
            refine snil ?_
            refine ccond rfl (fun _ => ?_) (fun hx => Bool.noConfusion hx)
            refine cseq ?_
            refine cregion ?_
            refine sv rfl (opv_as rfl) ?_
            refine snil ?_
            refine cret ?_
            refine then_ret ?_
            obtain rfl := Option.some.inj h
            refine ⟨Or.inr rfl, _, _, _, (resVs_cons (ResV.tmp _ _ rfl) resVs_nil), (pubA_id rfl), ?_⟩
            rfl
          · replace h := ite_f hc h
            clear hc
            refine son rfl rfl rfl ?_
            refine sv rfl (opv_mv rfl) ?_
            refine son rfl rfl rfl ?_
            obtain ⟨v18, hv18, h⟩ := bind_eq h
            refine scall1 rfl fn39 (opnds_cons rfl opnds_nil) (pubA_id rfl) (m39_r05_flag_c hv18) ?_
            refine son rfl rfl rfl ?_
            refine sv rfl (opv_not rfl) ?_
            refine son rfl rfl rfl ?_
            refine sv rfl (opv_mv rfl) ?_
            refine ssplit 64 rfl (fun hc => ?_) (fun hc => ?_)
            · replace h := ite_t hc h
              clear hc
              refine son rfl rfl rfl ?_
              refine sv rfl (opv_fieldAddr_lp fi26_4 rfl) ?_
              refine son rfl rfl rfl ?_
              refine sv rfl (opv_load1 ti4 rfl (.lp _ _ _ rfl) rfl) ?_
              refine son rfl rfl rfl ?_
              refine sv rfl (opv_pick_t rfl rfl) ?_
              refine sv rfl (opv_pick_f rfl rfl) ?_
              refine snil ?_
              refine ccond rfl (fun hc => ?_) (fun hc => ?_)
              · replace h := ite_t hc h
                clear hc
                refine cseq ?_
                refine cregion ?_
                refine sv rfl (opv_as rfl) ?_
                refine snil ?_
                refine cret ?_
                refine then_ret ?_
                obtain rfl := Option.some.inj h
                refine ⟨Or.inr rfl, _, _, _, (resVs_cons (ResV.tmp _ _ rfl) resVs_nil), (pubA_id rfl), ?_⟩
                rfl
              · replace h := ite_f hc h
                clear hc
                refine cskip ?_
                refine then_normal ?_
                exact ⟨(), _, h, ⟨rfl, rfl, trivial⟩, rfl⟩
            · replace h := ite_f hc h
              clear hc
              refine soff rfl rfl rfl rfl ?_
              refine soff rfl rfl rfl rfl ?_
              refine son rfl rfl rfl ?_
              refine sv rfl (opv_pick_f rfl rfl) ?_
              refine sv rfl (opv_pick_f rfl rfl) ?_
              refine snil ?_
              refine ccond rfl (fun hx => Bool.noConfusion hx) (fun _ => ?_)
              refine cskip ?_
              refine then_normal ?_
              exact ⟨(), _, h, ⟨rfl, rfl, trivial⟩, rfl⟩
        · replace h := ite_f hc h
          clear hc
          refine soff rfl rfl rfl rfl ?_
          refine soff rfl rfl rfl rfl ?_
          refine soff rfl rfl rfl rfl ?_
          refine son rfl rfl rfl ?_
          refine sv rfl (opv_pick_f rfl rfl) ?_
          refine sv rfl (opv_pick_f rfl rfl) ?_
          refine sv rfl (opv_mv rfl) ?_
          refine son rfl rfl rfl ?_
          refine sv rfl (opv_mv rfl) ?_
          refine son rfl rfl rfl ?_
          obtain ⟨v19, hv19, h⟩ := bind_eq h
          refine scall1 rfl fn39 (opnds_cons rfl opnds_nil) (pubA_id rfl) (m39_r05_flag_c hv19) ?_
          refine son rfl rfl rfl ?_
          refine sv rfl (opv_not rfl) ?_
          refine son rfl rfl rfl ?_
          refine sv rfl (opv_mv rfl) ?_
          refine ssplit 64 rfl (fun hc => ?_) (fun hc => ?_)
          · replace h := ite_t hc h
            clear hc
            refine son rfl rfl rfl ?_
            refine sv rfl (opv_fieldAddr_lp fi26_4 rfl) ?_
            refine son rfl rfl rfl ?_
            refine sv rfl (opv_load1 ti4 rfl (.lp _ _ _ rfl) rfl) ?_
            refine son rfl rfl rfl ?_
            refine sv rfl (opv_pick_t rfl rfl) ?_
            refine sv rfl (opv_pick_f rfl rfl) ?_
            refine snil ?_
            refine ccond rfl (fun hc => ?_) (fun hc => ?_)
            · replace h := ite_t hc h
              clear hc
              refine cseq ?_
              refine cregion ?_
              refine sv rfl (opv_as rfl) ?_
              refine snil ?_
              refine cret ?_
              refine then_ret ?_
              obtain rfl := Option.some.inj h
              refine ⟨Or.inr rfl, _, _, _, (resVs_cons (ResV.tmp _ _ rfl) resVs_nil), (pubA_id rfl), ?_⟩
              rfl
            · replace h := ite_f hc h
              clear hc
              refine cskip ?_
              refine then_normal ?_
              exact ⟨(), _, h, ⟨rfl, rfl, trivial⟩, rfl⟩
          · replace h := ite_f hc h
            clear hc
            refine soff rfl rfl rfl rfl ?_
            refine soff rfl rfl rfl rfl ?_
            refine son rfl rfl rfl ?_
            refine sv rfl (opv_pick_f rfl rfl) ?_
            refine sv rfl (opv_pick_f rfl rfl) ?_
            refine snil ?_
            refine ccond rfl (fun hx => Bool.noConfusion hx) (fun _ => ?_)
            refine cskip ?_
            refine then_normal ?_
            exact ⟨(), _, h, ⟨rfl, rfl, trivial⟩, rfl⟩
  · skip
    refine cregion ?_
    refine sv rfl (opv_mv rfl) ?_
    refine sv rfl (opv_lss rfl rfl) ?_
    refine sv rfl (opv_mv rfl) ?_
    refine ssplit 8 rfl (fun hc => ?_) (fun hc => ?_)
    · replace h := ite_t hc h
      clear hc
      refine soff rfl rfl rfl rfl ?_
      refine soff rfl rfl rfl rfl ?_
      refine sv rfl (opv_pick_t rfl rfl) ?_
      refine sv rfl (opv_mv rfl) ?_
      refine soff rfl rfl rfl rfl ?_
      refine soff rfl rfl rfl rfl ?_
      refine soff rfl rfl rfl rfl ?_
      refine sv rfl (opv_pick_t rfl rfl) ?_
      refine sv rfl (opv_mv rfl) ?_
      refine soff rfl rfl rfl rfl ?_
      refine soff rfl rfl rfl rfl ?_
      refine soff rfl rfl rfl rfl ?_
      refine sv rfl (opv_pick_t rfl rfl) ?_
      refine sv rfl (opv_mv rfl) ?_
      refine soff rfl rfl rfl rfl ?_
      refine soff rfl rfl rfl rfl ?_
      refine soff rfl rfl rfl rfl ?_
      refine sv rfl (opv_pick_t rfl rfl) ?_
      refine sv rfl (opv_mv rfl) ?_
      refine soff rfl rfl rfl rfl ?_
      refine soff rfl rfl rfl rfl ?_
      refine soff rfl rfl rfl rfl ?_
      refine sv rfl (opv_pick_t rfl rfl) ?_
      refine sv rfl (opv_mv rfl) ?_
      refine soff rfl rfl rfl rfl ?_
      refine soff rfl rfl rfl rfl ?_
      refine soff rfl rfl rfl rfl ?_
      refine sv rfl (opv_pick_t rfl rfl) ?_
      refine sv rfl (opv_mv rfl) ?_
      refine soff rfl rfl rfl rfl ?_
      refine soff rfl rfl rfl rfl ?_
      refine soff rfl rfl rfl rfl ?_
      refine sv rfl (opv_pick_t rfl rfl) ?_
      refine snil ?_
      refine ccond rfl (fun _ => ?_) (fun hx => Bool.noConfusion hx)
      refine cseq ?_
      refine cregion ?_
      refine sv rfl (opv_as rfl) ?_
      refine snil ?_
      refine cret ?_
      refine then_ret ?_
      obtain rfl := Option.some.inj h
      refine ⟨Or.inr rfl, _, _, _, (resVs_cons (ResV.tmp _ _ rfl) resVs_nil), (pubA_id rfl), ?_⟩
      rfl
    · replace h := ite_f hc h
      clear hc
      refine son rfl rfl rfl ?_
      refine sv rfl (opv_mv rfl) ?_
      refine son rfl rfl rfl ?_
      refine sv rfl (opv_gtr rfl rfl) ?_
      refine sv rfl (opv_pick_f rfl rfl) ?_
      refine sv rfl (opv_mv rfl) ?_
      refine ssplit 12 rfl (fun hc => ?_) (fun hc => ?_)
      · replace h := ite_t hc h
        clear hc
        refine soff rfl rfl rfl rfl ?_
        refine soff rfl rfl rfl rfl ?_
        refine soff rfl rfl rfl rfl ?_
        refine sv rfl (opv_pick_t rfl rfl) ?_
        refine sv rfl (opv_mv rfl) ?_
        refine soff rfl rfl rfl rfl ?_
        refine soff rfl rfl rfl rfl ?_
        refine soff rfl rfl rfl rfl ?_
        refine sv rfl (opv_pick_t rfl rfl) ?_
        refine sv rfl (opv_mv rfl) ?_
        refine soff rfl rfl rfl rfl ?_
        refine soff rfl rfl rfl rfl ?_
        refine soff rfl rfl rfl rfl ?_
        refine sv rfl (opv_pick_t rfl rfl) ?_
        refine sv rfl (opv_mv rfl) ?_
        refine soff rfl rfl rfl rfl ?_
        refine soff rfl rfl rfl rfl ?_
        refine soff rfl rfl rfl rfl ?_
        refine sv rfl (opv_pick_t rfl rfl) ?_
        refine sv rfl (opv_mv rfl) ?_
        refine soff rfl rfl rfl rfl ?_
        refine soff rfl rfl rfl rfl ?_
        refine soff rfl rfl rfl rfl ?_
        refine sv rfl (opv_pick_t rfl rfl) ?_
        refine sv rfl (opv_mv rfl) ?_
        refine soff rfl rfl rfl rfl ?_
        refine soff rfl rfl rfl rfl ?_
        refine soff rfl rfl rfl rfl ?_
        refine sv rfl (opv_pick_t rfl rfl) ?_
        refine snil ?_
        refine ccond rfl (fun _ => ?_) (fun hx => Bool.noConfusion hx)
        refine cseq ?_
        refine cregion ?_
        refine sv rfl (opv_as rfl) ?_
        refine snil ?_
        refine cret ?_
        refine then_ret ?_
        obtain rfl := Option.some.inj h
        refine ⟨Or.inr rfl, _, _, _, (resVs_cons (ResV.tmp _ _ rfl) resVs_nil), (pubA_id rfl), ?_⟩
        rfl
      · replace h := ite_f hc h
        clear hc
        refine son rfl rfl rfl ?_
        refine sv rfl (opv_fieldAddr_lp fi26_1 rfl) ?_
        refine son rfl rfl rfl ?_
        refine sv rfl (opv_load1 ti3 rfl (.lp _ _ _ rfl) rfl) ?_
        refine son rfl rfl rfl ?_
        refine sv rfl (opv_lss rfl rfl) ?_
        refine sv rfl (opv_pick_f rfl rfl) ?_
        refine sv rfl (opv_mv rfl) ?_
        refine ssplit 17 rfl (fun hc => ?_) (fun hc => ?_)
        · replace h := ite_t hc h
          clear hc
          refine soff rfl rfl rfl rfl ?_
          refine soff rfl rfl rfl rfl ?_
          refine soff rfl rfl rfl rfl ?_
          refine sv rfl (opv_pick_t rfl rfl) ?_
          refine sv rfl (opv_mv rfl) ?_
          refine soff rfl rfl rfl rfl ?_
          refine soff rfl rfl rfl rfl ?_
          refine soff rfl rfl rfl rfl ?_
          refine sv rfl (opv_pick_t rfl rfl) ?_
          refine sv rfl (opv_mv rfl) ?_
          refine soff rfl rfl rfl rfl ?_
          refine soff rfl rfl rfl rfl ?_
          refine soff rfl rfl rfl rfl ?_
          refine sv rfl (opv_pick_t rfl rfl) ?_
          refine sv rfl (opv_mv rfl) ?_
          refine soff rfl rfl rfl rfl ?_
          refine soff rfl rfl rfl rfl ?_
          refine soff rfl rfl rfl rfl ?_
          refine sv rfl (opv_pick_t rfl rfl) ?_
          refine sv rfl (opv_mv rfl) ?_
          refine soff rfl rfl rfl rfl ?_
          refine soff rfl rfl rfl rfl ?_
          refine soff rfl rfl rfl rfl ?_
          refine sv rfl (opv_pick_t rfl rfl) ?_
          refine snil ?_
          refine ccond rfl (fun _ => ?_) (fun hx => Bool.noConfusion hx)
          refine cseq ?_
          refine cregion ?_
          refine sv rfl (opv_as rfl) ?_
          refine snil ?_
          refine cret ?_
          refine then_ret ?_
          obtain rfl := Option.some.inj h
          refine ⟨Or.inr rfl, _, _, _, (resVs_cons (ResV.tmp _ _ rfl) resVs_nil), (pubA_id rfl), ?_⟩
          rfl
        · replace h := ite_f hc h
          clear hc
          refine son rfl rfl rfl ?_
          refine sv rfl (opv_fieldAddr_lp fi26_1 rfl) ?_
          refine son rfl rfl rfl ?_
          refine sv rfl (opv_load1 ti3 rfl (.lp _ _ _ rfl) rfl) ?_
          refine son rfl rfl rfl ?_
          refine sv rfl (opv_gtr rfl rfl) ?_
          refine sv rfl (opv_pick_f rfl rfl) ?_
          refine sv rfl (opv_mv rfl) ?_
          refine ssplit 22 rfl (fun hc => ?_) (fun hc => ?_)
          · replace h := ite_t hc h
            clear hc
            refine soff rfl rfl rfl rfl ?_
            refine soff rfl rfl rfl rfl ?_
            refine soff rfl rfl rfl rfl ?_
            refine sv rfl (opv_pick_t rfl rfl) ?_
            refine sv rfl (opv_mv rfl) ?_
            refine soff rfl rfl rfl rfl ?_
            refine soff rfl rfl rfl rfl ?_
            refine soff rfl rfl rfl rfl ?_
            refine sv rfl (opv_pick_t rfl rfl) ?_
            refine sv rfl (opv_mv rfl) ?_
            refine soff rfl rfl rfl rfl ?_
            refine soff rfl rfl rfl rfl ?_
            refine soff rfl rfl rfl rfl ?_
            refine sv rfl (opv_pick_t rfl rfl) ?_
            refine sv rfl (opv_mv rfl) ?_
            refine soff rfl rfl rfl rfl ?_
            refine soff rfl rfl rfl rfl ?_
            refine soff rfl rfl rfl rfl ?_
            refine sv rfl (opv_pick_t rfl rfl) ?_
            refine snil ?_
            refine ccond rfl (fun _ => ?_) (fun hx => Bool.noConfusion hx)
            refine cseq ?_
            refine cregion ?_
            refine sv rfl (opv_as rfl) ?_
            refine snil ?_
            refine cret ?_
            refine then_ret ?_
            obtain rfl := Option.some.inj h
            refine ⟨Or.inr rfl, _, _, _, (resVs_cons (ResV.tmp _ _ rfl) resVs_nil), (pubA_id rfl), ?_⟩
            rfl
          · replace h := ite_f hc h
            clear hc
            refine son rfl rfl rfl ?_
            refine sv rfl (opv_fieldAddr_lp fi26_2 rfl) ?_
            refine son rfl rfl rfl ?_
            refine sv rfl (opv_load1 ti3 rfl (.lp _ _ _ rfl) rfl) ?_
            refine son rfl rfl rfl ?_
            refine sv rfl (opv_lss rfl rfl) ?_
            refine sv rfl (opv_pick_f rfl rfl) ?_
            refine sv rfl (opv_mv rfl) ?_
            refine ssplit 27 rfl (fun hc => ?_) (fun hc => ?_)
            · replace h := ite_t hc h
              clear hc
              refine soff rfl rfl rfl rfl ?_
              refine soff rfl rfl rfl rfl ?_
              refine soff rfl rfl rfl rfl ?_
              refine sv rfl (opv_pick_t rfl rfl) ?_
              refine sv rfl (opv_mv rfl) ?_
              refine soff rfl rfl rfl rfl ?_
              refine soff rfl rfl rfl rfl ?_
              refine soff rfl rfl rfl rfl ?_
              refine sv rfl (opv_pick_t rfl rfl) ?_
              refine sv rfl (opv_mv rfl) ?_
              refine soff rfl rfl rfl rfl ?_
              refine soff rfl rfl rfl rfl ?_
              refine soff rfl rfl rfl rfl ?_
              refine sv rfl (opv_pick_t rfl rfl) ?_
              refine snil ?_
              refine ccond rfl (fun _ => ?_) (fun hx => Bool.noConfusion hx)
              refine cseq ?_
              refine cregion ?_
              refine sv rfl (opv_as rfl) ?_
              refine snil ?_
              refine cret ?_
              refine then_ret ?_
              obtain rfl := Option.some.inj h
              refine ⟨Or.inr rfl, _, _, _, (resVs_cons (ResV.tmp _ _ rfl) resVs_nil), (pubA_id rfl), ?_⟩
              rfl
            · replace h := ite_f hc h
              clear hc
              refine son rfl rfl rfl ?_
              refine sv rfl (opv_fieldAddr_lp fi26_2 rfl) ?_
              refine son rfl rfl rfl ?_
              refine sv rfl (opv_load1 ti3 rfl (.lp _ _ _ rfl) rfl) ?_
              refine son rfl rfl rfl ?_
              refine sv rfl (opv_gtr rfl rfl) ?_
              refine sv rfl (opv_pick_f rfl rfl) ?_
              refine sv rfl (opv_mv rfl) ?_
              refine ssplit 32 rfl (fun hc => ?_) (fun hc => ?_)
              · replace h := ite_t hc h
                clear hc
                refine soff rfl rfl rfl rfl ?_
                refine soff rfl rfl rfl rfl ?_
                refine soff rfl rfl rfl rfl ?_
                refine sv rfl (opv_pick_t rfl rfl) ?_
                refine sv rfl (opv_mv rfl) ?_
                refine soff rfl rfl rfl rfl ?_
                refine soff rfl rfl rfl rfl ?_
                refine soff rfl rfl rfl rfl ?_
                refine sv rfl (opv_pick_t rfl rfl) ?_
                refine snil ?_
                refine ccond rfl (fun _ => ?_) (fun hx => Bool.noConfusion hx)
                refine cseq ?_
                refine cregion ?_
                refine sv rfl (opv_as rfl) ?_
                refine snil ?_
                refine cret ?_
                refine then_ret ?_
                obtain rfl := Option.some.inj h
                refine ⟨Or.inr rfl, _, _, _, (resVs_cons (ResV.tmp _ _ rfl) resVs_nil), (pubA_id rfl), ?_⟩
                rfl
              · replace h := ite_f hc h
                clear hc
                refine son rfl rfl rfl ?_
                refine sv rfl (opv_fieldAddr_lp fi26_3 rfl) ?_
                refine son rfl rfl rfl ?_
                refine sv rfl (opv_load1 ti3 rfl (.lp _ _ _ rfl) rfl) ?_
                refine son rfl rfl rfl ?_
                refine sv rfl (opv_lss rfl rfl) ?_
                refine sv rfl (opv_pick_f rfl rfl) ?_
                refine sv rfl (opv_mv rfl) ?_
                refine ssplit 37 rfl (fun hc => ?_) (fun hc => ?_)
                · replace h := ite_t hc h
                  clear hc
                  refine soff rfl rfl rfl rfl ?_
                  refine soff rfl rfl rfl rfl ?_
                  refine soff rfl rfl rfl rfl ?_
                  refine sv rfl (opv_pick_t rfl rfl) ?_
                  refine snil ?_
                  refine ccond rfl (fun _ => ?_) (fun hx => Bool.noConfusion hx)
                  refine cseq ?_
                  refine cregion ?_
                  refine sv rfl (opv_as rfl) ?_
                  refine snil ?_
                  refine cret ?_
                  refine then_ret ?_
                  obtain rfl := Option.some.inj h
                  refine ⟨Or.inr rfl, _, _, _, (resVs_cons (ResV.tmp _ _ rfl) resVs_nil), (pubA_id rfl), ?_⟩
                  rfl
                · replace h := ite_f hc h
                  clear hc
                  refine son rfl rfl rfl ?_
                  refine sv rfl (opv_fieldAddr_lp fi26_3 rfl) ?_
                  refine son rfl rfl rfl ?_
                  refine sv rfl (opv_load1 ti3 rfl (.lp _ _ _ rfl) rfl) ?_
                  refine son rfl rfl rfl ?_
                  refine sv rfl (opv_gtr rfl rfl) ?_
                  refine sv rfl (opv_pick_f rfl rfl) ?_
                  refine snil ?_
                  refine ccond rfl (fun hc => ?_) (fun hc => ?_)
                  · replace h := ite_t hc h
                    clear hc
                    refine cseq ?_
                    refine cregion ?_
                    refine sv rfl (opv_as rfl) ?_
                    refine snil ?_
                    refine cret ?_
                    refine then_ret ?_
                    obtain rfl := Option.some.inj h
                    refine ⟨Or.inr rfl, _, _, _, (resVs_cons (ResV.tmp _ _ rfl) resVs_nil), (pubA_id rfl), ?_⟩
                    rfl
                  · replace h := ite_f hc h
                    clear hc
                    refine cskip ?_
                    refine then_normal ?_
                    exact ⟨(), _, h, ⟨rfl, rfl, trivial⟩, rfl⟩

def m36_r01_U_k2 (b2 : (List UInt8)) : Option (List UInt8) :=
  some b2

def m36_r01_U_k4 (s3 : (BitVec 64) × Int × (List UInt8)) (b4 : Unit) : Option (LB ((BitVec 64) × Int × (List UInt8)) ((List UInt8))) :=
  if (s3.2.2.length + [(UInt8.ofBitVec ((s3.1 % (256#64)).setWidth 8))].length) * 1 ≤ 140737488355328 then (some (.cont ((s3.1 / (256#64)), (wI (s3.2.1 + 1)), (s3.2.2 ++ [(UInt8.ofBitVec ((s3.1 % (256#64)).setWidth 8))])))) else none

def m36_r01_U_s3 (a2 : Int) (s3 : (BitVec 64) × Int × (List UInt8)) : Option (LB ((BitVec 64) × Int × (List UInt8)) ((List UInt8))) :=
  if (decide (s3.2.1 < a2)) then (if (decide (s3.2.1 < 8)) then (m36_r01_U_k4 s3 ()) else (some (.brk s3.2.2))) else (some (.brk s3.2.2))
def m36_r01_U (a0 : List UInt8) (a1 : BitVec 64) (a2 : Int) : Option (List UInt8) :=
  if (([] : List UInt8).length + a0.length) * 1 ≤ 140737488355328 then ((iterB (m36_r01_U_s3 a2) fuel (a1, 0, (([] : List UInt8) ++ a0))).bind fun e6 => m36_r01_U_k2 e6) else none

set_option maxRecDepth 100000 in
theorem m36_r01_U_c {a0 : List UInt8} {a1 : BitVec 64} {a2 : Int} {r : (List UInt8)} (h : m36_r01_U a0 a1 a2 = some r) : CallsA Tryd.prog 36 [.one (.sl a0.length (a0.flatMap eU8)), .one (.i .u64 (a1.toNat : Int)), .one (.i .i64 a2)] (· = .s (.one (.sl r.length (r.flatMap eU8)))) := by
  unfold m36_r01_U at h
  refine callsA_of Tryd.func36 rfl (nt := 30) rfl (Nat.le_of_ble_eq_true rfl) ?_
  intro w0 S0
  refine cseq ?_
  refine cregion ?_
  refine sv rfl (opv_as rfl) ?_
  refine snil ?_
  refine cseq ?_
  refine cregion ?_
  refine sbuild0 rfl Tryd.underlying22 ei5 ?_
  refine sv rfl (opv_mv rfl) ?_
  obtain ⟨hb1, h⟩ := chk_eq h
  refine sapp (f := eU8) (xs := ([] : List UInt8)) (us := a0) rfl Tryd.underlying22 ei5 ni22 (fun _ => rfl) rfl rfl (.one _ _ _ _ (.id _ rfl)) rfl rfl rfl (.sl _ _ _ (flat_len (f := eU8) (fun _ => rfl) _)) rfl rfl hb1 (by decide) ?_
  refine sv rfl (opv_as rfl) ?_
  refine snil ?_
  refine cseq ?_
  refine cseq ?_
  refine cregion ?_
  refine sv rfl (opv_as rfl) ?_
  refine snil ?_
  refine cjoin ((List UInt8)) (fun b2 => [(7, .s (.one (.ls 0 b2.length)))]) (fun b2 => [.arr 5 1 0 (b2.flatMap eU8)]) (fun b2 => m36_r01_U_k2 b2 = some r) (fun _ _ => inbL_of rfl) (fun _ _ => blkinb_of rfl) (fun _ _ => Nat.le_of_ble_eq_true rfl) (fun b2 h => ?_) ?_
  · unfold m36_r01_U_k2 at h
    refine cseq ?_
    refine cregion ?_
    refine sv rfl (opv_mv rfl) ?_
    refine sv rfl (opv_as rfl) ?_
    refine snil ?_
    refine cret ?_
    obtain rfl := Option.some.inj h
    refine ⟨Or.inr rfl, _, _, _, (resVs_cons (ResV.tmp _ _ rfl) resVs_nil), (by (repeat' first | exact PubA.nil _ | apply PubA.cons | apply PubV.one | apply PubV.agg | exact PubL.nil | exact PubL.ls _ _ _ _ _ _ rfl (flat_len (f := eU8) (fun _ => rfl) _).symm | exact PubL.id _ rfl | exact PubLs.nil _ | apply PubLs.cons)), ?_⟩
    rfl
  · skip
    refine cblock ?_
    obtain ⟨x3, hx3, ho3⟩ := bind_eq h
    refine awc_loop (G := Nat × ((BitVec 64) × Int × (List UInt8))) (fun g => [(1, .s (.one (.i .u64 (g.2.1.toNat : Int)))), (2, .s (.one (.i .i64 a2))), (7, .s (.one (.ls 0 g.2.2.2.length))), (8, .s (.one (.i .i64 g.2.2.1)))]) (fun g => [.arr 5 1 0 (g.2.2.2.flatMap eU8)]) (fun g => iterB (m36_r01_U_s3 a2) g.1 g.2 = some x3) (fun g => g.1) (fuel, (a1, 0, (([] : List UInt8) ++ a0))) hx3 ⟨rfl, rfl, rfl, rfl, trivial⟩ [] rfl (fun _ _ => inbL_of rfl) (fun _ _ => blkinb_of rfl) (fun _ _ => Nat.le_of_ble_eq_true rfl) ?_
    clear hx3 h
    rintro ⟨n3, s3⟩ h
    obtain ⟨n3, y3, rfl, h, hk3⟩ := iterB_eq h
    unfold m36_r01_U_s3 at h
    refine cseq ?_
    refine cseq ?_
    refine cjoin3 (Unit) (fun b4 => [(1, .s (.one (.i .u64 (s3.1.toNat : Int)))), (2, .s (.one (.i .i64 a2))), (7, .s (.one (.ls 0 s3.2.2.length))), (8, .s (.one (.i .i64 s3.2.1)))]) (fun b4 => [.arr 5 1 0 (s3.2.2.flatMap eU8)]) (fun b4 => m36_r01_U_k4 s3 b4 = some y3) (fun _ _ => inbL_of rfl) (fun _ _ => blkinb_of rfl) (fun _ _ => Nat.le_of_ble_eq_true rfl) (fun b4 h => ?_) ?_
    · unfold m36_r01_U_k4 at h
      refine cseq ?_
      refine cblock ?_
      refine cseq ?_
      refine cregion ?_
      refine sv rfl (opv_mv rfl) ?_
      refine sv rfl (opv_mv rfl) ?_
      refine sv rfl (opv_rem_u64 (a := s3.1) (b := 256#64) rfl rfl rfl rfl (by decide)) ?_
      refine sv rfl (opv_conv_bv (k := .u64) (a := (s3.1 % (256#64))) rfl Tryd.underlying69 Tryd.underlying5 rfl rfl) ?_
      refine sbuild1 rfl Tryd.underlying22 ei5 rfl rfl (List.all_eq_true.1 rfl) (by decide) ?_
      refine smem [.arr 5 1 0 (s3.2.2.flatMap eU8), .arr 5 1 0 ([(UInt8.ofBitVec ((s3.1 % (256#64)).setWidth 8))].flatMap eU8)] rfl ?_
      obtain ⟨hb5, h⟩ := chk_eq h
      refine sapp (f := eU8) (xs := s3.2.2) (us := [(UInt8.ofBitVec ((s3.1 % (256#64)).setWidth 8))]) rfl Tryd.underlying22 ei5 ni22 (fun _ => rfl) rfl rfl (.one _ _ _ _ (.ls _ _ _ _ _ _ rfl (flat_len (f := eU8) (fun _ => rfl) [(UInt8.ofBitVec ((s3.1 % (256#64)).setWidth 8))]).symm)) rfl rfl rfl (.sl _ _ _ (flat_len (f := eU8) (fun _ => rfl) _)) rfl rfl hb5 (by decide) ?_
      refine sv rfl (opv_as rfl) ?_
      refine snil ?_
      refine cregion ?_
      refine sv rfl (opv_mv rfl) ?_
      refine sv rfl (opv_quo_u64 (a := s3.1) (b := 256#64) rfl rfl rfl rfl (by decide)) ?_
      refine sv rfl (opv_as rfl) ?_
      refine snil0 ?_
      refine block_normal ?_
      refine then_normal ?_
      refine cregion ?_
      refine sv rfl (opv_mv rfl) ?_
      refine sv rfl (opv_add rfl rfl) ?_
      refine sv rfl (opv_as rfl) ?_
      refine snil ?_
      obtain rfl := Option.some.inj h
      exact ⟨(n3, ((s3.1 / (256#64)), (wI (s3.2.1 + 1)), (s3.2.2 ++ [(UInt8.ofBitVec ((s3.1 % (256#64)).setWidth 8))]))), _, hk3, ⟨rfl, rfl, rfl, rfl, trivial⟩, rfl, Nat.lt_succ_self _⟩
    · skip
      refine cregion ?_
      refine sv rfl (opv_mv rfl) ?_
      refine sv rfl (opv_mv rfl) ?_
      refine sv rfl (opv_lss rfl rfl) ?_
      refine sv rfl (opv_mv rfl) ?_
      refine ssplit 15 rfl (fun hc => ?_) (fun hc => ?_)
      · replace h := ite_t hc h
        clear hc
        refine son rfl rfl rfl ?_
        refine sv rfl (opv_mv rfl) ?_
        refine son rfl rfl rfl ?_
        refine sv rfl (opv_lss rfl rfl) ?_
        refine sv rfl (opv_pick_t rfl rfl) ?_
        refine snil ?_
        refine ccond rfl (fun hc => ?_) (fun hc => ?_)
        · replace h := ite_t hc h
          clear hc
          refine cskip ?_
          refine then_normal ?_
          exact ⟨(), _, h, ⟨rfl, rfl, rfl, rfl, trivial⟩, rfl⟩
        · replace h := ite_f hc h
          clear hc
          refine cexit ?_
          refine then_exit ?_
          refine then_exit ?_
          refine block_hit ?_
          refine then_normal ?_
          obtain rfl := Option.some.inj h
          obtain rfl : _ = x3 := hk3
          exact ⟨s3.2.2, _, ho3, ⟨rfl, trivial⟩, rfl⟩
      · replace h := ite_f hc h
        clear hc
        refine soff rfl rfl rfl rfl ?_
        refine soff rfl rfl rfl rfl ?_
        refine sv rfl (opv_pick_f rfl rfl) ?_
        refine snil ?_
        refine ccond rfl (fun hx => Bool.noConfusion hx) (fun _ => ?_)
        refine cexit ?_
        refine then_exit ?_
        refine then_exit ?_
        refine block_hit ?_
        refine then_normal ?_
        obtain rfl := Option.some.inj h
        obtain rfl : _ = x3 := hk3
        exact ⟨s3.2.2, _, ho3, ⟨rfl, trivial⟩, rfl⟩

def m40_r05_bit (a0 : Bool) : Option (BitVec 64) :=
  if a0 then (some (1#64)) else (some (0#64))

set_option maxRecDepth 100000 in
theorem m40_r05_bit_c {a0 : Bool} {r : (BitVec 64)} (h : m40_r05_bit a0 = some r) : CallsA Tryd.prog 40 [.one (.b a0)] (· = .s (.one (.i .u64 (r.toNat : Int)))) := by
  unfold m40_r05_bit at h
  refine callsA_of Tryd.func40 rfl (nt := 4) rfl (Nat.le_of_ble_eq_true rfl) ?_
  intro w0 S0
  refine cseq ?_
  refine cregion ?_
  refine sv rfl (opv_as rfl) ?_
  refine snil ?_
  refine cseq ?_
  refine cseq ?_
  refine cregion ?_
  refine sv rfl (opv_mv rfl) ?_
  refine snil ?_
  refine ccond rfl (fun hc => ?_) (fun hc => ?_)
  · replace h := ite_t hc h
    clear hc
    refine cseq ?_
    refine cregion ?_
    refine sv rfl (opv_as rfl) ?_
    refine snil ?_
    refine cret ?_
    refine then_ret ?_
    obtain rfl := Option.some.inj h
    refine ⟨Or.inr rfl, _, _, _, (resVs_cons (ResV.tmp _ _ rfl) resVs_nil), (pubA_id rfl), ?_⟩
    rfl
  · replace h := ite_f hc h
    clear hc
    refine cskip ?_
    refine then_normal ?_
    refine cseq ?_
    refine cregion ?_
    refine sv rfl (opv_as rfl) ?_
    refine snil ?_
    refine cret ?_
    obtain rfl := Option.some.inj h
    refine ⟨Or.inr rfl, _, _, _, (resVs_cons (ResV.tmp _ _ rfl) resVs_nil), (pubA_id rfl), ?_⟩
    rfl

def m36_r01_Uo_k2 (b2 : (List UInt8)) : Option (List UInt8) :=
  some b2

def m36_r01_Uo_k4 (s3 : (BitVec 64) × Int × (List UInt8)) (b4 : Unit) : Option (LB ((BitVec 64) × Int × (List UInt8)) ((List UInt8))) :=
  if (s3.2.2.length + [(UInt8.ofBitVec ((s3.1 % (256#64)).setWidth 8))].length) * 1 ≤ 140737488355328 then (some (.cont ((s3.1 / (256#64)), (wI (s3.2.1 + 1)), (s3.2.2 ++ [(UInt8.ofBitVec ((s3.1 % (256#64)).setWidth 8))])))) else none

def m36_r01_Uo_s3 (a2 : Int) (s3 : (BitVec 64) × Int × (List UInt8)) : Option (LB ((BitVec 64) × Int × (List UInt8)) ((List UInt8))) :=
  if (decide (s3.2.1 < a2)) then (if (decide (s3.2.1 < 8)) then (m36_r01_Uo_k4 s3 ()) else (some (.brk s3.2.2))) else (some (.brk s3.2.2))
def m36_r01_Uo (a0 : List UInt8) (a1 : BitVec 64) (a2 : Int) : Option (List UInt8) :=
  if (([] : List UInt8).length + a0.length) * 1 ≤ 140737488355328 then ((iterB (m36_r01_Uo_s3 a2) fuel (a1, 0, (([] : List UInt8) ++ a0))).bind fun e6 => m36_r01_Uo_k2 e6) else none

set_option maxRecDepth 100000 in
theorem m36_r01_Uo_c {a0 : List UInt8} {a1 : BitVec 64} {a2 : Int} {r : (List UInt8)} (h : m36_r01_Uo a0 a1 a2 = some r) : CallsB Tryd.prog 36 [] [.one (.sl a0.length (a0.flatMap eU8)), .one (.i .u64 (a1.toNat : Int)), .one (.i .i64 a2)] (fun y m' => y = .s (.one (.ls 0 r.length)) ∧ m' = [.arr 5 1 0 (r.flatMap eU8)]) := by
  unfold m36_r01_Uo at h
  refine callsB_of Tryd.func36 rfl (nt := 30) rfl (Nat.le_of_ble_eq_true rfl) ?_
  intro w0 S0 X0 H0
  refine cseq ?_
  refine cregion ?_
  refine sv rfl (opv_as rfl) ?_
  refine snil ?_
  refine cseq ?_
  refine cregion ?_
  refine sbuild0 rfl Tryd.underlying22 ei5 ?_
  refine sv rfl (opv_mv rfl) ?_
  obtain ⟨hb1, h⟩ := chk_eq h
  refine sapp (f := eU8) (xs := ([] : List UInt8)) (us := a0) rfl Tryd.underlying22 ei5 ni22 (fun _ => rfl) rfl rfl (.one _ _ _ _ (.id _ rfl)) rfl rfl rfl (.sl _ _ _ (flat_len (f := eU8) (fun _ => rfl) _)) rfl rfl hb1 (by decide) ?_
  refine sv rfl (opv_as rfl) ?_
  refine snil ?_
  refine cseq ?_
  refine cseq ?_
  refine cregion ?_
  refine sv rfl (opv_as rfl) ?_
  refine snil ?_
  refine cjoin ((List UInt8)) (fun b2 => [(7, .s (.one (.ls 0 b2.length)))]) (fun b2 => [.arr 5 1 0 (b2.flatMap eU8)]) (fun b2 => m36_r01_Uo_k2 b2 = some r) (fun _ _ => inbL_of rfl) (fun _ _ => blkinb_of rfl) (fun _ _ => Nat.le_of_ble_eq_true rfl) (fun b2 h => ?_) ?_
  · unfold m36_r01_Uo_k2 at h
    refine cseq ?_
    refine cregion ?_
    refine sv rfl (opv_mv rfl) ?_
    refine sv rfl (opv_as rfl) ?_
    refine snil ?_
    refine cret ?_
    obtain rfl := Option.some.inj h
    exact ⟨Or.inr rfl, _, [0], [.one (.ls 0 b2.length)], [.arr 5 1 0 (b2.flatMap eU8)], (resVs_cons (ResV.tmp _ _ rfl) resVs_nil), rfl, rfl, ⟨by decide, rfl⟩, rfl, rfl, ⟨rfl, rfl⟩⟩
  · skip
    refine cblock ?_
    obtain ⟨x3, hx3, ho3⟩ := bind_eq h
    refine awc_loop (G := Nat × ((BitVec 64) × Int × (List UInt8))) (fun g => [(1, .s (.one (.i .u64 (g.2.1.toNat : Int)))), (2, .s (.one (.i .i64 a2))), (7, .s (.one (.ls 0 g.2.2.2.length))), (8, .s (.one (.i .i64 g.2.2.1)))]) (fun g => [.arr 5 1 0 (g.2.2.2.flatMap eU8)]) (fun g => iterB (m36_r01_Uo_s3 a2) g.1 g.2 = some x3) (fun g => g.1) (fuel, (a1, 0, (([] : List UInt8) ++ a0))) hx3 ⟨rfl, rfl, rfl, rfl, trivial⟩ [] rfl (fun _ _ => inbL_of rfl) (fun _ _ => blkinb_of rfl) (fun _ _ => Nat.le_of_ble_eq_true rfl) ?_
    clear hx3 h
    rintro ⟨n3, s3⟩ h
    obtain ⟨n3, y3, rfl, h, hk3⟩ := iterB_eq h
    unfold m36_r01_Uo_s3 at h
    refine cseq ?_
    refine cseq ?_
    refine cjoin3 (Unit) (fun b4 => [(1, .s (.one (.i .u64 (s3.1.toNat : Int)))), (2, .s (.one (.i .i64 a2))), (7, .s (.one (.ls 0 s3.2.2.length))), (8, .s (.one (.i .i64 s3.2.1)))]) (fun b4 => [.arr 5 1 0 (s3.2.2.flatMap eU8)]) (fun b4 => m36_r01_Uo_k4 s3 b4 = some y3) (fun _ _ => inbL_of rfl) (fun _ _ => blkinb_of rfl) (fun _ _ => Nat.le_of_ble_eq_true rfl) (fun b4 h => ?_) ?_
    · unfold m36_r01_Uo_k4 at h
      refine cseq ?_
      refine cblock ?_
      refine cseq ?_
      refine cregion ?_
      refine sv rfl (opv_mv rfl) ?_
      refine sv rfl (opv_mv rfl) ?_
      refine sv rfl (opv_rem_u64 (a := s3.1) (b := 256#64) rfl rfl rfl rfl (by decide)) ?_
      refine sv rfl (opv_conv_bv (k := .u64) (a := (s3.1 % (256#64))) rfl Tryd.underlying69 Tryd.underlying5 rfl rfl) ?_
      refine sbuild1 rfl Tryd.underlying22 ei5 rfl rfl (List.all_eq_true.1 rfl) (by decide) ?_
      refine smem [.arr 5 1 0 (s3.2.2.flatMap eU8), .arr 5 1 0 ([(UInt8.ofBitVec ((s3.1 % (256#64)).setWidth 8))].flatMap eU8)] rfl ?_
      obtain ⟨hb5, h⟩ := chk_eq h
      refine sapp (f := eU8) (xs := s3.2.2) (us := [(UInt8.ofBitVec ((s3.1 % (256#64)).setWidth 8))]) rfl Tryd.underlying22 ei5 ni22 (fun _ => rfl) rfl rfl (.one _ _ _ _ (.ls _ _ _ _ _ _ rfl (flat_len (f := eU8) (fun _ => rfl) [(UInt8.ofBitVec ((s3.1 % (256#64)).setWidth 8))]).symm)) rfl rfl rfl (.sl _ _ _ (flat_len (f := eU8) (fun _ => rfl) _)) rfl rfl hb5 (by decide) ?_
      refine sv rfl (opv_as rfl) ?_
      refine snil ?_
      refine cregion ?_
      refine sv rfl (opv_mv rfl) ?_
      refine sv rfl (opv_quo_u64 (a := s3.1) (b := 256#64) rfl rfl rfl rfl (by decide)) ?_
      refine sv rfl (opv_as rfl) ?_
      refine snil0 ?_
      refine block_normal ?_
      refine then_normal ?_
      refine cregion ?_
      refine sv rfl (opv_mv rfl) ?_
      refine sv rfl (opv_add rfl rfl) ?_
      refine sv rfl (opv_as rfl) ?_
      refine snil ?_
      obtain rfl := Option.some.inj h
      exact ⟨(n3, ((s3.1 / (256#64)), (wI (s3.2.1 + 1)), (s3.2.2 ++ [(UInt8.ofBitVec ((s3.1 % (256#64)).setWidth 8))]))), _, hk3, ⟨rfl, rfl, rfl, rfl, trivial⟩, rfl, Nat.lt_succ_self _⟩
    · skip
      refine cregion ?_
      refine sv rfl (opv_mv rfl) ?_
      refine sv rfl (opv_mv rfl) ?_
      refine sv rfl (opv_lss rfl rfl) ?_
      refine sv rfl (opv_mv rfl) ?_
      refine ssplit 15 rfl (fun hc => ?_) (fun hc => ?_)
      · replace h := ite_t hc h
        clear hc
        refine son rfl rfl rfl ?_
        refine sv rfl (opv_mv rfl) ?_
        refine son rfl rfl rfl ?_
        refine sv rfl (opv_lss rfl rfl) ?_
        refine sv rfl (opv_pick_t rfl rfl) ?_
        refine snil ?_
        refine ccond rfl (fun hc => ?_) (fun hc => ?_)
        · replace h := ite_t hc h
          clear hc
          refine cskip ?_
          refine then_normal ?_
          exact ⟨(), _, h, ⟨rfl, rfl, rfl, rfl, trivial⟩, rfl⟩
        · replace h := ite_f hc h
          clear hc
          refine cexit ?_
          refine then_exit ?_
          refine then_exit ?_
          refine block_hit ?_
          refine then_normal ?_
          obtain rfl := Option.some.inj h
          obtain rfl : _ = x3 := hk3
          exact ⟨s3.2.2, _, ho3, ⟨rfl, trivial⟩, rfl⟩
      · replace h := ite_f hc h
        clear hc
        refine soff rfl rfl rfl rfl ?_
        refine soff rfl rfl rfl rfl ?_
        refine sv rfl (opv_pick_f rfl rfl) ?_
        refine snil ?_
        refine ccond rfl (fun hx => Bool.noConfusion hx) (fun _ => ?_)
        refine cexit ?_
        refine then_exit ?_
        refine then_exit ?_
        refine block_hit ?_
        refine then_normal ?_
        obtain rfl := Option.some.inj h
        obtain rfl : _ = x3 := hk3
        exact ⟨s3.2.2, _, ho3, ⟨rfl, trivial⟩, rfl⟩

def m42_r01_List (a0 : List UInt8) (a1 : List UInt8) : Option (List UInt8) :=
  (m36_r01_Uo a0 (BitVec.ofInt 64 (if 65535 < (a1.length : Int) then 65535 else (a1.length : Int))) 2).bind fun v1 => (cut a1 0 (if 65535 < (a1.length : Int) then 65535 else (a1.length : Int))).bind fun c2 => if (v1.length + c2.length) * 1 ≤ 140737488355328 then (some (v1 ++ c2)) else none

set_option maxRecDepth 100000 in
theorem m42_r01_List_c {a0 : List UInt8} {a1 : List UInt8} {r : (List UInt8)} (h : m42_r01_List a0 a1 = some r) : CallsA Tryd.prog 42 [.one (.sl a0.length (a0.flatMap eU8)), .one (.sl a1.length (a1.flatMap eU8))] (· = .s (.one (.sl r.length (r.flatMap eU8)))) := by
  unfold m42_r01_List at h
  refine callsA_of Tryd.func42 rfl (nt := 19) rfl (Nat.le_of_ble_eq_true rfl) ?_
  intro w0 S0
  refine cseq ?_
  refine cregion ?_
  refine sv rfl (opv_as rfl) ?_
  refine snil ?_
  refine cseq ?_
  refine cregion ?_
  refine sv rfl (opv_mv rfl) ?_
  refine sv rfl (opv_len_sl si22 rfl) ?_
  refine sv rfl (opv_min rfl rfl) ?_
  refine sv rfl (opv_as rfl) ?_
  refine snil ?_
  refine cseq ?_
  refine cregion ?_
  refine sv rfl (opv_mv rfl) ?_
  refine sv rfl (opv_mv rfl) ?_
  refine sv rfl (opv_conv_ibv rfl Tryd.underlying3 Tryd.underlying69 rfl) ?_
  obtain ⟨v1, hv1, h⟩ := bind_eq h
  refine scallB (x' := .s (.one (.ls 0 v1.length))) (M' := [.arr 5 1 0 (v1.flatMap eU8)]) [] rfl fn36 (.func _) (opnds_cons rfl (opnds_cons rfl (opnds_cons rfl opnds_nil))) (m36_r01_Uo_c hv1) rfl rfl (by decide) rfl rfl rfl ?_
  refine sv rfl (opv_as rfl) ?_
  refine snil ?_
  refine cseq ?_
  refine cregion ?_
  refine sv rfl (opv_mv rfl) ?_
  refine sv rfl (opv_mv rfl) ?_
  refine sv rfl (opv_mv rfl) ?_
  obtain ⟨c2, hc2, h⟩ := bind_eq h
  refine sv rfl (opv_cut (f := eU8) (lo := 0) (hi := (if 65535 < (a1.length : Int) then 65535 else (a1.length : Int))) si22 (fun _ => rfl) rfl rfl rfl bound_none (bound_some rfl (Int.le_trans (cut_eq hc2).1.1 (cut_eq hc2).1.2.1)) hc2) ?_
  obtain ⟨hb3, h⟩ := chk_eq h
  refine sapp (f := eU8) (xs := v1) (us := c2) rfl Tryd.underlying22 ei5 ni22 (fun _ => rfl) rfl rfl (.one _ _ _ _ (.id _ rfl)) rfl rfl rfl (.sl _ _ _ (flat_len (f := eU8) (fun _ => rfl) _)) rfl rfl hb3 (by decide) ?_
  refine sv rfl (opv_as rfl) ?_
  refine snil ?_
  refine cret ?_
  obtain rfl := Option.some.inj h
  refine ⟨Or.inr rfl, _, _, _, (resVs_cons (ResV.tmp _ _ rfl) resVs_nil), (by (repeat' first | exact PubA.nil _ | apply PubA.cons | apply PubV.one | apply PubV.agg | exact PubL.nil | exact PubL.ls _ _ _ _ _ _ rfl (flat_len (f := eU8) (fun _ => rfl) _).symm | exact PubL.id _ rfl | exact PubLs.nil _ | apply PubLs.cons)), ?_⟩
  rfl

def m13_r05_PutReq_k15 (b15 : (List UInt8)) : Option ((List UInt8) × Int) :=
  some (b15, 0)

def m13_r05_PutReq_k13 (a0 : GR05Req) (b13 : (List UInt8)) : Option ((List UInt8) × Int) :=
  (m44_r05_rng a0.Kind).bind fun v14 => if v14 then ((m42_r01_List b13 a0.Rng.Lo).bind fun v16 => (m40_r05_bit a0.Rng.Open).bind fun v17 => (m36_r01_U v16 v17 1).bind fun v18 => (m42_r01_List v18 a0.Rng.Hi).bind fun v19 => m13_r05_PutReq_k15 v19) else (m13_r05_PutReq_k15 b13)

def m13_r05_PutReq_k11 (a0 : GR05Req) (b11 : (List UInt8)) : Option ((List UInt8) × Int) :=
  (m43_r05_val a0.Kind).bind fun v12 => if v12 then ((m42_r01_List b11 a0.Val).bind fun v20 => m13_r05_PutReq_k13 a0 v20) else (m13_r05_PutReq_k13 a0 b11)

def m13_r05_PutReq_k9 (a0 : GR05Req) (b9 : (List UInt8)) : Option ((List UInt8) × Int) :=
  (m41_r05_key a0.Kind).bind fun v10 => if v10 then ((m42_r01_List b9 a0.Key).bind fun v21 => m13_r05_PutReq_k11 a0 v21) else (m13_r05_PutReq_k11 a0 b9)

def m13_r05_PutReq_k7 (a0 : GR05Req) (b7 : (List UInt8)) : Option ((List UInt8) × Int) :=
  (m39_r05_flag a0.Kind).bind fun v8 => if v8 then ((m40_r05_bit a0.RO).bind fun v22 => (m36_r01_U b7 v22 1).bind fun v23 => m13_r05_PutReq_k9 a0 v23) else (m13_r05_PutReq_k9 a0 b7)

def m13_r05_PutReq_k5 (a0 : GR05Req) (b5 : (List UInt8)) : Option ((List UInt8) × Int) :=
  (m38_r05_attempt a0.Kind).bind fun v6 => if v6 then ((m36_r01_U b5 (BitVec.ofInt 64 a0.Attempt) 2).bind fun v24 => m13_r05_PutReq_k7 a0 v24) else (m13_r05_PutReq_k7 a0 b5)
def m13_r05_PutReq (a0 : GR05Req) : Option ((List UInt8) × Int) :=
  (m19_r05_SaneReq (GR05Req.mk a0.Kind a0.Seq a0.Token a0.Attempt a0.RO a0.Key a0.Val (GApiRange.mk a0.Rng.Lo a0.Rng.Hi a0.Rng.Open))).bind fun v1 => if (!v1) then (some (([] : List UInt8), 1)) else ((m36_r01_U ([] : List UInt8) (BitVec.ofInt 64 a0.Kind) 1).bind fun v2 => (m36_r01_U v2 (BitVec.ofInt 64 a0.Seq) 4).bind fun v3 => (m37_r05_token a0.Kind).bind fun v4 => if v4 then ((m36_r01_U v3 (BitVec.ofInt 64 a0.Token) 8).bind fun v25 => m13_r05_PutReq_k5 a0 v25) else (m13_r05_PutReq_k5 a0 v3))

set_option maxRecDepth 100000 in
theorem m13_r05_PutReq_c {a0 : GR05Req} {r : (List UInt8) × Int} (h : m13_r05_PutReq a0 = some r) : CallsA Tryd.prog 13 [.agg [.i .i64 a0.Kind, .i .i64 a0.Seq, .i .i64 a0.Token, .i .i64 a0.Attempt, .b a0.RO, .sl a0.Key.length (a0.Key.flatMap eU8), .sl a0.Val.length (a0.Val.flatMap eU8), .sl a0.Rng.Lo.length (a0.Rng.Lo.flatMap eU8), .sl a0.Rng.Hi.length (a0.Rng.Hi.flatMap eU8), .b a0.Rng.Open]] (· = .tup [.one (.sl r.1.length (r.1.flatMap eU8)), .one (.i .i64 r.2)]) := by
  unfold m13_r05_PutReq at h
  refine callsA_of Tryd.func13 rfl (nt := 75) rfl (Nat.le_of_ble_eq_true rfl) ?_
  intro w0 S0
  refine cseq ?_
  refine cregion ?_
  refine sbox rfl rfl ?_
  refine sv rfl (opv_as rfl) ?_
  refine sv rfl (opv_as rfl) ?_
  refine snil ?_
  refine cseq ?_
  refine cseq ?_
  refine cregion ?_
  refine sv rfl (opv_loadN ti26 rfl (.lp _ _ _ rfl) (Nat.le_of_ble_eq_true rfl)) ?_
  obtain ⟨v1, hv1, h⟩ := bind_eq h
  refine scall1 rfl fn19 (opnds_cons rfl opnds_nil) (pubA_id rfl) (m19_r05_SaneReq_c hv1) ?_
  refine sv rfl (opv_not rfl) ?_
  refine snil ?_
  refine ccond rfl (fun hc => ?_) (fun hc => ?_)
  · replace h := ite_t hc h
    clear hc
    refine cseq ?_
    refine cregion ?_
    refine sv rfl (opv_as rfl) ?_
    refine sv rfl (opv_as rfl) ?_
    refine snil ?_
    refine cret ?_
    refine then_ret ?_
    obtain rfl := Option.some.inj h
    refine ⟨Or.inr rfl, _, _, _, (resVs_cons (ResV.tmp _ _ rfl) (resVs_cons (ResV.tmp _ _ rfl) resVs_nil)), (pubC rfl), ?_⟩
    rfl
  · replace h := ite_f hc h
    clear hc
    refine cskip ?_
    refine then_normal ?_
    refine cseq ?_
    refine cregion ?_
    refine sv rfl (opv_fieldAddr_lp fi26_0 rfl) ?_
    refine sv rfl (opv_load1 ti3 rfl (.lp _ _ _ rfl) rfl) ?_
    refine sv rfl (opv_conv_ibv rfl Tryd.underlying3 Tryd.underlying69 rfl) ?_
    obtain ⟨v2, hv2, h⟩ := bind_eq h
    refine scall1 rfl fn36 (opnds_cons rfl (opnds_cons rfl (opnds_cons rfl opnds_nil))) (pubC rfl) (m36_r01_U_c hv2) ?_
    refine sv rfl (opv_as rfl) ?_
    refine snil ?_
    refine cseq ?_
    refine cregion ?_
    refine sv rfl (opv_mv rfl) ?_
    refine sv rfl (opv_fieldAddr_lp fi26_1 rfl) ?_
    refine sv rfl (opv_load1 ti3 rfl (.lp _ _ _ rfl) rfl) ?_
    refine sv rfl (opv_conv_ibv rfl Tryd.underlying3 Tryd.underlying69 rfl) ?_
    obtain ⟨v3, hv3, h⟩ := bind_eq h
    refine scall1 rfl fn36 (opnds_cons rfl (opnds_cons rfl (opnds_cons rfl opnds_nil))) (pubA_id rfl) (m36_r01_U_c hv3) ?_
    refine sv rfl (opv_as rfl) ?_
    refine snil ?_
    refine cseq ?_
    refine cseq ?_
    refine cregion ?_
    refine sv rfl (opv_fieldAddr_lp fi26_0 rfl) ?_
    refine sv rfl (opv_load1 ti3 rfl (.lp _ _ _ rfl) rfl) ?_
    obtain ⟨v4, hv4, h⟩ := bind_eq h
    refine scall1 rfl fn37 (opnds_cons rfl opnds_nil) (pubA_id rfl) (m37_r05_token_c hv4) ?_
    refine snil ?_
    refine cjoin ((List UInt8)) (fun b5 => [(1, .s (.one (.lp 0 0))), (4, .s (.one (.sl b5.length (b5.flatMap eU8))))]) (fun b5 => [.box [.i .i64 a0.Kind, .i .i64 a0.Seq, .i .i64 a0.Token, .i .i64 a0.Attempt, .b a0.RO, .sl a0.Key.length (a0.Key.flatMap eU8), .sl a0.Val.length (a0.Val.flatMap eU8), .sl a0.Rng.Lo.length (a0.Rng.Lo.flatMap eU8), .sl a0.Rng.Hi.length (a0.Rng.Hi.flatMap eU8), .b a0.Rng.Open]]) (fun b5 => m13_r05_PutReq_k5 a0 b5 = some r) (fun _ _ => inbL_of rfl) (fun _ _ => blkinb_of rfl) (fun _ _ => Nat.le_of_ble_eq_true rfl) (fun b5 h => ?_) ?_
    · unfold m13_r05_PutReq_k5 at h
      refine cseq ?_
      refine cseq ?_
      refine cregion ?_
      refine sv rfl (opv_fieldAddr_lp fi26_0 rfl) ?_
      refine sv rfl (opv_load1 ti3 rfl (.lp _ _ _ rfl) rfl) ?_
      obtain ⟨v6, hv6, h⟩ := bind_eq h
      refine scall1 rfl fn38 (opnds_cons rfl opnds_nil) (pubA_id rfl) (m38_r05_attempt_c hv6) ?_
      refine snil ?_
      refine cjoin ((List UInt8)) (fun b7 => [(1, .s (.one (.lp 0 0))), (4, .s (.one (.sl b7.length (b7.flatMap eU8))))]) (fun b7 => [.box [.i .i64 a0.Kind, .i .i64 a0.Seq, .i .i64 a0.Token, .i .i64 a0.Attempt, .b a0.RO, .sl a0.Key.length (a0.Key.flatMap eU8), .sl a0.Val.length (a0.Val.flatMap eU8), .sl a0.Rng.Lo.length (a0.Rng.Lo.flatMap eU8), .sl a0.Rng.Hi.length (a0.Rng.Hi.flatMap eU8), .b a0.Rng.Open]]) (fun b7 => m13_r05_PutReq_k7 a0 b7 = some r) (fun _ _ => inbL_of rfl) (fun _ _ => blkinb_of rfl) (fun _ _ => Nat.le_of_ble_eq_true rfl) (fun b7 h => ?_) ?_
      · unfold m13_r05_PutReq_k7 at h
        refine cseq ?_
        refine cseq ?_
        refine cregion ?_
        refine sv rfl (opv_fieldAddr_lp fi26_0 rfl) ?_
        refine sv rfl (opv_load1 ti3 rfl (.lp _ _ _ rfl) rfl) ?_
        obtain ⟨v8, hv8, h⟩ := bind_eq h
        refine scall1 rfl fn39 (opnds_cons rfl opnds_nil) (pubA_id rfl) (m39_r05_flag_c hv8) ?_
        refine snil ?_
        refine cjoin ((List UInt8)) (fun b9 => [(1, .s (.one (.lp 0 0))), (4, .s (.one (.sl b9.length (b9.flatMap eU8))))]) (fun b9 => [.box [.i .i64 a0.Kind, .i .i64 a0.Seq, .i .i64 a0.Token, .i .i64 a0.Attempt, .b a0.RO, .sl a0.Key.length (a0.Key.flatMap eU8), .sl a0.Val.length (a0.Val.flatMap eU8), .sl a0.Rng.Lo.length (a0.Rng.Lo.flatMap eU8), .sl a0.Rng.Hi.length (a0.Rng.Hi.flatMap eU8), .b a0.Rng.Open]]) (fun b9 => m13_r05_PutReq_k9 a0 b9 = some r) (fun _ _ => inbL_of rfl) (fun _ _ => blkinb_of rfl) (fun _ _ => Nat.le_of_ble_eq_true rfl) (fun b9 h => ?_) ?_
        · unfold m13_r05_PutReq_k9 at h
          refine cseq ?_
          refine cseq ?_
          refine cregion ?_
          refine sv rfl (opv_fieldAddr_lp fi26_0 rfl) ?_
          refine sv rfl (opv_load1 ti3 rfl (.lp _ _ _ rfl) rfl) ?_
          obtain ⟨v10, hv10, h⟩ := bind_eq h
          refine scall1 rfl fn41 (opnds_cons rfl opnds_nil) (pubA_id rfl) (m41_r05_key_c hv10) ?_
          refine snil ?_
          refine cjoin ((List UInt8)) (fun b11 => [(1, .s (.one (.lp 0 0))), (4, .s (.one (.sl b11.length (b11.flatMap eU8))))]) (fun b11 => [.box [.i .i64 a0.Kind, .i .i64 a0.Seq, .i .i64 a0.Token, .i .i64 a0.Attempt, .b a0.RO, .sl a0.Key.length (a0.Key.flatMap eU8), .sl a0.Val.length (a0.Val.flatMap eU8), .sl a0.Rng.Lo.length (a0.Rng.Lo.flatMap eU8), .sl a0.Rng.Hi.length (a0.Rng.Hi.flatMap eU8), .b a0.Rng.Open]]) (fun b11 => m13_r05_PutReq_k11 a0 b11 = some r) (fun _ _ => inbL_of rfl) (fun _ _ => blkinb_of rfl) (fun _ _ => Nat.le_of_ble_eq_true rfl) (fun b11 h => ?_) ?_
          · unfold m13_r05_PutReq_k11 at h
            refine cseq ?_
            refine cseq ?_
            refine cregion ?_
            refine sv rfl (opv_fieldAddr_lp fi26_0 rfl) ?_
            refine sv rfl (opv_load1 ti3 rfl (.lp _ _ _ rfl) rfl) ?_
            obtain ⟨v12, hv12, h⟩ := bind_eq h
            refine scall1 rfl fn43 (opnds_cons rfl opnds_nil) (pubA_id rfl) (m43_r05_val_c hv12) ?_
            refine snil ?_
            refine cjoin ((List UInt8)) (fun b13 => [(1, .s (.one (.lp 0 0))), (4, .s (.one (.sl b13.length (b13.flatMap eU8))))]) (fun b13 => [.box [.i .i64 a0.Kind, .i .i64 a0.Seq, .i .i64 a0.Token, .i .i64 a0.Attempt, .b a0.RO, .sl a0.Key.length (a0.Key.flatMap eU8), .sl a0.Val.length (a0.Val.flatMap eU8), .sl a0.Rng.Lo.length (a0.Rng.Lo.flatMap eU8), .sl a0.Rng.Hi.length (a0.Rng.Hi.flatMap eU8), .b a0.Rng.Open]]) (fun b13 => m13_r05_PutReq_k13 a0 b13 = some r) (fun _ _ => inbL_of rfl) (fun _ _ => blkinb_of rfl) (fun _ _ => Nat.le_of_ble_eq_true rfl) (fun b13 h => ?_) ?_
            · unfold m13_r05_PutReq_k13 at h
              refine cseq ?_
              refine cseq ?_
              refine cregion ?_
              refine sv rfl (opv_fieldAddr_lp fi26_0 rfl) ?_
              refine sv rfl (opv_load1 ti3 rfl (.lp _ _ _ rfl) rfl) ?_
              obtain ⟨v14, hv14, h⟩ := bind_eq h
              refine scall1 rfl fn44 (opnds_cons rfl opnds_nil) (pubA_id rfl) (m44_r05_rng_c hv14) ?_
              refine snil ?_
              refine cjoin ((List UInt8)) (fun b15 => [(4, .s (.one (.sl b15.length (b15.flatMap eU8))))]) (fun b15 => [.box [.i .i64 a0.Kind, .i .i64 a0.Seq, .i .i64 a0.Token, .i .i64 a0.Attempt, .b a0.RO, .sl a0.Key.length (a0.Key.flatMap eU8), .sl a0.Val.length (a0.Val.flatMap eU8), .sl a0.Rng.Lo.length (a0.Rng.Lo.flatMap eU8), .sl a0.Rng.Hi.length (a0.Rng.Hi.flatMap eU8), .b a0.Rng.Open]]) (fun b15 => m13_r05_PutReq_k15 b15 = some r) (fun _ _ => inbL_of rfl) (fun _ _ => blkinb_of rfl) (fun _ _ => Nat.le_of_ble_eq_true rfl) (fun b15 h => ?_) ?_
              · unfold m13_r05_PutReq_k15 at h
                refine cseq ?_
                refine cregion ?_
                refine sv rfl (opv_mv rfl) ?_
                refine sv rfl (opv_as rfl) ?_
                refine sv rfl (opv_as rfl) ?_
                refine snil ?_
                refine cret ?_
                obtain rfl := Option.some.inj h
                refine ⟨Or.inr rfl, _, _, _, (resVs_cons (ResV.tmp _ _ rfl) (resVs_cons (ResV.tmp _ _ rfl) resVs_nil)), (pubA_id rfl), ?_⟩
                rfl
              · skip
                refine ccond rfl (fun hc => ?_) (fun hc => ?_)
                · replace h := ite_t hc h
                  clear hc
                  refine cseq ?_
                  refine cregion ?_
                  refine sv rfl (opv_mv rfl) ?_
                  refine sv rfl (opv_fieldAddr_lp fi26_7 rfl) ?_
                  refine sv rfl (opv_fieldAddr_lp fi24_0 rfl) ?_
                  refine sv rfl (opv_load1 ti22 rfl (.lp _ _ _ rfl) rfl) ?_
                  obtain ⟨v16, hv16, h⟩ := bind_eq h
                  refine scall1 rfl fn42 (opnds_cons rfl (opnds_cons rfl opnds_nil)) (pubA_id rfl) (m42_r01_List_c hv16) ?_
                  refine sv rfl (opv_as rfl) ?_
                  refine snil ?_
                  refine cseq ?_
                  refine cregion ?_
                  refine sv rfl (opv_mv rfl) ?_
                  refine sv rfl (opv_fieldAddr_lp fi26_7 rfl) ?_
                  refine sv rfl (opv_fieldAddr_lp fi24_2 rfl) ?_
                  refine sv rfl (opv_load1 ti4 rfl (.lp _ _ _ rfl) rfl) ?_
                  obtain ⟨v17, hv17, h⟩ := bind_eq h
                  refine scall1 rfl fn40 (opnds_cons rfl opnds_nil) (pubA_id rfl) (m40_r05_bit_c hv17) ?_
                  obtain ⟨v18, hv18, h⟩ := bind_eq h
                  refine scall1 rfl fn36 (opnds_cons rfl (opnds_cons rfl (opnds_cons rfl opnds_nil))) (pubA_id rfl) (m36_r01_U_c hv18) ?_
                  refine sv rfl (opv_as rfl) ?_
                  refine snil ?_
                  refine cregion ?_
                  refine sv rfl (opv_mv rfl) ?_
                  refine sv rfl (opv_fieldAddr_lp fi26_7 rfl) ?_
                  refine sv rfl (opv_fieldAddr_lp fi24_1 rfl) ?_
                  refine sv rfl (opv_load1 ti22 rfl (.lp _ _ _ rfl) rfl) ?_
                  obtain ⟨v19, hv19, h⟩ := bind_eq h
                  refine scall1 rfl fn42 (opnds_cons rfl (opnds_cons rfl opnds_nil)) (pubA_id rfl) (m42_r01_List_c hv19) ?_
                  refine sv rfl (opv_as rfl) ?_
                  refine snil ?_
                  exact ⟨v19, _, h, ⟨rfl, trivial⟩, rfl⟩
                · replace h := ite_f hc h
                  clear hc
                  refine cskip ?_
                  refine then_normal ?_
                  exact ⟨b13, _, h, ⟨rfl, trivial⟩, rfl⟩
            · skip
              refine ccond rfl (fun hc => ?_) (fun hc => ?_)
              · replace h := ite_t hc h
                clear hc
                refine cregion ?_
                refine sv rfl (opv_mv rfl) ?_
                refine sv rfl (opv_fieldAddr_lp fi26_6 rfl) ?_
                refine sv rfl (opv_load1 ti22 rfl (.lp _ _ _ rfl) rfl) ?_
                obtain ⟨v20, hv20, h⟩ := bind_eq h
                refine scall1 rfl fn42 (opnds_cons rfl (opnds_cons rfl opnds_nil)) (pubA_id rfl) (m42_r01_List_c hv20) ?_
                refine sv rfl (opv_as rfl) ?_
                refine snil ?_
                exact ⟨v20, _, h, ⟨rfl, rfl, trivial⟩, rfl⟩
              · replace h := ite_f hc h
                clear hc
                refine cskip ?_
                refine then_normal ?_
                exact ⟨b11, _, h, ⟨rfl, rfl, trivial⟩, rfl⟩
          · skip
            refine ccond rfl (fun hc => ?_) (fun hc => ?_)
            · replace h := ite_t hc h
              clear hc
              refine cregion ?_
              refine sv rfl (opv_mv rfl) ?_
              refine sv rfl (opv_fieldAddr_lp fi26_5 rfl) ?_
              refine sv rfl (opv_load1 ti22 rfl (.lp _ _ _ rfl) rfl) ?_
              obtain ⟨v21, hv21, h⟩ := bind_eq h
              refine scall1 rfl fn42 (opnds_cons rfl (opnds_cons rfl opnds_nil)) (pubA_id rfl) (m42_r01_List_c hv21) ?_
              refine sv rfl (opv_as rfl) ?_
              refine snil ?_
              exact ⟨v21, _, h, ⟨rfl, rfl, trivial⟩, rfl⟩
            · replace h := ite_f hc h
              clear hc
              refine cskip ?_
              refine then_normal ?_
              exact ⟨b9, _, h, ⟨rfl, rfl, trivial⟩, rfl⟩
        · skip
          refine ccond rfl (fun hc => ?_) (fun hc => ?_)
          · replace h := ite_t hc h
            clear hc
            refine cregion ?_
            refine sv rfl (opv_mv rfl) ?_
            refine sv rfl (opv_fieldAddr_lp fi26_4 rfl) ?_
            refine sv rfl (opv_load1 ti4 rfl (.lp _ _ _ rfl) rfl) ?_
            obtain ⟨v22, hv22, h⟩ := bind_eq h
            refine scall1 rfl fn40 (opnds_cons rfl opnds_nil) (pubA_id rfl) (m40_r05_bit_c hv22) ?_
            obtain ⟨v23, hv23, h⟩ := bind_eq h
            refine scall1 rfl fn36 (opnds_cons rfl (opnds_cons rfl (opnds_cons rfl opnds_nil))) (pubA_id rfl) (m36_r01_U_c hv23) ?_
            refine sv rfl (opv_as rfl) ?_
            refine snil ?_
            exact ⟨v23, _, h, ⟨rfl, rfl, trivial⟩, rfl⟩
          · replace h := ite_f hc h
            clear hc
            refine cskip ?_
            refine then_normal ?_
            exact ⟨b7, _, h, ⟨rfl, rfl, trivial⟩, rfl⟩
      · skip
        refine ccond rfl (fun hc => ?_) (fun hc => ?_)
        · replace h := ite_t hc h
          clear hc
          refine cregion ?_
          refine sv rfl (opv_mv rfl) ?_
          refine sv rfl (opv_fieldAddr_lp fi26_3 rfl) ?_
          refine sv rfl (opv_load1 ti3 rfl (.lp _ _ _ rfl) rfl) ?_
          refine sv rfl (opv_conv_ibv rfl Tryd.underlying3 Tryd.underlying69 rfl) ?_
          obtain ⟨v24, hv24, h⟩ := bind_eq h
          refine scall1 rfl fn36 (opnds_cons rfl (opnds_cons rfl (opnds_cons rfl opnds_nil))) (pubA_id rfl) (m36_r01_U_c hv24) ?_
          refine sv rfl (opv_as rfl) ?_
          refine snil ?_
          exact ⟨v24, _, h, ⟨rfl, rfl, trivial⟩, rfl⟩
        · replace h := ite_f hc h
          clear hc
          refine cskip ?_
          refine then_normal ?_
          exact ⟨b5, _, h, ⟨rfl, rfl, trivial⟩, rfl⟩
    · skip
      refine ccond rfl (fun hc => ?_) (fun hc => ?_)
      · replace h := ite_t hc h
        clear hc
        refine cregion ?_
        refine sv rfl (opv_mv rfl) ?_
        refine sv rfl (opv_fieldAddr_lp fi26_2 rfl) ?_
        refine sv rfl (opv_load1 ti3 rfl (.lp _ _ _ rfl) rfl) ?_
        refine sv rfl (opv_conv_ibv rfl Tryd.underlying3 Tryd.underlying69 rfl) ?_
        obtain ⟨v25, hv25, h⟩ := bind_eq h
        refine scall1 rfl fn36 (opnds_cons rfl (opnds_cons rfl (opnds_cons rfl opnds_nil))) (pubA_id rfl) (m36_r01_U_c hv25) ?_
        refine sv rfl (opv_as rfl) ?_
        refine snil ?_
        exact ⟨v25, _, h, ⟨rfl, rfl, trivial⟩, rfl⟩
      · replace h := ite_f hc h
        clear hc
        refine cskip ?_
        refine then_normal ?_
        exact ⟨v3, _, h, ⟨rfl, rfl, trivial⟩, rfl⟩

def m51_r01_News (a0 : List UInt8) : Option ((List UInt8) × Int × Int) :=
  some (a0, 0, 0)

set_option maxRecDepth 100000 in
theorem m51_r01_News_c {a0 : List UInt8} {r : (List UInt8) × Int × Int} (h : m51_r01_News a0 = some r) : CallsB Tryd.prog 51 [] [.one (.sl a0.length (a0.flatMap eU8))] (fun y m' => y = .s (.one (.lp 0 0)) ∧ m' = [.box [.sl r.1.length (r.1.flatMap eU8), .i .i64 r.2.1, .i .i64 r.2.2]]) := by
  unfold m51_r01_News at h
  refine callsB_of Tryd.func51 rfl (nt := 6) rfl (Nat.le_of_ble_eq_true rfl) ?_
  intro w0 S0 X0 H0
  refine cseq ?_
  refine cregion ?_
  refine sv rfl (opv_as rfl) ?_
  refine snil ?_
  refine cseq ?_
  refine cregion ?_
  refine sv rfl (opv_mv rfl) ?_
  refine sv rfl (opv_build zi96 pi96 (parts_cons rfl parts_nil) (.cons _ _ _ _ _ _ _ rfl rfl (Nat.le_of_ble_eq_true rfl) (.nil _))) ?_
  refine sbox rfl rfl ?_
  refine sv rfl (opv_as rfl) ?_
  refine snil ?_
  refine cret ?_
  obtain rfl := Option.some.inj h
  exact ⟨Or.inr rfl, _, [0], [.one (.lp 0 0)], [.box [.sl a0.length (a0.flatMap eU8), .i .i64 0, .i .i64 0]], (resVs_cons (ResV.tmp _ _ rfl) resVs_nil), rfl, rfl, ⟨by decide, rfl⟩, rfl, rfl, ⟨rfl, rfl⟩⟩

def m53_r01_Reader_Fails (a0 : Int) (a1 : List UInt8) (a2 : Int) (a3 : Int) : Option Int :=
  if (decide (a3 = 0)) then (some a0) else (some a3)

set_option maxRecDepth 100000 in
theorem m53_r01_Reader_Fails_c {a0 : Int} {a1 : List UInt8} {a2 : Int} {a3 : Int} {r : Int} (h : m53_r01_Reader_Fails a0 a1 a2 a3 = some r) : CallsB Tryd.prog 53 [.box [.sl a1.length (a1.flatMap eU8), .i .i64 a2, .i .i64 a3]] [.one (.lp 0 0), .one (.i .i64 a0)] (fun y m' => y = .tup [] ∧ m' = [.box [.sl a1.length (a1.flatMap eU8), .i .i64 a2, .i .i64 r]]) := by
  unfold m53_r01_Reader_Fails at h
  refine callsB_of Tryd.func53 rfl (nt := 13) rfl (Nat.le_of_ble_eq_true rfl) ?_
  intro w0 S0 X0 H0
  refine cseq ?_
  refine cregion ?_
  refine sv rfl (opv_mv rfl) ?_
  refine sv rfl (opv_nilCheck rfl rfl (fun _ _ _ h => by cases h)) ?_
  refine sv rfl (opv_fieldAddr_lp fi96_2 rfl) ?_
  refine sv rfl (opv_load1 ti29 rfl (.lp _ _ _ rfl) rfl) ?_
  refine sv rfl (opv_ieql rfl rfl) ?_
  refine snil ?_
  refine ccond rfl (fun hc => ?_) (fun hc => ?_)
  · replace h := ite_t hc h
    clear hc
    refine cregion ?_
    refine sv rfl (opv_mv rfl) ?_
    refine sv rfl (opv_mv rfl) ?_
    refine sv rfl (opv_nilCheck rfl rfl (fun _ _ _ h => by cases h)) ?_
    refine sv rfl (opv_fieldAddr_lp fi96_2 rfl) ?_
    refine sstore sz29 rfl rfl rfl rfl (Nat.le_of_ble_eq_true rfl) ?_
    refine smem [.box [.sl a1.length (a1.flatMap eU8), .i .i64 a2, .i .i64 a0]] rfl ?_
    refine snil0 ?_
    obtain rfl := Option.some.inj h
    exact ⟨Or.inl rfl, _, [0], [], [.box [.sl a1.length (a1.flatMap eU8), .i .i64 a2, .i .i64 a0]], resVs_nil, rfl, rfl, ⟨by decide, rfl⟩, rfl, rfl, ⟨rfl, rfl⟩⟩
  · replace h := ite_f hc h
    clear hc
    refine cskip ?_
    obtain rfl := Option.some.inj h
    exact ⟨Or.inl rfl, _, [0], [], [.box [.sl a1.length (a1.flatMap eU8), .i .i64 a2, .i .i64 a3]], resVs_nil, rfl, rfl, ⟨by decide, rfl⟩, rfl, rfl, ⟨rfl, rfl⟩⟩

def m21_r05_FewReply_k2 (b2 : Unit) : Option Bool :=
  some true

def m21_r05_FewReply_s3 (a0 : GR05Reply) (s3 : Int) : Option (LR (Int) (Unit) (Bool)) :=
  if (decide (s3 < (a0.List.length : Int))) then ((idx a0.List s3).bind fun u4 => if (decide (100 < (u4.Key.length : Int))) then (some (.ret false)) else ((idx a0.List s3).bind fun u5 => if (decide (100 < (u5.Val.length : Int))) then (some (.ret false)) else (some (.cont (wI (s3 + 1)))))) else (some (.brk ()))

def m21_r05_FewReply_k1 (a0 : GR05Reply) (b1 : Unit) : Option Bool :=
  (iter (m21_r05_FewReply_s3 a0) fuel 0).bind fun x => match x with | .inl r => some r | .inr e6 => m21_r05_FewReply_k2 e6
def m21_r05_FewReply (a0 : GR05Reply) : Option Bool :=
  if (decide (100 < (a0.Val.length : Int))) then (some false) else (if (decide (20 < (a0.List.length : Int))) then (some false) else (m21_r05_FewReply_k1 a0 ()))

set_option maxRecDepth 100000 in
theorem m21_r05_FewReply_c {a0 : GR05Reply} {r : Bool} (h : m21_r05_FewReply a0 = some r) : CallsA Tryd.prog 21 [.agg [.i .i64 a0.Kind, .i .i64 a0.Seq, .i .i64 a0.Code, .i .i64 a0.N, .b a0.Found, .sl a0.Val.length (a0.Val.flatMap eU8), .sl a0.List.length (a0.List.flatMap eGApiKV)]] (· = .s (.one (.b r))) := by
  unfold m21_r05_FewReply at h
  refine callsA_of Tryd.func21 rfl (nt := 39) rfl (Nat.le_of_ble_eq_true rfl) ?_
  intro w0 S0
  refine cseq ?_
  refine cregion ?_
  refine sbox rfl rfl ?_
  refine sv rfl (opv_as rfl) ?_
  refine snil ?_
  refine cseq ?_
  refine cseq ?_
  refine cjoin3 (Unit) (fun b1 => [(1, .s (.one (.lp 0 0)))]) (fun b1 => [.box [.i .i64 a0.Kind, .i .i64 a0.Seq, .i .i64 a0.Code, .i .i64 a0.N, .b a0.Found, .sl a0.Val.length (a0.Val.flatMap eU8), .sl a0.List.length (a0.List.flatMap eGApiKV)]]) (fun b1 => m21_r05_FewReply_k1 a0 b1 = some r) (fun _ _ => inbL_of rfl) (fun _ _ => blkinb_of rfl) (fun _ _ => Nat.le_of_ble_eq_true rfl) (fun b1 h => ?_) ?_
  · unfold m21_r05_FewReply_k1 at h
    refine cseq ?_
    refine cseq ?_
    refine cregion ?_
    refine sv rfl (opv_as rfl) ?_
    refine snil ?_
    refine cjoin (Unit) (fun b2 => []) (fun b2 => [.box [.i .i64 a0.Kind, .i .i64 a0.Seq, .i .i64 a0.Code, .i .i64 a0.N, .b a0.Found, .sl a0.Val.length (a0.Val.flatMap eU8), .sl a0.List.length (a0.List.flatMap eGApiKV)]]) (fun b2 => m21_r05_FewReply_k2 b2 = some r) (fun _ _ => inbL_of rfl) (fun _ _ => blkinb_of rfl) (fun _ _ => Nat.le_of_ble_eq_true rfl) (fun b2 h => ?_) ?_
    · unfold m21_r05_FewReply_k2 at h
      refine cseq ?_
      refine cregion ?_
      refine sv rfl (opv_as rfl) ?_
      refine snil ?_
      refine cret ?_
      obtain rfl := Option.some.inj h
      refine ⟨Or.inr rfl, _, _, _, (resVs_cons (ResV.tmp _ _ rfl) resVs_nil), (pubA_id rfl), ?_⟩
      rfl
    · skip
      refine cblock ?_
      obtain ⟨x3, hx3, ho3⟩ := bind_eq h
      refine awc_loop (G := Nat × (Int)) (fun g => [(1, .s (.one (.lp 0 0))), (3, .s (.one (.i .i64 g.2)))]) (fun g => [.box [.i .i64 a0.Kind, .i .i64 a0.Seq, .i .i64 a0.Code, .i .i64 a0.N, .b a0.Found, .sl a0.Val.length (a0.Val.flatMap eU8), .sl a0.List.length (a0.List.flatMap eGApiKV)]]) (fun g => iter (m21_r05_FewReply_s3 a0) g.1 g.2 = some x3) (fun g => g.1) (fuel, 0) hx3 ⟨rfl, rfl, trivial⟩ [] rfl (fun _ _ => inbL_of rfl) (fun _ _ => blkinb_of rfl) (fun _ _ => Nat.le_of_ble_eq_true rfl) ?_
      clear hx3 h
      rintro ⟨n3, s3⟩ h
      obtain ⟨n3, y3, rfl, h, hk3⟩ := iter_eq h
      unfold m21_r05_FewReply_s3 at h
      refine cseq ?_
      refine cseq ?_
      refine cregion ?_
      refine sv rfl (opv_mv rfl) ?_
      refine sv rfl (opv_fieldAddr_lp fi46_6 rfl) ?_
      refine sv rfl (opv_load1 ti44 rfl (.lp _ _ _ rfl) rfl) ?_
      refine sv rfl (opv_len_sl si44 rfl) ?_
      refine sv rfl (opv_lss rfl rfl) ?_
      refine snil ?_
      refine ccond rfl (fun hc => ?_) (fun hc => ?_)
      · replace h := ite_t hc h
        clear hc
        refine cskip ?_
        refine then_normal ?_
        refine cseq ?_
        refine cblock ?_
        refine cseq ?_
        refine cregion ?_
        refine sv rfl (opv_fieldAddr_lp fi46_6 rfl) ?_
        refine sv rfl (opv_load1 ti44 rfl (.lp _ _ _ rfl) rfl) ?_
        refine sv rfl (opv_mv rfl) ?_
        obtain ⟨u4, hu4, h⟩ := bind_eq h
        refine sv rfl (opv_ix (f := eGApiKV) si44 (fun _ => rfl) rfl rfl rfl rfl hu4) ?_
        refine sv rfl (opv_fieldAddr_cp fi93_0 rfl) ?_
        refine sv rfl (opv_load1 ti22 rfl (.cp _) rfl) ?_
        refine sv rfl (opv_len_sl si22 rfl) ?_
        refine sv rfl (opv_gtr rfl rfl) ?_
        refine sv rfl (opv_mv rfl) ?_
        refine ssplit 29 rfl (fun hc => ?_) (fun hc => ?_)
        · replace h := ite_t hc h
          clear hc
          refine soff rfl rfl rfl rfl ?_
          refine soff rfl rfl rfl rfl ?_
          refine soff rfl rfl rfl rfl ?_
          refine soff rfl rfl rfl rfl ?_
          refine soff rfl rfl rfl rfl ?_
          refine soff rfl rfl rfl rfl ?_
          refine soff rfl rfl rfl rfl ?_
          refine soff rfl rfl rfl rfl ?_
          refine sv rfl (opv_pick_t rfl rfl) ?_
          refine snil ?_
          refine ccond rfl (fun _ => ?_) (fun hx => Bool.noConfusion hx)
          refine cseq ?_
          refine cregion ?_
          refine sv rfl (opv_as rfl) ?_
          refine snil ?_
          refine cret ?_
          refine block_ret ?_
          refine then_ret ?_
          refine then_ret ?_
          refine block_ret ?_
          refine then_ret ?_
          obtain rfl := Option.some.inj h
          obtain rfl : Sum.inl _ = x3 := hk3
          replace ho3 : some _ = some _ := ho3
          obtain rfl := Option.some.inj ho3
          refine ⟨Or.inr rfl, _, _, _, (resVs_cons (ResV.tmp _ _ rfl) resVs_nil), (pubA_id rfl), ?_⟩
          rfl
        · replace h := ite_f hc h
          clear hc
          refine son rfl rfl rfl ?_
          refine sv rfl (opv_fieldAddr_lp fi46_6 rfl) ?_
          refine son rfl rfl rfl ?_
          refine sv rfl (opv_load1 ti44 rfl (.lp _ _ _ rfl) rfl) ?_
          refine son rfl rfl rfl ?_
          refine sv rfl (opv_mv rfl) ?_
          refine son rfl rfl rfl ?_
          obtain ⟨u5, hu5, h⟩ := bind_eq h
          refine sv rfl (opv_ix (f := eGApiKV) si44 (fun _ => rfl) rfl rfl rfl rfl hu5) ?_
          refine son rfl rfl rfl ?_
          refine sv rfl (opv_fieldAddr_cp fi93_1 rfl) ?_
          refine son rfl rfl rfl ?_
          refine sv rfl (opv_load1 ti22 rfl (.cp _) rfl) ?_
          refine son rfl rfl rfl ?_
          refine sv rfl (opv_len_sl si22 rfl) ?_
          refine son rfl rfl rfl ?_
          refine sv rfl (opv_gtr rfl rfl) ?_
          refine sv rfl (opv_pick_f rfl rfl) ?_
          refine snil ?_
          refine ccond rfl (fun hc => ?_) (fun hc => ?_)
          · replace h := ite_t hc h
            clear hc
            refine cseq ?_
            refine cregion ?_
            refine sv rfl (opv_as rfl) ?_
            refine snil ?_
            refine cret ?_
            refine block_ret ?_
            refine then_ret ?_
            refine then_ret ?_
            refine block_ret ?_
            refine then_ret ?_
            obtain rfl := Option.some.inj h
            obtain rfl : Sum.inl _ = x3 := hk3
            replace ho3 : some _ = some _ := ho3
            obtain rfl := Option.some.inj ho3
            refine ⟨Or.inr rfl, _, _, _, (resVs_cons (ResV.tmp _ _ rfl) resVs_nil), (pubA_id rfl), ?_⟩
            rfl
          · replace h := ite_f hc h
            clear hc
            refine cskip ?_
            refine block_normal ?_
            refine then_normal ?_
            refine cregion ?_
            refine sv rfl (opv_mv rfl) ?_
            refine sv rfl (opv_add rfl rfl) ?_
            refine sv rfl (opv_as rfl) ?_
            refine snil ?_
            obtain rfl := Option.some.inj h
            exact ⟨(n3, (wI (s3 + 1))), _, hk3, ⟨rfl, rfl, trivial⟩, rfl, Nat.lt_succ_self _⟩
      · replace h := ite_f hc h
        clear hc
        refine cexit ?_
        refine then_exit ?_
        refine then_exit ?_
        refine block_hit ?_
        refine then_normal ?_
        obtain rfl := Option.some.inj h
        obtain rfl : _ = x3 := hk3
        exact ⟨(), _, ho3, trivial, rfl⟩
  · skip
    refine cregion ?_
    refine sv rfl (opv_fieldAddr_lp fi46_5 rfl) ?_
    refine sv rfl (opv_load1 ti22 rfl (.lp _ _ _ rfl) rfl) ?_
    refine sv rfl (opv_len_sl si22 rfl) ?_
    refine sv rfl (opv_gtr rfl rfl) ?_
    refine sv rfl (opv_mv rfl) ?_
    refine ssplit 8 rfl (fun hc => ?_) (fun hc => ?_)
    · replace h := ite_t hc h
      clear hc
      refine soff rfl rfl rfl rfl ?_
      refine soff rfl rfl rfl rfl ?_
      refine soff rfl rfl rfl rfl ?_
      refine soff rfl rfl rfl rfl ?_
      refine sv rfl (opv_pick_t rfl rfl) ?_
      refine snil ?_
      refine ccond rfl (fun _ => ?_) (fun hx => Bool.noConfusion hx)
      refine cseq ?_
      refine cregion ?_
      refine sv rfl (opv_as rfl) ?_
      refine snil ?_
      refine cret ?_
      refine then_ret ?_
      obtain rfl := Option.some.inj h
      refine ⟨Or.inr rfl, _, _, _, (resVs_cons (ResV.tmp _ _ rfl) resVs_nil), (pubA_id rfl), ?_⟩
      rfl
    · replace h := ite_f hc h
      clear hc
      refine son rfl rfl rfl ?_
      refine sv rfl (opv_fieldAddr_lp fi46_6 rfl) ?_
      refine son rfl rfl rfl ?_
      refine sv rfl (opv_load1 ti44 rfl (.lp _ _ _ rfl) rfl) ?_
      refine son rfl rfl rfl ?_
      refine sv rfl (opv_len_sl si44 rfl) ?_
      refine son rfl rfl rfl ?_
      refine sv rfl (opv_gtr rfl rfl) ?_
      refine sv rfl (opv_pick_f rfl rfl) ?_
      refine snil ?_
      refine ccond rfl (fun hc => ?_) (fun hc => ?_)
      · replace h := ite_t hc h
        clear hc
        refine cseq ?_
        refine cregion ?_
        refine sv rfl (opv_as rfl) ?_
        refine snil ?_
        refine cret ?_
        refine then_ret ?_
        obtain rfl := Option.some.inj h
        refine ⟨Or.inr rfl, _, _, _, (resVs_cons (ResV.tmp _ _ rfl) resVs_nil), (pubA_id rfl), ?_⟩
        rfl
      · replace h := ite_f hc h
        clear hc
        refine cskip ?_
        refine then_normal ?_
        exact ⟨(), _, h, ⟨rfl, trivial⟩, rfl⟩

def m23_l05_reply (a0 : GR05Reply) : Option GMsgReply :=
  some (GMsgReply.mk a0.Kind a0.Seq a0.Code a0.N a0.Found a0.Val a0.List)

set_option maxRecDepth 100000 in
theorem m23_l05_reply_c {a0 : GR05Reply} {r : GMsgReply} (h : m23_l05_reply a0 = some r) : CallsA Tryd.prog 23 [.agg [.i .i64 a0.Kind, .i .i64 a0.Seq, .i .i64 a0.Code, .i .i64 a0.N, .b a0.Found, .sl a0.Val.length (a0.Val.flatMap eU8), .sl a0.List.length (a0.List.flatMap eGApiKV)]] (· = .s (.agg [.i .i64 r.Kind, .i .i64 r.Seq, .i .i64 r.Code, .i .i64 r.N, .b r.Found, .sl r.Val.length (r.Val.flatMap eU8), .sl r.List.length (r.List.flatMap eGApiKV)])) := by
  unfold m23_l05_reply at h
  refine callsA_of Tryd.func23 rfl (nt := 18) rfl (Nat.le_of_ble_eq_true rfl) ?_
  intro w0 S0
  refine cseq ?_
  refine cregion ?_
  refine sbox rfl rfl ?_
  refine salloc rfl zi49 ?_
  refine snil ?_
  refine cseq ?_
  refine cregion ?_
  refine sv rfl (opv_fieldAddr_lp fi46_0 rfl) ?_
  refine sv rfl (opv_load1 ti3 rfl (.lp _ _ _ rfl) rfl) ?_
  refine sv rfl (opv_fieldAddr_lp fi46_1 rfl) ?_
  refine sv rfl (opv_load1 ti3 rfl (.lp _ _ _ rfl) rfl) ?_
  refine sv rfl (opv_fieldAddr_lp fi46_2 rfl) ?_
  refine sv rfl (opv_load1 ti29 rfl (.lp _ _ _ rfl) rfl) ?_
  refine sv rfl (opv_fieldAddr_lp fi46_3 rfl) ?_
  refine sv rfl (opv_load1 ti3 rfl (.lp _ _ _ rfl) rfl) ?_
  refine sv rfl (opv_fieldAddr_lp fi46_4 rfl) ?_
  refine sv rfl (opv_load1 ti4 rfl (.lp _ _ _ rfl) rfl) ?_
  refine sv rfl (opv_fieldAddr_lp fi46_5 rfl) ?_
  refine sv rfl (opv_load1 ti22 rfl (.lp _ _ _ rfl) rfl) ?_
  refine sv rfl (opv_fieldAddr_lp fi46_6 rfl) ?_
  refine sv rfl (opv_load1 ti44 rfl (.lp _ _ _ rfl) rfl) ?_
  refine sv rfl (opv_build zi49 pi49 (parts_cons rfl (parts_cons rfl (parts_cons rfl (parts_cons rfl (parts_cons rfl (parts_cons rfl (parts_cons rfl parts_nil))))))) (bcons [.i .i64 a0.Kind, .i .i64 0, .i .i64 0, .i .i64 0, .b false, .raw (.slice none 0 0), .raw (.slice none 0 0)] rfl rfl (Nat.le_of_ble_eq_true rfl) rfl (bcons [.i .i64 a0.Kind, .i .i64 a0.Seq, .i .i64 0, .i .i64 0, .b false, .raw (.slice none 0 0), .raw (.slice none 0 0)] rfl rfl (Nat.le_of_ble_eq_true rfl) rfl (bcons [.i .i64 a0.Kind, .i .i64 a0.Seq, .i .i64 a0.Code, .i .i64 0, .b false, .raw (.slice none 0 0), .raw (.slice none 0 0)] rfl rfl (Nat.le_of_ble_eq_true rfl) rfl (bcons [.i .i64 a0.Kind, .i .i64 a0.Seq, .i .i64 a0.Code, .i .i64 a0.N, .b false, .raw (.slice none 0 0), .raw (.slice none 0 0)] rfl rfl (Nat.le_of_ble_eq_true rfl) rfl (bcons [.i .i64 a0.Kind, .i .i64 a0.Seq, .i .i64 a0.Code, .i .i64 a0.N, .b a0.Found, .raw (.slice none 0 0), .raw (.slice none 0 0)] rfl rfl (Nat.le_of_ble_eq_true rfl) rfl (bcons [.i .i64 a0.Kind, .i .i64 a0.Seq, .i .i64 a0.Code, .i .i64 a0.N, .b a0.Found, .sl a0.Val.length (a0.Val.flatMap eU8), .raw (.slice none 0 0)] rfl rfl (Nat.le_of_ble_eq_true rfl) rfl (bcons [.i .i64 a0.Kind, .i .i64 a0.Seq, .i .i64 a0.Code, .i .i64 a0.N, .b a0.Found, .sl a0.Val.length (a0.Val.flatMap eU8), .sl a0.List.length (a0.List.flatMap eGApiKV)] rfl rfl (Nat.le_of_ble_eq_true rfl) rfl (.nil _))))))))) ?_
  refine sstore sz49 rfl rfl rfl rfl (Nat.le_of_ble_eq_true rfl) ?_
  refine smem [.box [.i .i64 a0.Kind, .i .i64 a0.Seq, .i .i64 a0.Code, .i .i64 a0.N, .b a0.Found, .sl a0.Val.length (a0.Val.flatMap eU8), .sl a0.List.length (a0.List.flatMap eGApiKV)], .box [.i .i64 a0.Kind, .i .i64 a0.Seq, .i .i64 a0.Code, .i .i64 a0.N, .b a0.Found, .sl a0.Val.length (a0.Val.flatMap eU8), .sl a0.List.length (a0.List.flatMap eGApiKV)]] rfl ?_
  refine snil ?_
  refine cret ?_
  obtain rfl := Option.some.inj h
  refine ⟨Or.inr rfl, _, _, _, (resVs_cons (ResV.agg _ _ _ _ _ ti49 rfl (.lp _ _ _ rfl) (Nat.le_of_ble_eq_true rfl)) resVs_nil), (pubA_id rfl), ?_⟩
  rfl

def m30_r05_SaneReply_k2 (b2 : Unit) : Option Bool :=
  some true

def m30_r05_SaneReply_s3 (a0 : GR05Reply) (s3 : Int) : Option (LR (Int) (Unit) (Bool)) :=
  if (decide (s3 < (a0.List.length : Int))) then ((idx a0.List s3).bind fun u4 => if (decide ((u4.Key.length : Int) < 1)) then (some (.ret false)) else ((idx a0.List s3).bind fun u5 => if (decide (16 < (u5.Key.length : Int))) then (some (.ret false)) else ((idx a0.List s3).bind fun u6 => if (decide (32 < (u6.Val.length : Int))) then (some (.ret false)) else (some (.cont (wI (s3 + 1))))))) else (some (.brk ()))

def m30_r05_SaneReply_k1 (a0 : GR05Reply) (b1 : Unit) : Option Bool :=
  (iter (m30_r05_SaneReply_s3 a0) fuel 0).bind fun x => match x with | .inl r => some r | .inr e7 => m30_r05_SaneReply_k2 e7
def m30_r05_SaneReply (a0 : GR05Reply) : Option Bool :=
  if (decide (a0.Kind < 0)) then (some false) else (if (decide (11 < a0.Kind)) then (some false) else (if (decide (a0.Seq < 0)) then (some false) else (if (decide (4294967295 < a0.Seq)) then (some false) else (if (decide (a0.Code < 0)) then (some false) else (if (decide (255 < a0.Code)) then (some false) else (if (decide (a0.N < 0)) then (some false) else (if (decide (1099511627776 < a0.N)) then (some false) else (if (decide (32 < (a0.Val.length : Int))) then (some false) else (if (!a0.Found) then (if (decide (0 < (a0.Val.length : Int))) then (some false) else (if (decide (8 < (a0.List.length : Int))) then (some false) else (m30_r05_SaneReply_k1 a0 ()))) else (if (decide (8 < (a0.List.length : Int))) then (some false) else (m30_r05_SaneReply_k1 a0 ())))))))))))

set_option maxRecDepth 100000 in
theorem m30_r05_SaneReply_c {a0 : GR05Reply} {r : Bool} (h : m30_r05_SaneReply a0 = some r) : CallsA Tryd.prog 30 [.agg [.i .i64 a0.Kind, .i .i64 a0.Seq, .i .i64 a0.Code, .i .i64 a0.N, .b a0.Found, .sl a0.Val.length (a0.Val.flatMap eU8), .sl a0.List.length (a0.List.flatMap eGApiKV)]] (· = .s (.one (.b r))) := by
  unfold m30_r05_SaneReply at h
  refine callsA_of Tryd.func30 rfl (nt := 100) rfl (Nat.le_of_ble_eq_true rfl) ?_
  intro w0 S0
  refine cseq ?_
  refine cregion ?_
  refine sbox rfl rfl ?_
  refine sv rfl (opv_as rfl) ?_
  refine snil ?_
  refine cseq ?_
  refine cseq ?_
  refine cjoin3 (Unit) (fun b1 => [(1, .s (.one (.lp 0 0)))]) (fun b1 => [.box [.i .i64 a0.Kind, .i .i64 a0.Seq, .i .i64 a0.Code, .i .i64 a0.N, .b a0.Found, .sl a0.Val.length (a0.Val.flatMap eU8), .sl a0.List.length (a0.List.flatMap eGApiKV)]]) (fun b1 => m30_r05_SaneReply_k1 a0 b1 = some r) (fun _ _ => inbL_of rfl) (fun _ _ => blkinb_of rfl) (fun _ _ => Nat.le_of_ble_eq_true rfl) (fun b1 h => ?_) ?_
  · unfold m30_r05_SaneReply_k1 at h
    refine cseq ?_
    refine cseq ?_
    refine cregion ?_
    refine sv rfl (opv_as rfl) ?_
    refine snil ?_
    refine cjoin (Unit) (fun b2 => []) (fun b2 => [.box [.i .i64 a0.Kind, .i .i64 a0.Seq, .i .i64 a0.Code, .i .i64 a0.N, .b a0.Found, .sl a0.Val.length (a0.Val.flatMap eU8), .sl a0.List.length (a0.List.flatMap eGApiKV)]]) (fun b2 => m30_r05_SaneReply_k2 b2 = some r) (fun _ _ => inbL_of rfl) (fun _ _ => blkinb_of rfl) (fun _ _ => Nat.le_of_ble_eq_true rfl) (fun b2 h => ?_) ?_
    · unfold m30_r05_SaneReply_k2 at h
      refine cseq ?_
      refine cregion ?_
      refine sv rfl (opv_as rfl) ?_
      refine snil ?_
      refine cret ?_
      obtain rfl := Option.some.inj h
      refine ⟨Or.inr rfl, _, _, _, (resVs_cons (ResV.tmp _ _ rfl) resVs_nil), (pubA_id rfl), ?_⟩
      rfl
    · skip
      refine cblock ?_
      obtain ⟨x3, hx3, ho3⟩ := bind_eq h
      refine awc_loop (G := Nat × (Int)) (fun g => [(1, .s (.one (.lp 0 0))), (3, .s (.one (.i .i64 g.2)))]) (fun g => [.box [.i .i64 a0.Kind, .i .i64 a0.Seq, .i .i64 a0.Code, .i .i64 a0.N, .b a0.Found, .sl a0.Val.length (a0.Val.flatMap eU8), .sl a0.List.length (a0.List.flatMap eGApiKV)]]) (fun g => iter (m30_r05_SaneReply_s3 a0) g.1 g.2 = some x3) (fun g => g.1) (fuel, 0) hx3 ⟨rfl, rfl, trivial⟩ [] rfl (fun _ _ => inbL_of rfl) (fun _ _ => blkinb_of rfl) (fun _ _ => Nat.le_of_ble_eq_true rfl) ?_
      clear hx3 h
      rintro ⟨n3, s3⟩ h
      obtain ⟨n3, y3, rfl, h, hk3⟩ := iter_eq h
      unfold m30_r05_SaneReply_s3 at h
      refine cseq ?_
      refine cseq ?_
      refine cregion ?_
      refine sv rfl (opv_mv rfl) ?_
      refine sv rfl (opv_fieldAddr_lp fi46_6 rfl) ?_
      refine sv rfl (opv_load1 ti44 rfl (.lp _ _ _ rfl) rfl) ?_
      refine sv rfl (opv_len_sl si44 rfl) ?_
      refine sv rfl (opv_lss rfl rfl) ?_
      refine snil ?_
      refine ccond rfl (fun hc => ?_) (fun hc => ?_)
      · replace h := ite_t hc h
        clear hc
        refine cskip ?_
        refine then_normal ?_
        refine cseq ?_
        refine cblock ?_
        refine cseq ?_
        refine cregion ?_
        refine sv rfl (opv_fieldAddr_lp fi46_6 rfl) ?_
        refine sv rfl (opv_load1 ti44 rfl (.lp _ _ _ rfl) rfl) ?_
        refine sv rfl (opv_mv rfl) ?_
        obtain ⟨u4, hu4, h⟩ := bind_eq h
        refine sv rfl (opv_ix (f := eGApiKV) si44 (fun _ => rfl) rfl rfl rfl rfl hu4) ?_
        refine sv rfl (opv_fieldAddr_cp fi93_0 rfl) ?_
        refine sv rfl (opv_load1 ti22 rfl (.cp _) rfl) ?_
        refine sv rfl (opv_len_sl si22 rfl) ?_
        refine sv rfl (opv_lss rfl rfl) ?_
        refine sv rfl (opv_mv rfl) ?_
        refine ssplit 80 rfl (fun hc => ?_) (fun hc => ?_)
        · replace h := ite_t hc h
          clear hc
          refine soff rfl rfl rfl rfl ?_
          refine soff rfl rfl rfl rfl ?_
          refine soff rfl rfl rfl rfl ?_
          refine soff rfl rfl rfl rfl ?_
          refine soff rfl rfl rfl rfl ?_
          refine soff rfl rfl rfl rfl ?_
          refine soff rfl rfl rfl rfl ?_
          refine soff rfl rfl rfl rfl ?_
          refine sv rfl (opv_pick_t rfl rfl) ?_
          refine sv rfl (opv_mv rfl) ?_
          refine soff rfl rfl rfl rfl ?_
          refine soff rfl rfl rfl rfl ?_
          refine soff rfl rfl rfl rfl ?_
          refine soff rfl rfl rfl rfl ?_
          refine soff rfl rfl rfl rfl ?_
          refine soff rfl rfl rfl rfl ?_
          refine soff rfl rfl rfl rfl ?_
          refine soff rfl rfl rfl rfl ?_
          refine sv rfl (opv_pick_t rfl rfl) ?_
          refine snil ?_
          refine ccond rfl (fun _ => ?_) (fun hx => Bool.noConfusion hx)
          refine cseq ?_
          refine cregion ?_
          refine sv rfl (opv_as rfl) ?_
          refine snil ?_
          refine cret ?_
          refine block_ret ?_
          refine then_ret ?_
          refine then_ret ?_
          refine block_ret ?_
          refine then_ret ?_
          obtain rfl := Option.some.inj h
          obtain rfl : Sum.inl _ = x3 := hk3
          replace ho3 : some _ = some _ := ho3
          obtain rfl := Option.some.inj ho3
          refine ⟨Or.inr rfl, _, _, _, (resVs_cons (ResV.tmp _ _ rfl) resVs_nil), (pubA_id rfl), ?_⟩
          rfl
        · replace h := ite_f hc h
          clear hc
          refine son rfl rfl rfl ?_
          refine sv rfl (opv_fieldAddr_lp fi46_6 rfl) ?_
          refine son rfl rfl rfl ?_
          refine sv rfl (opv_load1 ti44 rfl (.lp _ _ _ rfl) rfl) ?_
          refine son rfl rfl rfl ?_
          refine sv rfl (opv_mv rfl) ?_
          refine son rfl rfl rfl ?_
          obtain ⟨u5, hu5, h⟩ := bind_eq h
          refine sv rfl (opv_ix (f := eGApiKV) si44 (fun _ => rfl) rfl rfl rfl rfl hu5) ?_
          refine son rfl rfl rfl ?_
          refine sv rfl (opv_fieldAddr_cp fi93_0 rfl) ?_
          refine son rfl rfl rfl ?_
          refine sv rfl (opv_load1 ti22 rfl (.cp _) rfl) ?_
          refine son rfl rfl rfl ?_
          refine sv rfl (opv_len_sl si22 rfl) ?_
          refine son rfl rfl rfl ?_
          refine sv rfl (opv_gtr rfl rfl) ?_
          refine sv rfl (opv_pick_f rfl rfl) ?_
          refine sv rfl (opv_mv rfl) ?_
          refine ssplit 90 rfl (fun hc => ?_) (fun hc => ?_)
          · replace h := ite_t hc h
            clear hc
            refine soff rfl rfl rfl rfl ?_
            refine soff rfl rfl rfl rfl ?_
            refine soff rfl rfl rfl rfl ?_
            refine soff rfl rfl rfl rfl ?_
            refine soff rfl rfl rfl rfl ?_
            refine soff rfl rfl rfl rfl ?_
            refine soff rfl rfl rfl rfl ?_
            refine soff rfl rfl rfl rfl ?_
            refine sv rfl (opv_pick_t rfl rfl) ?_
            refine snil ?_
            refine ccond rfl (fun _ => ?_) (fun hx => Bool.noConfusion hx)
            refine cseq ?_
            refine cregion ?_
            refine sv rfl (opv_as rfl) ?_
            refine snil ?_
            refine cret ?_
            refine block_ret ?_
            refine then_ret ?_
            refine then_ret ?_
            refine block_ret ?_
            refine then_ret ?_
            obtain rfl := Option.some.inj h
            obtain rfl : Sum.inl _ = x3 := hk3
            replace ho3 : some _ = some _ := ho3
            obtain rfl := Option.some.inj ho3
            refine ⟨Or.inr rfl, _, _, _, (resVs_cons (ResV.tmp _ _ rfl) resVs_nil), (pubA_id rfl), ?_⟩
            rfl
          · replace h := ite_f hc h
            clear hc
            refine son rfl rfl rfl ?_
            refine sv rfl (opv_fieldAddr_lp fi46_6 rfl) ?_
            refine son rfl rfl rfl ?_
            refine sv rfl (opv_load1 ti44 rfl (.lp _ _ _ rfl) rfl) ?_
            refine son rfl rfl rfl ?_
            refine sv rfl (opv_mv rfl) ?_
            refine son rfl rfl rfl ?_
            obtain ⟨u6, hu6, h⟩ := bind_eq h
            refine sv rfl (opv_ix (f := eGApiKV) si44 (fun _ => rfl) rfl rfl rfl rfl hu6) ?_
            refine son rfl rfl rfl ?_
            refine sv rfl (opv_fieldAddr_cp fi93_1 rfl) ?_
            refine son rfl rfl rfl ?_
            refine sv rfl (opv_load1 ti22 rfl (.cp _) rfl) ?_
            refine son rfl rfl rfl ?_
            refine sv rfl (opv_len_sl si22 rfl) ?_
            refine son rfl rfl rfl ?_
            refine sv rfl (opv_gtr rfl rfl) ?_
            refine sv rfl (opv_pick_f rfl rfl) ?_
            refine snil ?_
            refine ccond rfl (fun hc => ?_) (fun hc => ?_)
            · replace h := ite_t hc h
              clear hc
              refine cseq ?_
              refine cregion ?_
              refine sv rfl (opv_as rfl) ?_
              refine snil ?_
              refine cret ?_
              refine block_ret ?_
              refine then_ret ?_
              refine then_ret ?_
              refine block_ret ?_
              refine then_ret ?_
              obtain rfl := Option.some.inj h
              obtain rfl : Sum.inl _ = x3 := hk3
              replace ho3 : some _ = some _ := ho3
              obtain rfl := Option.some.inj ho3
              refine ⟨Or.inr rfl, _, _, _, (resVs_cons (ResV.tmp _ _ rfl) resVs_nil), (pubA_id rfl), ?_⟩
              rfl
            · replace h := ite_f hc h
              clear hc
              refine cskip ?_
              refine block_normal ?_
              refine then_normal ?_
              refine cregion ?_
              refine sv rfl (opv_mv rfl) ?_
              refine sv rfl (opv_add rfl rfl) ?_
              refine sv rfl (opv_as rfl) ?_
              refine snil ?_
              obtain rfl := Option.some.inj h
              exact ⟨(n3, (wI (s3 + 1))), _, hk3, ⟨rfl, rfl, trivial⟩, rfl, Nat.lt_succ_self _⟩
      · replace h := ite_f hc h
        clear hc
        refine cexit ?_
        refine then_exit ?_
        refine then_exit ?_
        refine block_hit ?_
        refine then_normal ?_
        obtain rfl := Option.some.inj h
        obtain rfl : _ = x3 := hk3
        exact ⟨(), _, ho3, trivial, rfl⟩
  · skip
    refine cregion ?_
    refine sv rfl (opv_fieldAddr_lp fi46_0 rfl) ?_
    refine sv rfl (opv_load1 ti3 rfl (.lp _ _ _ rfl) rfl) ?_
    refine sv rfl (opv_lss rfl rfl) ?_
    refine sv rfl (opv_mv rfl) ?_
    refine ssplit 7 rfl (fun hc => ?_) (fun hc => ?_)
    · replace h := ite_t hc h
      clear hc
      refine soff rfl rfl rfl rfl ?_
      refine soff rfl rfl rfl rfl ?_
      refine soff rfl rfl rfl rfl ?_
      refine sv rfl (opv_pick_t rfl rfl) ?_
      refine sv rfl (opv_mv rfl) ?_
      refine soff rfl rfl rfl rfl ?_
      refine soff rfl rfl rfl rfl ?_
      refine soff rfl rfl rfl rfl ?_
      refine sv rfl (opv_pick_t rfl rfl) ?_
      refine sv rfl (opv_mv rfl) ?_
      refine soff rfl rfl rfl rfl ?_
      refine soff rfl rfl rfl rfl ?_
      refine soff rfl rfl rfl rfl ?_
      refine sv rfl (opv_pick_t rfl rfl) ?_
      refine sv rfl (opv_mv rfl) ?_
      refine soff rfl rfl rfl rfl ?_
      refine soff rfl rfl rfl rfl ?_
      refine soff rfl rfl rfl rfl ?_
      refine sv rfl (opv_pick_t rfl rfl) ?_
      refine sv rfl (opv_mv rfl) ?_
      refine soff rfl rfl rfl rfl ?_
      refine soff rfl rfl rfl rfl ?_
      refine soff rfl rfl rfl rfl ?_
      refine sv rfl (opv_pick_t rfl rfl) ?_
      refine sv rfl (opv_mv rfl) ?_
      refine soff rfl rfl rfl rfl ?_
      refine soff rfl rfl rfl rfl ?_
      refine soff rfl rfl rfl rfl ?_
      refine sv rfl (opv_pick_t rfl rfl) ?_
      refine sv rfl (opv_mv rfl) ?_
      refine soff rfl rfl rfl rfl ?_
      refine soff rfl rfl rfl rfl ?_
      refine soff rfl rfl rfl rfl ?_
      refine sv rfl (opv_pick_t rfl rfl) ?_
      refine sv rfl (opv_mv rfl) ?_
      refine soff rfl rfl rfl rfl ?_
      refine soff rfl rfl rfl rfl ?_
      refine soff rfl rfl rfl rfl ?_
      refine soff rfl rfl rfl rfl ?_
      refine sv rfl (opv_pick_t rfl rfl) ?_
      refine sv rfl (opv_mv rfl) ?_
      refine soff rfl rfl rfl rfl ?_
      refine soff rfl rfl rfl rfl ?_
      refine soff rfl rfl rfl rfl ?_
      refine soff rfl rfl rfl rfl ?_
      refine soffu rfl rfl rfl ?_
      refine soffu rfl rfl rfl ?_
      refine soffu rfl rfl rfl ?_
      refine soffu rfl rfl rfl ?_
      refine soff rfl rfl rfl rfl ?_
      refine sv rfl (opv_pick_t rfl rfl) ?_
      refine sv rfl (opv_mv rfl) ?_
      refine soff rfl rfl rfl rfl ?_
      refine soff rfl rfl rfl rfl ?_
      refine soff rfl rfl rfl rfl ?_
      refine soff rfl rfl rfl rfl ?_
      refine sv rfl (opv_pick_t rfl rfl) ?_
      refine snil ?_
      refine ccond rfl (fun _ => ?_) (fun hx => Bool.noConfusion hx)
      refine cseq ?_
      refine cregion ?_
      refine sv rfl (opv_as rfl) ?_
      refine snil ?_
      refine cret ?_
      refine then_ret ?_
      obtain rfl := Option.some.inj h
      refine ⟨Or.inr rfl, _, _, _, (resVs_cons (ResV.tmp _ _ rfl) resVs_nil), (pubA_id rfl), ?_⟩
      rfl
    · replace h := ite_f hc h
      clear hc
      refine son rfl rfl rfl ?_
      refine sv rfl (opv_fieldAddr_lp fi46_0 rfl) ?_
      refine son rfl rfl rfl ?_
      refine sv rfl (opv_load1 ti3 rfl (.lp _ _ _ rfl) rfl) ?_
      refine son rfl rfl rfl ?_
      refine sv rfl (opv_gtr rfl rfl) ?_
      refine sv rfl (opv_pick_f rfl rfl) ?_
      refine sv rfl (opv_mv rfl) ?_
      refine ssplit 12 rfl (fun hc => ?_) (fun hc => ?_)
      · replace h := ite_t hc h
        clear hc
        refine soff rfl rfl rfl rfl ?_
        refine soff rfl rfl rfl rfl ?_
        refine soff rfl rfl rfl rfl ?_
        refine sv rfl (opv_pick_t rfl rfl) ?_
        refine sv rfl (opv_mv rfl) ?_
        refine soff rfl rfl rfl rfl ?_
        refine soff rfl rfl rfl rfl ?_
        refine soff rfl rfl rfl rfl ?_
        refine sv rfl (opv_pick_t rfl rfl) ?_
        refine sv rfl (opv_mv rfl) ?_
        refine soff rfl rfl rfl rfl ?_
        refine soff rfl rfl rfl rfl ?_
        refine soff rfl rfl rfl rfl ?_
        refine sv rfl (opv_pick_t rfl rfl) ?_
        refine sv rfl (opv_mv rfl) ?_
        refine soff rfl rfl rfl rfl ?_
        refine soff rfl rfl rfl rfl ?_
        refine soff rfl rfl rfl rfl ?_
        refine sv rfl (opv_pick_t rfl rfl) ?_
        refine sv rfl (opv_mv rfl) ?_
        refine soff rfl rfl rfl rfl ?_
        refine soff rfl rfl rfl rfl ?_
        refine soff rfl rfl rfl rfl ?_
        refine sv rfl (opv_pick_t rfl rfl) ?_
        refine sv rfl (opv_mv rfl) ?_
        refine soff rfl rfl rfl rfl ?_
        refine soff rfl rfl rfl rfl ?_
        refine soff rfl rfl rfl rfl ?_
        refine sv rfl (opv_pick_t rfl rfl) ?_
        refine sv rfl (opv_mv rfl) ?_
        refine soff rfl rfl rfl rfl ?_
        refine soff rfl rfl rfl rfl ?_
        refine soff rfl rfl rfl rfl ?_
        refine soff rfl rfl rfl rfl ?_
        refine sv rfl (opv_pick_t rfl rfl) ?_
        refine sv rfl (opv_mv rfl) ?_
        refine soff rfl rfl rfl rfl ?_
        refine soff rfl rfl rfl rfl ?_
        refine soff rfl rfl rfl rfl ?_
        refine soff rfl rfl rfl rfl ?_
        refine soffu rfl rfl rfl ?_
        refine soffu rfl rfl rfl ?_
        refine soffu rfl rfl rfl ?_
        refine soffu rfl rfl rfl ?_
        refine soff rfl rfl rfl rfl ?_
        refine sv rfl (opv_pick_t rfl rfl) ?_
        refine sv rfl (opv_mv rfl) ?_
        refine soff rfl rfl rfl rfl ?_
        refine soff rfl rfl rfl rfl ?_
        refine soff rfl rfl rfl rfl ?_
        refine soff rfl rfl rfl rfl ?_
        refine sv rfl (opv_pick_t rfl rfl) ?_
        refine snil ?_
        refine ccond rfl (fun _ => ?_) (fun hx => Bool.noConfusion hx)
        refine cseq ?_
        refine cregion ?_
        refine sv rfl (opv_as rfl) ?_
        refine snil ?_
        refine cret ?_
        refine then_ret ?_
        obtain rfl := Option.some.inj h
        refine ⟨Or.inr rfl, _, _, _, (resVs_cons (ResV.tmp _ _ rfl) resVs_nil), (pubA_id rfl), ?_⟩
        rfl
      · replace h := ite_f hc h
        clear hc
        refine son rfl rfl rfl ?_
        refine sv rfl (opv_fieldAddr_lp fi46_1 rfl) ?_
        refine son rfl rfl rfl ?_
        refine sv rfl (opv_load1 ti3 rfl (.lp _ _ _ rfl) rfl) ?_
        refine son rfl rfl rfl ?_
        refine sv rfl (opv_lss rfl rfl) ?_
        refine sv rfl (opv_pick_f rfl rfl) ?_
        refine sv rfl (opv_mv rfl) ?_
        refine ssplit 17 rfl (fun hc => ?_) (fun hc => ?_)
        · replace h := ite_t hc h
          clear hc
          refine soff rfl rfl rfl rfl ?_
          refine soff rfl rfl rfl rfl ?_
          refine soff rfl rfl rfl rfl ?_
          refine sv rfl (opv_pick_t rfl rfl) ?_
          refine sv rfl (opv_mv rfl) ?_
          refine soff rfl rfl rfl rfl ?_
          refine soff rfl rfl rfl rfl ?_
          refine soff rfl rfl rfl rfl ?_
          refine sv rfl (opv_pick_t rfl rfl) ?_
          refine sv rfl (opv_mv rfl) ?_
          refine soff rfl rfl rfl rfl ?_
          refine soff rfl rfl rfl rfl ?_
          refine soff rfl rfl rfl rfl ?_
          refine sv rfl (opv_pick_t rfl rfl) ?_
          refine sv rfl (opv_mv rfl) ?_
          refine soff rfl rfl rfl rfl ?_
          refine soff rfl rfl rfl rfl ?_
          refine soff rfl rfl rfl rfl ?_
          refine sv rfl (opv_pick_t rfl rfl) ?_
          refine sv rfl (opv_mv rfl) ?_
          refine soff rfl rfl rfl rfl ?_
          refine soff rfl rfl rfl rfl ?_
          refine soff rfl rfl rfl rfl ?_
          refine sv rfl (opv_pick_t rfl rfl) ?_
          refine sv rfl (opv_mv rfl) ?_
          refine soff rfl rfl rfl rfl ?_
          refine soff rfl rfl rfl rfl ?_
          refine soff rfl rfl rfl rfl ?_
          refine soff rfl rfl rfl rfl ?_
          refine sv rfl (opv_pick_t rfl rfl) ?_
          refine sv rfl (opv_mv rfl) ?_
          refine soff rfl rfl rfl rfl ?_
          refine soff rfl rfl rfl rfl ?_
          refine soff rfl rfl rfl rfl ?_
          refine soff rfl rfl rfl rfl ?_
          refine soffu rfl rfl rfl ?_
          refine soffu rfl rfl rfl ?_
          refine soffu rfl rfl rfl ?_
          refine soffu rfl rfl rfl ?_
          refine soff rfl rfl rfl rfl ?_
          refine sv rfl (opv_pick_t rfl rfl) ?_
          refine sv rfl (opv_mv rfl) ?_
          refine soff rfl rfl rfl rfl ?_
          refine soff rfl rfl rfl rfl ?_
          refine soff rfl rfl rfl rfl ?_
          refine soff rfl rfl rfl rfl ?_
          refine sv rfl (opv_pick_t rfl rfl) ?_
          refine snil ?_
          refine ccond rfl (fun _ => ?_) (fun hx => Bool.noConfusion hx)
          refine cseq ?_
          refine cregion ?_
          refine sv rfl (opv_as rfl) ?_
          refine snil ?_
          refine cret ?_
          refine then_ret ?_
          obtain rfl := Option.some.inj h
          refine ⟨Or.inr rfl, _, _, _, (resVs_cons (ResV.tmp _ _ rfl) resVs_nil), (pubA_id rfl), ?_⟩
          rfl
        · replace h := ite_f hc h
          clear hc
          refine son rfl rfl rfl ?_
          refine sv rfl (opv_fieldAddr_lp fi46_1 rfl) ?_
          refine son rfl rfl rfl ?_
          refine sv rfl (opv_load1 ti3 rfl (.lp _ _ _ rfl) rfl) ?_
          refine son rfl rfl rfl ?_
          refine sv rfl (opv_gtr rfl rfl) ?_
          refine sv rfl (opv_pick_f rfl rfl) ?_
          refine sv rfl (opv_mv rfl) ?_
          refine ssplit 22 rfl (fun hc => ?_) (fun hc => ?_)
          · replace h := ite_t hc h
            clear hc
            refine soff rfl rfl rfl rfl ?_
            refine soff rfl rfl rfl rfl ?_
            refine soff rfl rfl rfl rfl ?_
            refine sv rfl (opv_pick_t rfl rfl) ?_
            refine sv rfl (opv_mv rfl) ?_
            refine soff rfl rfl rfl rfl ?_
            refine soff rfl rfl rfl rfl ?_
            refine soff rfl rfl rfl rfl ?_
            refine sv rfl (opv_pick_t rfl rfl) ?_
            refine sv rfl (opv_mv rfl) ?_
            refine soff rfl rfl rfl rfl ?_
            refine soff rfl rfl rfl rfl ?_
            refine soff rfl rfl rfl rfl ?_
            refine sv rfl (opv_pick_t rfl rfl) ?_
            refine sv rfl (opv_mv rfl) ?_
            refine soff rfl rfl rfl rfl ?_
            refine soff rfl rfl rfl rfl ?_
            refine soff rfl rfl rfl rfl ?_
            refine sv rfl (opv_pick_t rfl rfl) ?_
            refine sv rfl (opv_mv rfl) ?_
            refine soff rfl rfl rfl rfl ?_
            refine soff rfl rfl rfl rfl ?_
            refine soff rfl rfl rfl rfl ?_
            refine soff rfl rfl rfl rfl ?_
            refine sv rfl (opv_pick_t rfl rfl) ?_
            refine sv rfl (opv_mv rfl) ?_
            refine soff rfl rfl rfl rfl ?_
            refine soff rfl rfl rfl rfl ?_
            refine soff rfl rfl rfl rfl ?_
            refine soff rfl rfl rfl rfl ?_
            refine soffu rfl rfl rfl ?_
            refine soffu rfl rfl rfl ?_
            refine soffu rfl rfl rfl ?_
            refine soffu rfl rfl rfl ?_
            refine soff rfl rfl rfl rfl ?_
            refine sv rfl (opv_pick_t rfl rfl) ?_
            refine sv rfl (opv_mv rfl) ?_
            refine soff rfl rfl rfl rfl ?_
            refine soff rfl rfl rfl rfl ?_
            refine soff rfl rfl rfl rfl ?_
            refine soff rfl rfl rfl rfl ?_
            refine sv rfl (opv_pick_t rfl rfl) ?_
            refine snil ?_
            refine ccond rfl (fun _ => ?_) (fun hx => Bool.noConfusion hx)
            refine cseq ?_
            refine cregion ?_
            refine sv rfl (opv_as rfl) ?_
            refine snil ?_
            refine cret ?_
            refine then_ret ?_
            obtain rfl := Option.some.inj h
            refine ⟨Or.inr rfl, _, _, _, (resVs_cons (ResV.tmp _ _ rfl) resVs_nil), (pubA_id rfl), ?_⟩
            rfl
          · replace h := ite_f hc h
            clear hc
            refine son rfl rfl rfl ?_
            refine sv rfl (opv_fieldAddr_lp fi46_2 rfl) ?_
            refine son rfl rfl rfl ?_
            refine sv rfl (opv_load1 ti29 rfl (.lp _ _ _ rfl) rfl) ?_
            refine son rfl rfl rfl ?_
            refine sv rfl (opv_lss rfl rfl) ?_
            refine sv rfl (opv_pick_f rfl rfl) ?_
            refine sv rfl (opv_mv rfl) ?_
            refine ssplit 27 rfl (fun hc => ?_) (fun hc => ?_)
            · replace h := ite_t hc h
              clear hc
              refine soff rfl rfl rfl rfl ?_
              refine soff rfl rfl rfl rfl ?_
              refine soff rfl rfl rfl rfl ?_
              refine sv rfl (opv_pick_t rfl rfl) ?_
              refine sv rfl (opv_mv rfl) ?_
              refine soff rfl rfl rfl rfl ?_
              refine soff rfl rfl rfl rfl ?_
              refine soff rfl rfl rfl rfl ?_
              refine sv rfl (opv_pick_t rfl rfl) ?_
              refine sv rfl (opv_mv rfl) ?_
              refine soff rfl rfl rfl rfl ?_
              refine soff rfl rfl rfl rfl ?_
              refine soff rfl rfl rfl rfl ?_
              refine sv rfl (opv_pick_t rfl rfl) ?_
              refine sv rfl (opv_mv rfl) ?_
              refine soff rfl rfl rfl rfl ?_
              refine soff rfl rfl rfl rfl ?_
              refine soff rfl rfl rfl rfl ?_
              refine soff rfl rfl rfl rfl ?_
              refine sv rfl (opv_pick_t rfl rfl) ?_
              refine sv rfl (opv_mv rfl) ?_
              refine soff rfl rfl rfl rfl ?_
              refine soff rfl rfl rfl rfl ?_
              refine soff rfl rfl rfl rfl ?_
              refine soff rfl rfl rfl rfl ?_
              refine soffu rfl rfl rfl ?_
              refine soffu rfl rfl rfl ?_
              refine soffu rfl rfl rfl ?_
              refine soffu rfl rfl rfl ?_
              refine soff rfl rfl rfl rfl ?_
              refine sv rfl (opv_pick_t rfl rfl) ?_
              refine sv rfl (opv_mv rfl) ?_
              refine soff rfl rfl rfl rfl ?_
              refine soff rfl rfl rfl rfl ?_
              refine soff rfl rfl rfl rfl ?_
              refine soff rfl rfl rfl rfl ?_
              refine sv rfl (opv_pick_t rfl rfl) ?_
              refine snil ?_
              refine ccond rfl (fun _ => ?_) (fun hx => Bool.noConfusion hx)
              refine cseq ?_
              refine cregion ?_
              refine sv rfl (opv_as rfl) ?_
              refine snil ?_
              refine cret ?_
              refine then_ret ?_
              obtain rfl := Option.some.inj h
              refine ⟨Or.inr rfl, _, _, _, (resVs_cons (ResV.tmp _ _ rfl) resVs_nil), (pubA_id rfl), ?_⟩
              rfl
            · replace h := ite_f hc h
              clear hc
              refine son rfl rfl rfl ?_
              refine sv rfl (opv_fieldAddr_lp fi46_2 rfl) ?_
              refine son rfl rfl rfl ?_
              refine sv rfl (opv_load1 ti29 rfl (.lp _ _ _ rfl) rfl) ?_
              refine son rfl rfl rfl ?_
              refine sv rfl (opv_gtr rfl rfl) ?_
              refine sv rfl (opv_pick_f rfl rfl) ?_
              refine sv rfl (opv_mv rfl) ?_
              refine ssplit 32 rfl (fun hc => ?_) (fun hc => ?_)
              · replace h := ite_t hc h
                clear hc
                refine soff rfl rfl rfl rfl ?_
                refine soff rfl rfl rfl rfl ?_
                refine soff rfl rfl rfl rfl ?_
                refine sv rfl (opv_pick_t rfl rfl) ?_
                refine sv rfl (opv_mv rfl) ?_
                refine soff rfl rfl rfl rfl ?_
                refine soff rfl rfl rfl rfl ?_
                refine soff rfl rfl rfl rfl ?_
                refine sv rfl (opv_pick_t rfl rfl) ?_
                refine sv rfl (opv_mv rfl) ?_
                refine soff rfl rfl rfl rfl ?_
                refine soff rfl rfl rfl rfl ?_
                refine soff rfl rfl rfl rfl ?_
                refine soff rfl rfl rfl rfl ?_
                refine sv rfl (opv_pick_t rfl rfl) ?_
                refine sv rfl (opv_mv rfl) ?_
                refine soff rfl rfl rfl rfl ?_
                refine soff rfl rfl rfl rfl ?_
                refine soff rfl rfl rfl rfl ?_
                refine soff rfl rfl rfl rfl ?_
                refine soffu rfl rfl rfl ?_
                refine soffu rfl rfl rfl ?_
                refine soffu rfl rfl rfl ?_
                refine soffu rfl rfl rfl ?_
                refine soff rfl rfl rfl rfl ?_
                refine sv rfl (opv_pick_t rfl rfl) ?_
                refine sv rfl (opv_mv rfl) ?_
                refine soff rfl rfl rfl rfl ?_
                refine soff rfl rfl rfl rfl ?_
                refine soff rfl rfl rfl rfl ?_
                refine soff rfl rfl rfl rfl ?_
                refine sv rfl (opv_pick_t rfl rfl) ?_
                refine snil ?_
                refine ccond rfl (fun _ => ?_) (fun hx => Bool.noConfusion hx)
                refine cseq ?_
                refine cregion ?_
                refine sv rfl (opv_as rfl) ?_
                refine snil ?_
                refine cret ?_
                refine then_ret ?_
                obtain rfl := Option.some.inj h
                refine ⟨Or.inr rfl, _, _, _, (resVs_cons (ResV.tmp _ _ rfl) resVs_nil), (pubA_id rfl), ?_⟩
                rfl
              · replace h := ite_f hc h
                clear hc
                refine son rfl rfl rfl ?_
                refine sv rfl (opv_fieldAddr_lp fi46_3 rfl) ?_
                refine son rfl rfl rfl ?_
                refine sv rfl (opv_load1 ti3 rfl (.lp _ _ _ rfl) rfl) ?_
                refine son rfl rfl rfl ?_
                refine sv rfl (opv_lss rfl rfl) ?_
                refine sv rfl (opv_pick_f rfl rfl) ?_
                refine sv rfl (opv_mv rfl) ?_
                refine ssplit 37 rfl (fun hc => ?_) (fun hc => ?_)
                · replace h := ite_t hc h
                  clear hc
                  refine soff rfl rfl rfl rfl ?_
                  refine soff rfl rfl rfl rfl ?_
                  refine soff rfl rfl rfl rfl ?_
                  refine sv rfl (opv_pick_t rfl rfl) ?_
                  refine sv rfl (opv_mv rfl) ?_
                  refine soff rfl rfl rfl rfl ?_
                  refine soff rfl rfl rfl rfl ?_
                  refine soff rfl rfl rfl rfl ?_
                  refine soff rfl rfl rfl rfl ?_
                  refine sv rfl (opv_pick_t rfl rfl) ?_
                  refine sv rfl (opv_mv rfl) ?_
                  refine soff rfl rfl rfl rfl ?_
                  refine soff rfl rfl rfl rfl ?_
                  refine soff rfl rfl rfl rfl ?_
                  refine soff rfl rfl rfl rfl ?_
                  refine soffu rfl rfl rfl ?_
                  refine soffu rfl rfl rfl ?_
                  refine soffu rfl rfl rfl ?_
                  refine soffu rfl rfl rfl ?_
                  refine soff rfl rfl rfl rfl ?_
                  refine sv rfl (opv_pick_t rfl rfl) ?_
                  refine sv rfl (opv_mv rfl) ?_
                  refine soff rfl rfl rfl rfl ?_
                  refine soff rfl rfl rfl rfl ?_
                  refine soff rfl rfl rfl rfl ?_
                  refine soff rfl rfl rfl rfl ?_
                  refine sv rfl (opv_pick_t rfl rfl) ?_
                  refine snil ?_
                  refine ccond rfl (fun _ => ?_) (fun hx => Bool.noConfusion hx)
                  refine cseq ?_
                  refine cregion ?_
                  refine sv rfl (opv_as rfl) ?_
                  refine snil ?_
                  refine cret ?_
                  refine then_ret ?_
                  obtain rfl := Option.some.inj h
                  refine ⟨Or.inr rfl, _, _, _, (resVs_cons (ResV.tmp _ _ rfl) resVs_nil), (pubA_id rfl), ?_⟩
                  rfl
                · replace h := ite_f hc h
                  clear hc
                  refine son rfl rfl rfl ?_
                  refine sv rfl (opv_fieldAddr_lp fi46_3 rfl) ?_
                  refine son rfl rfl rfl ?_
                  refine sv rfl (opv_load1 ti3 rfl (.lp _ _ _ rfl) rfl) ?_
                  refine son rfl rfl rfl ?_
                  refine sv rfl (opv_gtr rfl rfl) ?_
                  refine sv rfl (opv_pick_f rfl rfl) ?_
                  refine sv rfl (opv_mv rfl) ?_
                  refine ssplit 42 rfl (fun hc => ?_) (fun hc => ?_)
                  · replace h := ite_t hc h
                    clear hc
                    refine soff rfl rfl rfl rfl ?_
                    refine soff rfl rfl rfl rfl ?_
                    refine soff rfl rfl rfl rfl ?_
                    refine soff rfl rfl rfl rfl ?_
                    refine sv rfl (opv_pick_t rfl rfl) ?_
                    refine sv rfl (opv_mv rfl) ?_
                    refine soff rfl rfl rfl rfl ?_
                    refine soff rfl rfl rfl rfl ?_
                    refine soff rfl rfl rfl rfl ?_
                    refine soff rfl rfl rfl rfl ?_
                    refine soffu rfl rfl rfl ?_
                    refine soffu rfl rfl rfl ?_
                    refine soffu rfl rfl rfl ?_
                    refine soffu rfl rfl rfl ?_
                    refine soff rfl rfl rfl rfl ?_
                    refine sv rfl (opv_pick_t rfl rfl) ?_
                    refine sv rfl (opv_mv rfl) ?_
                    refine soff rfl rfl rfl rfl ?_
                    refine soff rfl rfl rfl rfl ?_
                    refine soff rfl rfl rfl rfl ?_
                    refine soff rfl rfl rfl rfl ?_
                    refine sv rfl (opv_pick_t rfl rfl) ?_
                    refine snil ?_
                    refine ccond rfl (fun _ => ?_) (fun hx => Bool.noConfusion hx)
                    refine cseq ?_
                    refine cregion ?_
                    refine sv rfl (opv_as rfl) ?_
                    refine snil ?_
                    refine cret ?_
                    refine then_ret ?_
                    obtain rfl := Option.some.inj h
                    refine ⟨Or.inr rfl, _, _, _, (resVs_cons (ResV.tmp _ _ rfl) resVs_nil), (pubA_id rfl), ?_⟩
                    rfl
                  · replace h := ite_f hc h
                    clear hc
                    refine son rfl rfl rfl ?_
                    refine sv rfl (opv_fieldAddr_lp fi46_5 rfl) ?_
                    refine son rfl rfl rfl ?_
                    refine sv rfl (opv_load1 ti22 rfl (.lp _ _ _ rfl) rfl) ?_
                    refine son rfl rfl rfl ?_
                    refine sv rfl (opv_len_sl si22 rfl) ?_
                    refine son rfl rfl rfl ?_
                    refine sv rfl (opv_gtr rfl rfl) ?_
                    refine sv rfl (opv_pick_f rfl rfl) ?_
                    refine sv rfl (opv_mv rfl) ?_
                    refine ssplit 48 rfl (fun hc => ?_) (fun hc => ?_)
                    · replace h := ite_t hc h
                      clear hc
                      refine soff rfl rfl rfl rfl ?_
                      refine soff rfl rfl rfl rfl ?_
                      refine soff rfl rfl rfl rfl ?_
                      refine soff rfl rfl rfl rfl ?_
                      refine soffu rfl rfl rfl ?_
                      refine soffu rfl rfl rfl ?_
                      refine soffu rfl rfl rfl ?_
                      refine soffu rfl rfl rfl ?_
                      refine soff rfl rfl rfl rfl ?_
                      refine sv rfl (opv_pick_t rfl rfl) ?_
                      refine sv rfl (opv_mv rfl) ?_
                      refine soff rfl rfl rfl rfl ?_
                      refine soff rfl rfl rfl rfl ?_
                      refine soff rfl rfl rfl rfl ?_
                      refine soff rfl rfl rfl rfl ?_
                      refine sv rfl (opv_pick_t rfl rfl) ?_
                      refine snil ?_
                      refine ccond rfl (fun _ => ?_) (fun hx => Bool.noConfusion hx)
                      refine cseq ?_
                      refine cregion ?_
                      refine sv rfl (opv_as rfl) ?_
                      refine snil ?_
                      refine cret ?_
                      refine then_ret ?_
                      obtain rfl := Option.some.inj h
                      refine ⟨Or.inr rfl, _, _, _, (resVs_cons (ResV.tmp _ _ rfl) resVs_nil), (pubA_id rfl), ?_⟩
                      rfl
                    · replace h := ite_f hc h
                      clear hc
                      refine son rfl rfl rfl ?_
                      refine sv rfl (opv_fieldAddr_lp fi46_4 rfl) ?_
                      refine son rfl rfl rfl ?_
                      refine sv rfl (opv_load1 ti4 rfl (.lp _ _ _ rfl) rfl) ?_
                      refine son rfl rfl rfl ?_
                      refine sv rfl (opv_not rfl) ?_
                      refine son rfl rfl rfl ?_
                      refine sv rfl (opv_mv rfl) ?_
                      refine ssplit 52 rfl (fun hc => ?_) (fun hc => ?_)
                      · replace h := ite_t hc h
                        clear hc
                        refine son rfl rfl rfl ?_
                        refine sv rfl (opv_fieldAddr_lp fi46_5 rfl) ?_
                        refine son rfl rfl rfl ?_
                        refine sv rfl (opv_load1 ti22 rfl (.lp _ _ _ rfl) rfl) ?_
                        refine son rfl rfl rfl ?_
                        refine sv rfl (opv_len_sl si22 rfl) ?_
                        refine son rfl rfl rfl ?_
                        refine sv rfl (opv_gtr rfl rfl) ?_
                        refine son rfl rfl rfl ?_
                        refine sv rfl (opv_pick_t rfl rfl) ?_
                        refine sv rfl (opv_pick_f rfl rfl) ?_
                        refine sv rfl (opv_mv rfl) ?_
                        refine ssplit 59 rfl (fun hc => ?_) (fun hc => ?_)
                        · replace h := ite_t hc h
                          clear hc
                          refine soff rfl rfl rfl rfl ?_
                          refine soff rfl rfl rfl rfl ?_
                          refine soff rfl rfl rfl rfl ?_
                          refine soff rfl rfl rfl rfl ?_
                          refine sv rfl (opv_pick_t rfl rfl) ?_
                          refine snil ?_
                          refine ccond rfl (fun _ => ?_) (fun hx => Bool.noConfusion hx)
                          refine cseq ?_
                          refine cregion ?_
                          refine sv rfl (opv_as rfl) ?_
                          refine snil ?_
                          refine cret ?_
                          refine then_ret ?_
                          obtain rfl := Option.some.inj h
                          refine ⟨Or.inr rfl, _, _, _, (resVs_cons (ResV.tmp _ _ rfl) resVs_nil), (pubA_id rfl), ?_⟩
                          rfl
                        · replace h := ite_f hc h
                          clear hc
                          refine son rfl rfl rfl ?_
                          refine sv rfl (opv_fieldAddr_lp fi46_6 rfl) ?_
                          refine son rfl rfl rfl ?_
                          refine sv rfl (opv_load1 ti44 rfl (.lp _ _ _ rfl) rfl) ?_
                          refine son rfl rfl rfl ?_
                          refine sv rfl (opv_len_sl si44 rfl) ?_
                          refine son rfl rfl rfl ?_
                          refine sv rfl (opv_gtr rfl rfl) ?_
                          refine sv rfl (opv_pick_f rfl rfl) ?_
                          refine snil ?_
                          refine ccond rfl (fun hc => ?_) (fun hc => ?_)
                          · replace h := ite_t hc h
                            clear hc
                            refine cseq ?_
                            refine cregion ?_
                            refine sv rfl (opv_as rfl) ?_
                            refine snil ?_
                            refine cret ?_
                            refine then_ret ?_
                            obtain rfl := Option.some.inj h
                            refine ⟨Or.inr rfl, _, _, _, (resVs_cons (ResV.tmp _ _ rfl) resVs_nil), (pubA_id rfl), ?_⟩
                            rfl
                          · replace h := ite_f hc h
                            clear hc
                            refine cskip ?_
                            refine then_normal ?_
                            exact ⟨(), _, h, ⟨rfl, trivial⟩, rfl⟩
                      · replace h := ite_f hc h
                        clear hc
                        refine soff rfl rfl rfl rfl ?_
                        refine soff rfl rfl rfl rfl ?_
                        refine soff rfl rfl rfl rfl ?_
                        refine soff rfl rfl rfl rfl ?_
                        refine son rfl rfl rfl ?_
                        refine sv rfl (opv_pick_f rfl rfl) ?_
                        refine sv rfl (opv_pick_f rfl rfl) ?_
                        refine sv rfl (opv_mv rfl) ?_
                        refine son rfl rfl rfl ?_
                        refine sv rfl (opv_fieldAddr_lp fi46_6 rfl) ?_
                        refine son rfl rfl rfl ?_
                        refine sv rfl (opv_load1 ti44 rfl (.lp _ _ _ rfl) rfl) ?_
                        refine son rfl rfl rfl ?_
                        refine sv rfl (opv_len_sl si44 rfl) ?_
                        refine son rfl rfl rfl ?_
                        refine sv rfl (opv_gtr rfl rfl) ?_
                        refine sv rfl (opv_pick_f rfl rfl) ?_
                        refine snil ?_
                        refine ccond rfl (fun hc => ?_) (fun hc => ?_)
                        · replace h := ite_t hc h
                          clear hc
                          refine cseq ?_
                          refine cregion ?_
                          refine sv rfl (opv_as rfl) ?_
                          refine snil ?_
                          refine cret ?_
                          refine then_ret ?_
                          obtain rfl := Option.some.inj h
                          refine ⟨Or.inr rfl, _, _, _, (resVs_cons (ResV.tmp _ _ rfl) resVs_nil), (pubA_id rfl), ?_⟩
                          rfl
                        · replace h := ite_f hc h
                          clear hc
                          refine cskip ?_
                          refine then_normal ?_
                          exact ⟨(), _, h, ⟨rfl, trivial⟩, rfl⟩

def m24_r05_PutReply_k10 (b10 : (List UInt8)) : Option ((List UInt8) × Int) :=
  some (b10, 0)

def m24_r05_PutReply_s11 (a0 : GR05Reply) (s11 : (List UInt8) × Int) : Option (LB ((List UInt8) × Int) ((List UInt8))) :=
  if (decide (s11.2 < (a0.List.length : Int))) then ((idx a0.List s11.2).bind fun u12 => (m42_r01_List s11.1 u12.Key).bind fun v13 => (idx a0.List s11.2).bind fun u14 => (m42_r01_List v13 u14.Val).bind fun v15 => some (.cont (v15, (wI (s11.2 + 1))))) else (some (.brk s11.1))
def m24_r05_PutReply (a0 : GR05Reply) : Option ((List UInt8) × Int) :=
  (m30_r05_SaneReply a0).bind fun v1 => if (!v1) then (some (([] : List UInt8), 1)) else ((m36_r01_U ([] : List UInt8) (BitVec.ofInt 64 a0.Kind) 1).bind fun v2 => (m36_r01_U v2 (BitVec.ofInt 64 a0.Seq) 4).bind fun v3 => (m36_r01_U v3 (BitVec.ofInt 64 a0.Code) 1).bind fun v4 => (m36_r01_U v4 (BitVec.ofInt 64 a0.N) 8).bind fun v5 => (m40_r05_bit a0.Found).bind fun v6 => (m36_r01_U v5 v6 1).bind fun v7 => (m42_r01_List v7 a0.Val).bind fun v8 => (m36_r01_U v8 (BitVec.ofInt 64 (a0.List.length : Int)) 1).bind fun v9 => (iterB (m24_r05_PutReply_s11 a0) fuel (v9, 0)).bind fun e16 => m24_r05_PutReply_k10 e16)

set_option maxRecDepth 100000 in
theorem m24_r05_PutReply_c {a0 : GR05Reply} {r : (List UInt8) × Int} (h : m24_r05_PutReply a0 = some r) : CallsA Tryd.prog 24 [.agg [.i .i64 a0.Kind, .i .i64 a0.Seq, .i .i64 a0.Code, .i .i64 a0.N, .b a0.Found, .sl a0.Val.length (a0.Val.flatMap eU8), .sl a0.List.length (a0.List.flatMap eGApiKV)]] (· = .tup [.one (.sl r.1.length (r.1.flatMap eU8)), .one (.i .i64 r.2)]) := by
  unfold m24_r05_PutReply at h
  refine callsA_of Tryd.func24 rfl (nt := 67) rfl (Nat.le_of_ble_eq_true rfl) ?_
  intro w0 S0
  refine cseq ?_
  refine cregion ?_
  refine sbox rfl rfl ?_
  refine sv rfl (opv_as rfl) ?_
  refine sv rfl (opv_as rfl) ?_
  refine snil ?_
  refine cseq ?_
  refine cseq ?_
  refine cregion ?_
  refine sv rfl (opv_loadN ti46 rfl (.lp _ _ _ rfl) (Nat.le_of_ble_eq_true rfl)) ?_
  obtain ⟨v1, hv1, h⟩ := bind_eq h
  refine scall1 rfl fn30 (opnds_cons rfl opnds_nil) (pubA_id rfl) (m30_r05_SaneReply_c hv1) ?_
  refine sv rfl (opv_not rfl) ?_
  refine snil ?_
  refine ccond rfl (fun hc => ?_) (fun hc => ?_)
  · replace h := ite_t hc h
    clear hc
    refine cseq ?_
    refine cregion ?_
    refine sv rfl (opv_as rfl) ?_
    refine sv rfl (opv_as rfl) ?_
    refine snil ?_
    refine cret ?_
    refine then_ret ?_
    obtain rfl := Option.some.inj h
    refine ⟨Or.inr rfl, _, _, _, (resVs_cons (ResV.tmp _ _ rfl) (resVs_cons (ResV.tmp _ _ rfl) resVs_nil)), (pubC rfl), ?_⟩
    rfl
  · replace h := ite_f hc h
    clear hc
    refine cskip ?_
    refine then_normal ?_
    refine cseq ?_
    refine cregion ?_
    refine sv rfl (opv_fieldAddr_lp fi46_0 rfl) ?_
    refine sv rfl (opv_load1 ti3 rfl (.lp _ _ _ rfl) rfl) ?_
    refine sv rfl (opv_conv_ibv rfl Tryd.underlying3 Tryd.underlying69 rfl) ?_
    obtain ⟨v2, hv2, h⟩ := bind_eq h
    refine scall1 rfl fn36 (opnds_cons rfl (opnds_cons rfl (opnds_cons rfl opnds_nil))) (pubC rfl) (m36_r01_U_c hv2) ?_
    refine sv rfl (opv_as rfl) ?_
    refine snil ?_
    refine cseq ?_
    refine cregion ?_
    refine sv rfl (opv_mv rfl) ?_
    refine sv rfl (opv_fieldAddr_lp fi46_1 rfl) ?_
    refine sv rfl (opv_load1 ti3 rfl (.lp _ _ _ rfl) rfl) ?_
    refine sv rfl (opv_conv_ibv rfl Tryd.underlying3 Tryd.underlying69 rfl) ?_
    obtain ⟨v3, hv3, h⟩ := bind_eq h
    refine scall1 rfl fn36 (opnds_cons rfl (opnds_cons rfl (opnds_cons rfl opnds_nil))) (pubA_id rfl) (m36_r01_U_c hv3) ?_
    refine sv rfl (opv_as rfl) ?_
    refine snil ?_
    refine cseq ?_
    refine cregion ?_
    refine sv rfl (opv_mv rfl) ?_
    refine sv rfl (opv_fieldAddr_lp fi46_2 rfl) ?_
    refine sv rfl (opv_load1 ti29 rfl (.lp _ _ _ rfl) rfl) ?_
    refine sv rfl (opv_conv_ibv rfl Tryd.underlying29 Tryd.underlying69 rfl) ?_
    obtain ⟨v4, hv4, h⟩ := bind_eq h
    refine scall1 rfl fn36 (opnds_cons rfl (opnds_cons rfl (opnds_cons rfl opnds_nil))) (pubA_id rfl) (m36_r01_U_c hv4) ?_
    refine sv rfl (opv_as rfl) ?_
    refine snil ?_
    refine cseq ?_
    refine cregion ?_
    refine sv rfl (opv_mv rfl) ?_
    refine sv rfl (opv_fieldAddr_lp fi46_3 rfl) ?_
    refine sv rfl (opv_load1 ti3 rfl (.lp _ _ _ rfl) rfl) ?_
    refine sv rfl (opv_conv_ibv rfl Tryd.underlying3 Tryd.underlying69 rfl) ?_
    obtain ⟨v5, hv5, h⟩ := bind_eq h
    refine scall1 rfl fn36 (opnds_cons rfl (opnds_cons rfl (opnds_cons rfl opnds_nil))) (pubA_id rfl) (m36_r01_U_c hv5) ?_
    refine sv rfl (opv_as rfl) ?_
    refine snil ?_
    refine cseq ?_
    refine cregion ?_
    refine sv rfl (opv_mv rfl) ?_
    refine sv rfl (opv_fieldAddr_lp fi46_4 rfl) ?_
    refine sv rfl (opv_load1 ti4 rfl (.lp _ _ _ rfl) rfl) ?_
    obtain ⟨v6, hv6, h⟩ := bind_eq h
    refine scall1 rfl fn40 (opnds_cons rfl opnds_nil) (pubA_id rfl) (m40_r05_bit_c hv6) ?_
    obtain ⟨v7, hv7, h⟩ := bind_eq h
    refine scall1 rfl fn36 (opnds_cons rfl (opnds_cons rfl (opnds_cons rfl opnds_nil))) (pubA_id rfl) (m36_r01_U_c hv7) ?_
    refine sv rfl (opv_as rfl) ?_
    refine snil ?_
    refine cseq ?_
    refine cregion ?_
    refine sv rfl (opv_mv rfl) ?_
    refine sv rfl (opv_fieldAddr_lp fi46_5 rfl) ?_
    refine sv rfl (opv_load1 ti22 rfl (.lp _ _ _ rfl) rfl) ?_
    obtain ⟨v8, hv8, h⟩ := bind_eq h
    refine scall1 rfl fn42 (opnds_cons rfl (opnds_cons rfl opnds_nil)) (pubA_id rfl) (m42_r01_List_c hv8) ?_
    refine sv rfl (opv_as rfl) ?_
    refine snil ?_
    refine cseq ?_
    refine cregion ?_
    refine sv rfl (opv_mv rfl) ?_
    refine sv rfl (opv_fieldAddr_lp fi46_6 rfl) ?_
    refine sv rfl (opv_load1 ti44 rfl (.lp _ _ _ rfl) rfl) ?_
    refine sv rfl (opv_len_sl si44 rfl) ?_
    refine sv rfl (opv_conv_ibv rfl Tryd.underlying3 Tryd.underlying69 rfl) ?_
    obtain ⟨v9, hv9, h⟩ := bind_eq h
    refine scall1 rfl fn36 (opnds_cons rfl (opnds_cons rfl (opnds_cons rfl opnds_nil))) (pubA_id rfl) (m36_r01_U_c hv9) ?_
    refine sv rfl (opv_as rfl) ?_
    refine snil ?_
    refine cseq ?_
    refine cseq ?_
    refine cregion ?_
    refine sv rfl (opv_as rfl) ?_
    refine snil ?_
    refine cjoin ((List UInt8)) (fun b10 => [(4, .s (.one (.sl b10.length (b10.flatMap eU8))))]) (fun b10 => [.box [.i .i64 a0.Kind, .i .i64 a0.Seq, .i .i64 a0.Code, .i .i64 a0.N, .b a0.Found, .sl a0.Val.length (a0.Val.flatMap eU8), .sl a0.List.length (a0.List.flatMap eGApiKV)]]) (fun b10 => m24_r05_PutReply_k10 b10 = some r) (fun _ _ => inbL_of rfl) (fun _ _ => blkinb_of rfl) (fun _ _ => Nat.le_of_ble_eq_true rfl) (fun b10 h => ?_) ?_
    · unfold m24_r05_PutReply_k10 at h
      refine cseq ?_
      refine cregion ?_
      refine sv rfl (opv_mv rfl) ?_
      refine sv rfl (opv_as rfl) ?_
      refine sv rfl (opv_as rfl) ?_
      refine snil ?_
      refine cret ?_
      obtain rfl := Option.some.inj h
      refine ⟨Or.inr rfl, _, _, _, (resVs_cons (ResV.tmp _ _ rfl) (resVs_cons (ResV.tmp _ _ rfl) resVs_nil)), (pubA_id rfl), ?_⟩
      rfl
    · skip
      refine cblock ?_
      obtain ⟨x11, hx11, ho11⟩ := bind_eq h
      refine awc_loop (G := Nat × ((List UInt8) × Int)) (fun g => [(1, .s (.one (.lp 0 0))), (4, .s (.one (.sl g.2.1.length (g.2.1.flatMap eU8)))), (5, .s (.one (.i .i64 g.2.2)))]) (fun g => [.box [.i .i64 a0.Kind, .i .i64 a0.Seq, .i .i64 a0.Code, .i .i64 a0.N, .b a0.Found, .sl a0.Val.length (a0.Val.flatMap eU8), .sl a0.List.length (a0.List.flatMap eGApiKV)]]) (fun g => iterB (m24_r05_PutReply_s11 a0) g.1 g.2 = some x11) (fun g => g.1) (fuel, (v9, 0)) hx11 ⟨rfl, rfl, rfl, trivial⟩ [] rfl (fun _ _ => inbL_of rfl) (fun _ _ => blkinb_of rfl) (fun _ _ => Nat.le_of_ble_eq_true rfl) ?_
      clear hx11 h
      rintro ⟨n11, s11⟩ h
      obtain ⟨n11, y11, rfl, h, hk11⟩ := iterB_eq h
      unfold m24_r05_PutReply_s11 at h
      refine cseq ?_
      refine cseq ?_
      refine cregion ?_
      refine sv rfl (opv_mv rfl) ?_
      refine sv rfl (opv_fieldAddr_lp fi46_6 rfl) ?_
      refine sv rfl (opv_load1 ti44 rfl (.lp _ _ _ rfl) rfl) ?_
      refine sv rfl (opv_len_sl si44 rfl) ?_
      refine sv rfl (opv_lss rfl rfl) ?_
      refine snil ?_
      refine ccond rfl (fun hc => ?_) (fun hc => ?_)
      · replace h := ite_t hc h
        clear hc
        refine cskip ?_
        refine then_normal ?_
        refine cseq ?_
        refine cblock ?_
        refine cseq ?_
        refine cregion ?_
        refine sv rfl (opv_mv rfl) ?_
        refine sv rfl (opv_fieldAddr_lp fi46_6 rfl) ?_
        refine sv rfl (opv_load1 ti44 rfl (.lp _ _ _ rfl) rfl) ?_
        refine sv rfl (opv_mv rfl) ?_
        obtain ⟨u12, hu12, h⟩ := bind_eq h
        refine sv rfl (opv_ix (f := eGApiKV) si44 (fun _ => rfl) rfl rfl rfl rfl hu12) ?_
        refine sv rfl (opv_fieldAddr_cp fi93_0 rfl) ?_
        refine sv rfl (opv_load1 ti22 rfl (.cp _) rfl) ?_
        obtain ⟨v13, hv13, h⟩ := bind_eq h
        refine scall1 rfl fn42 (opnds_cons rfl (opnds_cons rfl opnds_nil)) (pubA_id rfl) (m42_r01_List_c hv13) ?_
        refine sv rfl (opv_as rfl) ?_
        refine snil ?_
        refine cregion ?_
        refine sv rfl (opv_mv rfl) ?_
        refine sv rfl (opv_fieldAddr_lp fi46_6 rfl) ?_
        refine sv rfl (opv_load1 ti44 rfl (.lp _ _ _ rfl) rfl) ?_
        refine sv rfl (opv_mv rfl) ?_
        obtain ⟨u14, hu14, h⟩ := bind_eq h
        refine sv rfl (opv_ix (f := eGApiKV) si44 (fun _ => rfl) rfl rfl rfl rfl hu14) ?_
        refine sv rfl (opv_fieldAddr_cp fi93_1 rfl) ?_
        refine sv rfl (opv_load1 ti22 rfl (.cp _) rfl) ?_
        obtain ⟨v15, hv15, h⟩ := bind_eq h
        refine scall1 rfl fn42 (opnds_cons rfl (opnds_cons rfl opnds_nil)) (pubA_id rfl) (m42_r01_List_c hv15) ?_
        refine sv rfl (opv_as rfl) ?_
        refine snil0 ?_
        refine block_normal ?_
        refine then_normal ?_
        refine cregion ?_
        refine sv rfl (opv_mv rfl) ?_
        refine sv rfl (opv_add rfl rfl) ?_
        refine sv rfl (opv_as rfl) ?_
        refine snil ?_
        obtain rfl := Option.some.inj h
        exact ⟨(n11, (v15, (wI (s11.2 + 1)))), _, hk11, ⟨rfl, rfl, rfl, trivial⟩, rfl, Nat.lt_succ_self _⟩
      · replace h := ite_f hc h
        clear hc
        refine cexit ?_
        refine then_exit ?_
        refine then_exit ?_
        refine block_hit ?_
        refine then_normal ?_
        obtain rfl := Option.some.inj h
        obtain rfl : _ = x11 := hk11
        exact ⟨s11.1, _, ho11, ⟨rfl, trivial⟩, rfl⟩

def m63_bytes_Equal (a0 : List UInt8) (a1 : List UInt8) : Option Bool :=
  some (a0 == a1)

set_option maxRecDepth 100000 in
theorem m63_bytes_Equal_c {a0 : List UInt8} {a1 : List UInt8} {r : Bool} (h : m63_bytes_Equal a0 a1 = some r) : CallsA Tryd.prog 63 [.one (.sl a0.length (a0.flatMap eU8)), .one (.sl a1.length (a1.flatMap eU8))] (· = .s (.one (.b r))) := by
  unfold m63_bytes_Equal at h
  refine callsA_of Tryd.func63 rfl (nt := 10) rfl (Nat.le_of_ble_eq_true rfl) ?_
  intro w0 S0
  refine cseq ?_
  refine cregion ?_
  refine sv rfl (opv_as rfl) ?_
  refine snil ?_
  refine cseq ?_
  refine cregion ?_
  refine sv rfl (opv_mv rfl) ?_
  refine sv rfl (opv_bs (l := a0) Tryd.underlying22 Tryd.underlying5 Tryd.underlying9 rfl rfl rfl) ?_
  refine sv rfl (opv_mv rfl) ?_
  refine sv rfl (opv_bs (l := a1) Tryd.underlying22 Tryd.underlying5 Tryd.underlying9 rfl rfl rfl) ?_
  refine sv rfl (opv_seql' rfl rfl) ?_
  refine sv rfl (opv_as rfl) ?_
  refine snil ?_
  refine cret ?_
  obtain rfl := Option.some.inj h
  refine ⟨Or.inr rfl, _, _, _, (resVs_cons (ResV.tmp _ _ rfl) resVs_nil), (pubA_id rfl), ?_⟩
  rfl

def m64_msg_sameRange (a0 : GApiRange) (a1 : GApiRange) : Option Bool :=
  if (a0.Open == a1.Open) then ((m63_bytes_Equal a0.Lo a1.Lo).bind fun v1 => if v1 then ((m63_bytes_Equal a0.Hi a1.Hi).bind fun v2 => some v2) else (some false)) else (some false)

set_option maxRecDepth 100000 in
theorem m64_msg_sameRange_c {a0 : GApiRange} {a1 : GApiRange} {r : Bool} (h : m64_msg_sameRange a0 a1 = some r) : CallsA Tryd.prog 64 [.agg [.sl a0.Lo.length (a0.Lo.flatMap eU8), .sl a0.Hi.length (a0.Hi.flatMap eU8), .b a0.Open], .agg [.sl a1.Lo.length (a1.Lo.flatMap eU8), .sl a1.Hi.length (a1.Hi.flatMap eU8), .b a1.Open]] (· = .s (.one (.b r))) := by
  unfold m64_msg_sameRange at h
  refine callsA_of Tryd.func64 rfl (nt := 24) rfl (Nat.le_of_ble_eq_true rfl) ?_
  intro w0 S0
  refine cseq ?_
  refine cregion ?_
  refine sbox rfl rfl ?_
  refine sbox rfl rfl ?_
  refine sv rfl (opv_as rfl) ?_
  refine snil ?_
  refine cseq ?_
  refine cregion ?_
  refine sv rfl (opv_fieldAddr_lp fi24_2 rfl) ?_
  refine sv rfl (opv_load1 ti4 rfl (.lp _ _ _ rfl) rfl) ?_
  refine sv rfl (opv_fieldAddr_lp fi24_2 rfl) ?_
  refine sv rfl (opv_load1 ti4 rfl (.lp _ _ _ rfl) rfl) ?_
  refine sv rfl (opv_beql Tryd.underlying4 rfl rfl) ?_
  refine sv rfl (opv_mv rfl) ?_
  refine ssplit 10 rfl (fun hc => ?_) (fun hc => ?_)
  · replace h := ite_t hc h
    clear hc
    refine son rfl rfl rfl ?_
    refine sv rfl (opv_fieldAddr_lp fi24_0 rfl) ?_
    refine son rfl rfl rfl ?_
    refine sv rfl (opv_load1 ti22 rfl (.lp _ _ _ rfl) rfl) ?_
    refine son rfl rfl rfl ?_
    refine sv rfl (opv_fieldAddr_lp fi24_0 rfl) ?_
    refine son rfl rfl rfl ?_
    refine sv rfl (opv_load1 ti22 rfl (.lp _ _ _ rfl) rfl) ?_
    refine son rfl rfl rfl ?_
    obtain ⟨v1, hv1, h⟩ := bind_eq h
    refine scall1 rfl fn63 (opnds_cons rfl (opnds_cons rfl opnds_nil)) (pubA_id rfl) (m63_bytes_Equal_c hv1) ?_
    refine sv rfl (opv_pick_t rfl rfl) ?_
    refine sv rfl (opv_mv rfl) ?_
    refine ssplit 17 rfl (fun hc => ?_) (fun hc => ?_)
    · replace h := ite_t hc h
      clear hc
      refine son rfl rfl rfl ?_
      refine sv rfl (opv_fieldAddr_lp fi24_1 rfl) ?_
      refine son rfl rfl rfl ?_
      refine sv rfl (opv_load1 ti22 rfl (.lp _ _ _ rfl) rfl) ?_
      refine son rfl rfl rfl ?_
      refine sv rfl (opv_fieldAddr_lp fi24_1 rfl) ?_
      refine son rfl rfl rfl ?_
      refine sv rfl (opv_load1 ti22 rfl (.lp _ _ _ rfl) rfl) ?_
      refine son rfl rfl rfl ?_
      obtain ⟨v2, hv2, h⟩ := bind_eq h
      refine scall1 rfl fn63 (opnds_cons rfl (opnds_cons rfl opnds_nil)) (pubA_id rfl) (m63_bytes_Equal_c hv2) ?_
      refine sv rfl (opv_pick_t rfl rfl) ?_
      refine sv rfl (opv_as rfl) ?_
      refine snil ?_
      refine cret ?_
      obtain rfl := Option.some.inj h
      refine ⟨Or.inr rfl, _, _, _, (resVs_cons (ResV.tmp _ _ rfl) resVs_nil), (pubA_id rfl), ?_⟩
      rfl
    · replace h := ite_f hc h
      clear hc
      refine soff rfl rfl rfl rfl ?_
      refine soff rfl rfl rfl rfl ?_
      refine soff rfl rfl rfl rfl ?_
      refine soff rfl rfl rfl rfl ?_
      refine soff rfl rfl rfl rfl ?_
      refine sv rfl (opv_pick_f rfl rfl) ?_
      refine sv rfl (opv_as rfl) ?_
      refine snil ?_
      refine cret ?_
      obtain rfl := Option.some.inj h
      refine ⟨Or.inr rfl, _, _, _, (resVs_cons (ResV.tmp _ _ rfl) resVs_nil), (pubA_id rfl), ?_⟩
      rfl
  · replace h := ite_f hc h
    clear hc
    refine soff rfl rfl rfl rfl ?_
    refine soff rfl rfl rfl rfl ?_
    refine soff rfl rfl rfl rfl ?_
    refine soff rfl rfl rfl rfl ?_
    refine soff rfl rfl rfl rfl ?_
    refine sv rfl (opv_pick_f rfl rfl) ?_
    refine sv rfl (opv_mv rfl) ?_
    refine soff rfl rfl rfl rfl ?_
    refine soff rfl rfl rfl rfl ?_
    refine soff rfl rfl rfl rfl ?_
    refine soff rfl rfl rfl rfl ?_
    refine soff rfl rfl rfl rfl ?_
    refine sv rfl (opv_pick_f rfl rfl) ?_
    refine sv rfl (opv_as rfl) ?_
    refine snil ?_
    refine cret ?_
    obtain rfl := Option.some.inj h
    refine ⟨Or.inr rfl, _, _, _, (resVs_cons (ResV.tmp _ _ rfl) resVs_nil), (pubA_id rfl), ?_⟩
    rfl

def m20_msg_SameReq (a0 : GMsgReq) (a1 : GMsgReq) : Option Bool :=
  if (decide (a0.Kind = a1.Kind)) then (if (decide (a0.Seq = a1.Seq)) then (if (decide (a0.Token = a1.Token)) then (if (decide (a0.Attempt = a1.Attempt)) then (if (a0.RO == a1.RO) then ((m63_bytes_Equal a0.Key a1.Key).bind fun v1 => if v1 then ((m63_bytes_Equal a0.Val a1.Val).bind fun v2 => if v2 then ((m64_msg_sameRange (GApiRange.mk a0.Rng.Lo a0.Rng.Hi a0.Rng.Open) (GApiRange.mk a1.Rng.Lo a1.Rng.Hi a1.Rng.Open)).bind fun v3 => some v3) else (some false)) else (some false)) else (some false)) else (some false)) else (some false)) else (some false)) else (some false)

set_option maxRecDepth 100000 in
theorem m20_msg_SameReq_c {a0 : GMsgReq} {a1 : GMsgReq} {r : Bool} (h : m20_msg_SameReq a0 a1 = some r) : CallsA Tryd.prog 20 [.agg [.i .i64 a0.Kind, .i .i64 a0.Seq, .i .i64 a0.Token, .i .i64 a0.Attempt, .b a0.RO, .sl a0.Key.length (a0.Key.flatMap eU8), .sl a0.Val.length (a0.Val.flatMap eU8), .sl a0.Rng.Lo.length (a0.Rng.Lo.flatMap eU8), .sl a0.Rng.Hi.length (a0.Rng.Hi.flatMap eU8), .b a0.Rng.Open], .agg [.i .i64 a1.Kind, .i .i64 a1.Seq, .i .i64 a1.Token, .i .i64 a1.Attempt, .b a1.RO, .sl a1.Key.length (a1.Key.flatMap eU8), .sl a1.Val.length (a1.Val.flatMap eU8), .sl a1.Rng.Lo.length (a1.Rng.Lo.flatMap eU8), .sl a1.Rng.Hi.length (a1.Rng.Hi.flatMap eU8), .b a1.Rng.Open]] (· = .s (.one (.b r))) := by
  unfold m20_msg_SameReq at h
  refine callsA_of Tryd.func20 rfl (nt := 59) rfl (Nat.le_of_ble_eq_true rfl) ?_
  intro w0 S0
  refine cseq ?_
  refine cregion ?_
  refine sbox rfl rfl ?_
  refine sbox rfl rfl ?_
  refine sv rfl (opv_as rfl) ?_
  refine snil ?_
  refine cseq ?_
  refine cregion ?_
  refine sv rfl (opv_fieldAddr_lp fi32_0 rfl) ?_
  refine sv rfl (opv_load1 ti3 rfl (.lp _ _ _ rfl) rfl) ?_
  refine sv rfl (opv_fieldAddr_lp fi32_0 rfl) ?_
  refine sv rfl (opv_load1 ti3 rfl (.lp _ _ _ rfl) rfl) ?_
  refine sv rfl (opv_ieql rfl rfl) ?_
  refine sv rfl (opv_mv rfl) ?_
  refine ssplit 10 rfl (fun hc => ?_) (fun hc => ?_)
  · replace h := ite_t hc h
    clear hc
    refine son rfl rfl rfl ?_
    refine sv rfl (opv_fieldAddr_lp fi32_1 rfl) ?_
    refine son rfl rfl rfl ?_
    refine sv rfl (opv_load1 ti3 rfl (.lp _ _ _ rfl) rfl) ?_
    refine son rfl rfl rfl ?_
    refine sv rfl (opv_fieldAddr_lp fi32_1 rfl) ?_
    refine son rfl rfl rfl ?_
    refine sv rfl (opv_load1 ti3 rfl (.lp _ _ _ rfl) rfl) ?_
    refine son rfl rfl rfl ?_
    refine sv rfl (opv_ieql rfl rfl) ?_
    refine sv rfl (opv_pick_t rfl rfl) ?_
    refine sv rfl (opv_mv rfl) ?_
    refine ssplit 17 rfl (fun hc => ?_) (fun hc => ?_)
    · replace h := ite_t hc h
      clear hc
      refine son rfl rfl rfl ?_
      refine sv rfl (opv_fieldAddr_lp fi32_2 rfl) ?_
      refine son rfl rfl rfl ?_
      refine sv rfl (opv_load1 ti3 rfl (.lp _ _ _ rfl) rfl) ?_
      refine son rfl rfl rfl ?_
      refine sv rfl (opv_fieldAddr_lp fi32_2 rfl) ?_
      refine son rfl rfl rfl ?_
      refine sv rfl (opv_load1 ti3 rfl (.lp _ _ _ rfl) rfl) ?_
      refine son rfl rfl rfl ?_
      refine sv rfl (opv_ieql rfl rfl) ?_
      refine sv rfl (opv_pick_t rfl rfl) ?_
      refine sv rfl (opv_mv rfl) ?_
      refine ssplit 24 rfl (fun hc => ?_) (fun hc => ?_)
      · replace h := ite_t hc h
        clear hc
        refine son rfl rfl rfl ?_
        refine sv rfl (opv_fieldAddr_lp fi32_3 rfl) ?_
        refine son rfl rfl rfl ?_
        refine sv rfl (opv_load1 ti3 rfl (.lp _ _ _ rfl) rfl) ?_
        refine son rfl rfl rfl ?_
        refine sv rfl (opv_fieldAddr_lp fi32_3 rfl) ?_
        refine son rfl rfl rfl ?_
        refine sv rfl (opv_load1 ti3 rfl (.lp _ _ _ rfl) rfl) ?_
        refine son rfl rfl rfl ?_
        refine sv rfl (opv_ieql rfl rfl) ?_
        refine sv rfl (opv_pick_t rfl rfl) ?_
        refine sv rfl (opv_mv rfl) ?_
        refine ssplit 31 rfl (fun hc => ?_) (fun hc => ?_)
        · replace h := ite_t hc h
          clear hc
          refine son rfl rfl rfl ?_
          refine sv rfl (opv_fieldAddr_lp fi32_4 rfl) ?_
          refine son rfl rfl rfl ?_
          refine sv rfl (opv_load1 ti4 rfl (.lp _ _ _ rfl) rfl) ?_
          refine son rfl rfl rfl ?_
          refine sv rfl (opv_fieldAddr_lp fi32_4 rfl) ?_
          refine son rfl rfl rfl ?_
          refine sv rfl (opv_load1 ti4 rfl (.lp _ _ _ rfl) rfl) ?_
          refine son rfl rfl rfl ?_
          refine sv rfl (opv_beql Tryd.underlying4 rfl rfl) ?_
          refine sv rfl (opv_pick_t rfl rfl) ?_
          refine sv rfl (opv_mv rfl) ?_
          refine ssplit 38 rfl (fun hc => ?_) (fun hc => ?_)
          · replace h := ite_t hc h
            clear hc
            refine son rfl rfl rfl ?_
            refine sv rfl (opv_fieldAddr_lp fi32_5 rfl) ?_
            refine son rfl rfl rfl ?_
            refine sv rfl (opv_load1 ti22 rfl (.lp _ _ _ rfl) rfl) ?_
            refine son rfl rfl rfl ?_
            refine sv rfl (opv_fieldAddr_lp fi32_5 rfl) ?_
            refine son rfl rfl rfl ?_
            refine sv rfl (opv_load1 ti22 rfl (.lp _ _ _ rfl) rfl) ?_
            refine son rfl rfl rfl ?_
            obtain ⟨v1, hv1, h⟩ := bind_eq h
            refine scall1 rfl fn63 (opnds_cons rfl (opnds_cons rfl opnds_nil)) (pubA_id rfl) (m63_bytes_Equal_c hv1) ?_
            refine sv rfl (opv_pick_t rfl rfl) ?_
            refine sv rfl (opv_mv rfl) ?_
            refine ssplit 45 rfl (fun hc => ?_) (fun hc => ?_)
            · replace h := ite_t hc h
              clear hc
              refine son rfl rfl rfl ?_
              refine sv rfl (opv_fieldAddr_lp fi32_6 rfl) ?_
              refine son rfl rfl rfl ?_
              refine sv rfl (opv_load1 ti22 rfl (.lp _ _ _ rfl) rfl) ?_
              refine son rfl rfl rfl ?_
              refine sv rfl (opv_fieldAddr_lp fi32_6 rfl) ?_
              refine son rfl rfl rfl ?_
              refine sv rfl (opv_load1 ti22 rfl (.lp _ _ _ rfl) rfl) ?_
              refine son rfl rfl rfl ?_
              obtain ⟨v2, hv2, h⟩ := bind_eq h
              refine scall1 rfl fn63 (opnds_cons rfl (opnds_cons rfl opnds_nil)) (pubA_id rfl) (m63_bytes_Equal_c hv2) ?_
              refine sv rfl (opv_pick_t rfl rfl) ?_
              refine sv rfl (opv_mv rfl) ?_
              refine ssplit 52 rfl (fun hc => ?_) (fun hc => ?_)
              · replace h := ite_t hc h
                clear hc
                refine son rfl rfl rfl ?_
                refine sv rfl (opv_fieldAddr_lp fi32_7 rfl) ?_
                refine son rfl rfl rfl ?_
                refine sv rfl (opv_loadN ti24 rfl (.lp _ _ _ rfl) (Nat.le_of_ble_eq_true rfl)) ?_
                refine son rfl rfl rfl ?_
                refine sv rfl (opv_fieldAddr_lp fi32_7 rfl) ?_
                refine son rfl rfl rfl ?_
                refine sv rfl (opv_loadN ti24 rfl (.lp _ _ _ rfl) (Nat.le_of_ble_eq_true rfl)) ?_
                refine son rfl rfl rfl ?_
                obtain ⟨v3, hv3, h⟩ := bind_eq h
                refine scall1 rfl fn64 (opnds_cons rfl (opnds_cons rfl opnds_nil)) (pubA_id rfl) (m64_msg_sameRange_c hv3) ?_
                refine sv rfl (opv_pick_t rfl rfl) ?_
                refine sv rfl (opv_as rfl) ?_
                refine snil ?_
                refine cret ?_
                obtain rfl := Option.some.inj h
                refine ⟨Or.inr rfl, _, _, _, (resVs_cons (ResV.tmp _ _ rfl) resVs_nil), (pubA_id rfl), ?_⟩
                rfl
              · replace h := ite_f hc h
                clear hc
                refine soff rfl rfl rfl rfl ?_
                refine soff rfl rfl rfl rfl ?_
                refine soff rfl rfl rfl rfl ?_
                refine soff rfl rfl rfl rfl ?_
                refine soff rfl rfl rfl rfl ?_
                refine sv rfl (opv_pick_f rfl rfl) ?_
                refine sv rfl (opv_as rfl) ?_
                refine snil ?_
                refine cret ?_
                obtain rfl := Option.some.inj h
                refine ⟨Or.inr rfl, _, _, _, (resVs_cons (ResV.tmp _ _ rfl) resVs_nil), (pubA_id rfl), ?_⟩
                rfl
            · replace h := ite_f hc h
              clear hc
              refine soff rfl rfl rfl rfl ?_
              refine soff rfl rfl rfl rfl ?_
              refine soff rfl rfl rfl rfl ?_
              refine soff rfl rfl rfl rfl ?_
              refine soff rfl rfl rfl rfl ?_
              refine sv rfl (opv_pick_f rfl rfl) ?_
              refine sv rfl (opv_mv rfl) ?_
              refine soff rfl rfl rfl rfl ?_
              refine soff rfl rfl rfl rfl ?_
              refine soff rfl rfl rfl rfl ?_
              refine soff rfl rfl rfl rfl ?_
              refine soff rfl rfl rfl rfl ?_
              refine sv rfl (opv_pick_f rfl rfl) ?_
              refine sv rfl (opv_as rfl) ?_
              refine snil ?_
              refine cret ?_
              obtain rfl := Option.some.inj h
              refine ⟨Or.inr rfl, _, _, _, (resVs_cons (ResV.tmp _ _ rfl) resVs_nil), (pubA_id rfl), ?_⟩
              rfl
          · replace h := ite_f hc h
            clear hc
            refine soff rfl rfl rfl rfl ?_
            refine soff rfl rfl rfl rfl ?_
            refine soff rfl rfl rfl rfl ?_
            refine soff rfl rfl rfl rfl ?_
            refine soff rfl rfl rfl rfl ?_
            refine sv rfl (opv_pick_f rfl rfl) ?_
            refine sv rfl (opv_mv rfl) ?_
            refine soff rfl rfl rfl rfl ?_
            refine soff rfl rfl rfl rfl ?_
            refine soff rfl rfl rfl rfl ?_
            refine soff rfl rfl rfl rfl ?_
            refine soff rfl rfl rfl rfl ?_
            refine sv rfl (opv_pick_f rfl rfl) ?_
            refine sv rfl (opv_mv rfl) ?_
            refine soff rfl rfl rfl rfl ?_
            refine soff rfl rfl rfl rfl ?_
            refine soff rfl rfl rfl rfl ?_
            refine soff rfl rfl rfl rfl ?_
            refine soff rfl rfl rfl rfl ?_
            refine sv rfl (opv_pick_f rfl rfl) ?_
            refine sv rfl (opv_as rfl) ?_
            refine snil ?_
            refine cret ?_
            obtain rfl := Option.some.inj h
            refine ⟨Or.inr rfl, _, _, _, (resVs_cons (ResV.tmp _ _ rfl) resVs_nil), (pubA_id rfl), ?_⟩
            rfl
        · replace h := ite_f hc h
          clear hc
          refine soff rfl rfl rfl rfl ?_
          refine soff rfl rfl rfl rfl ?_
          refine soff rfl rfl rfl rfl ?_
          refine soff rfl rfl rfl rfl ?_
          refine soff rfl rfl rfl rfl ?_
          refine sv rfl (opv_pick_f rfl rfl) ?_
          refine sv rfl (opv_mv rfl) ?_
          refine soff rfl rfl rfl rfl ?_
          refine soff rfl rfl rfl rfl ?_
          refine soff rfl rfl rfl rfl ?_
          refine soff rfl rfl rfl rfl ?_
          refine soff rfl rfl rfl rfl ?_
          refine sv rfl (opv_pick_f rfl rfl) ?_
          refine sv rfl (opv_mv rfl) ?_
          refine soff rfl rfl rfl rfl ?_
          refine soff rfl rfl rfl rfl ?_
          refine soff rfl rfl rfl rfl ?_
          refine soff rfl rfl rfl rfl ?_
          refine soff rfl rfl rfl rfl ?_
          refine sv rfl (opv_pick_f rfl rfl) ?_
          refine sv rfl (opv_mv rfl) ?_
          refine soff rfl rfl rfl rfl ?_
          refine soff rfl rfl rfl rfl ?_
          refine soff rfl rfl rfl rfl ?_
          refine soff rfl rfl rfl rfl ?_
          refine soff rfl rfl rfl rfl ?_
          refine sv rfl (opv_pick_f rfl rfl) ?_
          refine sv rfl (opv_as rfl) ?_
          refine snil ?_
          refine cret ?_
          obtain rfl := Option.some.inj h
          refine ⟨Or.inr rfl, _, _, _, (resVs_cons (ResV.tmp _ _ rfl) resVs_nil), (pubA_id rfl), ?_⟩
          rfl
      · replace h := ite_f hc h
        clear hc
        refine soff rfl rfl rfl rfl ?_
        refine soff rfl rfl rfl rfl ?_
        refine soff rfl rfl rfl rfl ?_
        refine soff rfl rfl rfl rfl ?_
        refine soff rfl rfl rfl rfl ?_
        refine sv rfl (opv_pick_f rfl rfl) ?_
        refine sv rfl (opv_mv rfl) ?_
        refine soff rfl rfl rfl rfl ?_
        refine soff rfl rfl rfl rfl ?_
        refine soff rfl rfl rfl rfl ?_
        refine soff rfl rfl rfl rfl ?_
        refine soff rfl rfl rfl rfl ?_
        refine sv rfl (opv_pick_f rfl rfl) ?_
        refine sv rfl (opv_mv rfl) ?_
        refine soff rfl rfl rfl rfl ?_
        refine soff rfl rfl rfl rfl ?_
        refine soff rfl rfl rfl rfl ?_
        refine soff rfl rfl rfl rfl ?_
        refine soff rfl rfl rfl rfl ?_
        refine sv rfl (opv_pick_f rfl rfl) ?_
        refine sv rfl (opv_mv rfl) ?_
        refine soff rfl rfl rfl rfl ?_
        refine soff rfl rfl rfl rfl ?_
        refine soff rfl rfl rfl rfl ?_
        refine soff rfl rfl rfl rfl ?_
        refine soff rfl rfl rfl rfl ?_
        refine sv rfl (opv_pick_f rfl rfl) ?_
        refine sv rfl (opv_mv rfl) ?_
        refine soff rfl rfl rfl rfl ?_
        refine soff rfl rfl rfl rfl ?_
        refine soff rfl rfl rfl rfl ?_
        refine soff rfl rfl rfl rfl ?_
        refine soff rfl rfl rfl rfl ?_
        refine sv rfl (opv_pick_f rfl rfl) ?_
        refine sv rfl (opv_as rfl) ?_
        refine snil ?_
        refine cret ?_
        obtain rfl := Option.some.inj h
        refine ⟨Or.inr rfl, _, _, _, (resVs_cons (ResV.tmp _ _ rfl) resVs_nil), (pubA_id rfl), ?_⟩
        rfl
    · replace h := ite_f hc h
      clear hc
      refine soff rfl rfl rfl rfl ?_
      refine soff rfl rfl rfl rfl ?_
      refine soff rfl rfl rfl rfl ?_
      refine soff rfl rfl rfl rfl ?_
      refine soff rfl rfl rfl rfl ?_
      refine sv rfl (opv_pick_f rfl rfl) ?_
      refine sv rfl (opv_mv rfl) ?_
      refine soff rfl rfl rfl rfl ?_
      refine soff rfl rfl rfl rfl ?_
      refine soff rfl rfl rfl rfl ?_
      refine soff rfl rfl rfl rfl ?_
      refine soff rfl rfl rfl rfl ?_
      refine sv rfl (opv_pick_f rfl rfl) ?_
      refine sv rfl (opv_mv rfl) ?_
      refine soff rfl rfl rfl rfl ?_
      refine soff rfl rfl rfl rfl ?_
      refine soff rfl rfl rfl rfl ?_
      refine soff rfl rfl rfl rfl ?_
      refine soff rfl rfl rfl rfl ?_
      refine sv rfl (opv_pick_f rfl rfl) ?_
      refine sv rfl (opv_mv rfl) ?_
      refine soff rfl rfl rfl rfl ?_
      refine soff rfl rfl rfl rfl ?_
      refine soff rfl rfl rfl rfl ?_
      refine soff rfl rfl rfl rfl ?_
      refine soff rfl rfl rfl rfl ?_
      refine sv rfl (opv_pick_f rfl rfl) ?_
      refine sv rfl (opv_mv rfl) ?_
      refine soff rfl rfl rfl rfl ?_
      refine soff rfl rfl rfl rfl ?_
      refine soff rfl rfl rfl rfl ?_
      refine soff rfl rfl rfl rfl ?_
      refine soff rfl rfl rfl rfl ?_
      refine sv rfl (opv_pick_f rfl rfl) ?_
      refine sv rfl (opv_mv rfl) ?_
      refine soff rfl rfl rfl rfl ?_
      refine soff rfl rfl rfl rfl ?_
      refine soff rfl rfl rfl rfl ?_
      refine soff rfl rfl rfl rfl ?_
      refine soff rfl rfl rfl rfl ?_
      refine sv rfl (opv_pick_f rfl rfl) ?_
      refine sv rfl (opv_as rfl) ?_
      refine snil ?_
      refine cret ?_
      obtain rfl := Option.some.inj h
      refine ⟨Or.inr rfl, _, _, _, (resVs_cons (ResV.tmp _ _ rfl) resVs_nil), (pubA_id rfl), ?_⟩
      rfl
  · replace h := ite_f hc h
    clear hc
    refine soff rfl rfl rfl rfl ?_
    refine soff rfl rfl rfl rfl ?_
    refine soff rfl rfl rfl rfl ?_
    refine soff rfl rfl rfl rfl ?_
    refine soff rfl rfl rfl rfl ?_
    refine sv rfl (opv_pick_f rfl rfl) ?_
    refine sv rfl (opv_mv rfl) ?_
    refine soff rfl rfl rfl rfl ?_
    refine soff rfl rfl rfl rfl ?_
    refine soff rfl rfl rfl rfl ?_
    refine soff rfl rfl rfl rfl ?_
    refine soff rfl rfl rfl rfl ?_
    refine sv rfl (opv_pick_f rfl rfl) ?_
    refine sv rfl (opv_mv rfl) ?_
    refine soff rfl rfl rfl rfl ?_
    refine soff rfl rfl rfl rfl ?_
    refine soff rfl rfl rfl rfl ?_
    refine soff rfl rfl rfl rfl ?_
    refine soff rfl rfl rfl rfl ?_
    refine sv rfl (opv_pick_f rfl rfl) ?_
    refine sv rfl (opv_mv rfl) ?_
    refine soff rfl rfl rfl rfl ?_
    refine soff rfl rfl rfl rfl ?_
    refine soff rfl rfl rfl rfl ?_
    refine soff rfl rfl rfl rfl ?_
    refine soff rfl rfl rfl rfl ?_
    refine sv rfl (opv_pick_f rfl rfl) ?_
    refine sv rfl (opv_mv rfl) ?_
    refine soff rfl rfl rfl rfl ?_
    refine soff rfl rfl rfl rfl ?_
    refine soff rfl rfl rfl rfl ?_
    refine soff rfl rfl rfl rfl ?_
    refine soff rfl rfl rfl rfl ?_
    refine sv rfl (opv_pick_f rfl rfl) ?_
    refine sv rfl (opv_mv rfl) ?_
    refine soff rfl rfl rfl rfl ?_
    refine soff rfl rfl rfl rfl ?_
    refine soff rfl rfl rfl rfl ?_
    refine soff rfl rfl rfl rfl ?_
    refine soff rfl rfl rfl rfl ?_
    refine sv rfl (opv_pick_f rfl rfl) ?_
    refine sv rfl (opv_mv rfl) ?_
    refine soff rfl rfl rfl rfl ?_
    refine soff rfl rfl rfl rfl ?_
    refine soff rfl rfl rfl rfl ?_
    refine soff rfl rfl rfl rfl ?_
    refine soff rfl rfl rfl rfl ?_
    refine sv rfl (opv_pick_f rfl rfl) ?_
    refine sv rfl (opv_as rfl) ?_
    refine snil ?_
    refine cret ?_
    obtain rfl := Option.some.inj h
    refine ⟨Or.inr rfl, _, _, _, (resVs_cons (ResV.tmp _ _ rfl) resVs_nil), (pubA_id rfl), ?_⟩
    rfl

def m31_msg_SameReply_k1 (a0 : GMsgReply) (a1 : GMsgReply) (b1 : Unit) : Option Bool :=
  if (decide (a0.Kind = a1.Kind)) then (if (decide (a0.Seq = a1.Seq)) then (if (decide (a0.Code = a1.Code)) then (if (decide (a0.N = a1.N)) then (if (a0.Found == a1.Found) then ((m63_bytes_Equal a0.Val a1.Val).bind fun v2 => some v2) else (some false)) else (some false)) else (some false)) else (some false)) else (some false)

def m31_msg_SameReply_s3 (a0 : GMsgReply) (a1 : GMsgReply) (s3 : Int) : Option (LR (Int) (Unit) (Bool)) :=
  if (decide (s3 < (a0.List.length : Int))) then ((idx a0.List s3).bind fun u4 => (idx a1.List s3).bind fun u5 => (m63_bytes_Equal u4.Key u5.Key).bind fun v6 => if (!v6) then (some (.ret false)) else ((idx a1.List s3).bind fun u7 => (m63_bytes_Equal u4.Val u7.Val).bind fun v8 => if (!v8) then (some (.ret false)) else (some (.cont (wI (s3 + 1)))))) else (some (.brk ()))
end Go.Proofs.YtljkjkkpogkgbaaDoor.Abs
