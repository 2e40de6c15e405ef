/-
  t
-/
import Derived.Test.YtoajiidocnoopaaT24a
namespace Go.Proofs.Ytoajiidocnoopaa.Abs
open Go.RowKit Go.Proofs
def m3_l24_SerialOrder (a0 : List GR24Tx) : Option Bool :=
  (m6_l24_awake).bind fun v1 => (m7_l24_few a0).bind fun v32 => if (!v32) then (some v1) else ((m9_l24_ours a0).bind fun v33 => (m8_serial_Sane v33).bind fun v34 => if (!v34) then (some v1) else (m3_l24_SerialOrder_k2 a0 v1 ()))

set_option maxRecDepth 100000 in
theorem m3_l24_SerialOrder_c {a0 : List GR24Tx} {r : Bool} (h : m3_l24_SerialOrder a0 = some r) : CallsA Try.prog 3 [.one (.sl a0.length (a0.flatMap eGR24Tx))] (· = .s (.one (.b r))) := by
  unfold m3_l24_SerialOrder at h
  refine callsA_of Try.func3 rfl (nt := 149) rfl (Nat.le_of_ble_eq_true rfl) ?_
  intro w0 S0
  refine cseq ?_
  refine cregion ?_
  refine sv rfl (opv_as rfl) ?_
  refine snil ?_
  refine cseq ?_
  refine cregion ?_
  obtain ⟨v1, hv1, h⟩ := bind_eq h
  refine scall1 rfl fn6 opnds_nil (pubA_id rfl) (m6_l24_awake_c hv1) ?_
  refine sv rfl (opv_as rfl) ?_
  refine snil ?_
  refine cseq ?_
  refine cseq ?_
  refine cjoin3 (Unit) (fun b2 => [(0, .s (.one (.sl a0.length (a0.flatMap eGR24Tx)))), (3, .s (.one (.b v1)))]) (fun b2 => []) (fun b2 => m3_l24_SerialOrder_k2 a0 v1 b2 = some r) (fun _ _ => inbL_of rfl) (fun _ _ => blkinb_of rfl) (fun _ _ => Nat.le_of_ble_eq_true rfl) (fun b2 h => ?_) ?_
  · unfold m3_l24_SerialOrder_k2 at h
    refine cseq ?_
    refine cregion ?_
    refine sv rfl (opv_mv rfl) ?_
    obtain ⟨v3, hv3, h⟩ := bind_eq h
    refine scall1 rfl fn9 (opnds_cons rfl opnds_nil) (pubA_id rfl) (m9_l24_ours_c hv3) ?_
    refine sv rfl (opv_as rfl) ?_
    refine snil ?_
    refine cseq ?_
    refine cregion ?_
    refine sv rfl (opv_mv rfl) ?_
    obtain ⟨v4, hv4, h⟩ := bind_eq h
    refine scall1 rfl fn10 (opnds_cons rfl opnds_nil) (pubA_id rfl) (m10_serial_Order_c hv4) ?_
    refine sv rfl (opv_mvt rfl) ?_
    refine sv rfl (opv_extract rfl rfl) ?_
    refine sv rfl (opv_extract rfl rfl) ?_
    refine sv rfl (opv_as rfl) ?_
    refine sv rfl (opv_as rfl) ?_
    refine snil ?_
    refine cseq ?_
    refine cregion ?_
    refine sv rfl (opv_mv rfl) ?_
    refine sv rfl (opv_len_sl si26 rfl) ?_
    obtain ⟨hm5, h⟩ := chk_eq h
    refine smk (f := eI) (z := (0 : Int)) rfl Try.underlying28 ei3 (fun _ => rfl) rfl rfl rfl hm5 (by decide) ?_
    refine sv rfl (opv_as rfl) ?_
    refine snil ?_
    refine cseq ?_
    refine cseq ?_
    refine cregion ?_
    refine sv rfl (opv_as rfl) ?_
    refine snil ?_
    refine cjoin ((List Int)) (fun b6 => [(3, .s (.one (.b v1))), (4, .s (.one (.sl v3.length (v3.flatMap eGSerialTx)))), (5, .s (.one (.sl v4.1.length (v4.1.flatMap eI)))), (6, .s (.one (.b v4.2))), (7, .s (.one (.ls 0 b6.length)))]) (fun b6 => [.arr 3 1 0 (b6.flatMap eI)]) (fun b6 => m3_l24_SerialOrder_k6 v1 v3 v4 b6 = some r) (fun _ _ => inbL_of rfl) (fun _ _ => blkinb_of rfl) (fun _ _ => Nat.le_of_ble_eq_true rfl) (fun b6 h => ?_) ?_
    · unfold m3_l24_SerialOrder_k6 at h
      refine cseq ?_
      refine cseq ?_
      refine cregion ?_
      refine sv rfl (opv_as rfl) ?_
      refine snil ?_
      refine cjoin (Unit) (fun b7 => [(3, .s (.one (.b v1))), (4, .s (.one (.sl v3.length (v3.flatMap eGSerialTx)))), (5, .s (.one (.sl v4.1.length (v4.1.flatMap eI)))), (6, .s (.one (.b v4.2)))]) (fun b7 => [.arr 3 1 0 (b6.flatMap eI)]) (fun b7 => m3_l24_SerialOrder_k7 v1 v3 v4 b7 = some r) (fun _ _ => inbL_of rfl) (fun _ _ => blkinb_of rfl) (fun _ _ => Nat.le_of_ble_eq_true rfl) (fun b7 h => ?_) ?_
      · unfold m3_l24_SerialOrder_k7 at h
        refine cseq ?_
        refine cregion ?_
        refine sv rfl (opv_mv rfl) ?_
        refine sv rfl (opv_mv rfl) ?_
        refine ssplit 140 rfl (fun hc => ?_) (fun hc => ?_)
        · replace h := ite_t hc h
          clear hc
          refine son rfl rfl rfl ?_
          refine sv rfl (opv_mv rfl) ?_
          refine son rfl rfl rfl ?_
          refine sv rfl (opv_mv rfl) ?_
          refine son rfl rfl rfl ?_
          refine sv rfl (opv_len_sl si28 rfl) ?_
          refine son rfl rfl rfl ?_
          refine sv rfl (opv_mv rfl) ?_
          refine son rfl rfl rfl ?_
          refine sv rfl (opv_len_sl si26 rfl) ?_
          refine son rfl rfl rfl ?_
          refine sv rfl (opv_ieql rfl rfl) ?_
          refine son rfl rfl rfl ?_
          refine sv rfl (opv_beql Try.underlying4 rfl rfl) ?_
          refine sv rfl (opv_pick_t rfl rfl) ?_
          refine sv rfl (opv_as rfl) ?_
          refine snil ?_
          refine cret ?_
          obtain rfl := Option.some.inj h
          refine ⟨Or.inr rfl, _, _, _, (resVs_cons (ResV.tmp _ _ rfl) resVs_nil), (pubA_id rfl), ?_⟩
          rfl
        · replace h := ite_f hc h
          clear hc
          refine soff rfl rfl rfl rfl ?_
          refine soff rfl rfl rfl rfl ?_
          refine soff rfl rfl rfl rfl ?_
          refine soff rfl rfl rfl rfl ?_
          refine soff rfl rfl rfl rfl ?_
          refine soff rfl rfl rfl rfl ?_
          refine soff rfl rfl rfl rfl ?_
          refine sv rfl (opv_pick_f rfl rfl) ?_
          refine sv rfl (opv_as rfl) ?_
          refine snil ?_
          refine cret ?_
          obtain rfl := Option.some.inj h
          refine ⟨Or.inr rfl, _, _, _, (resVs_cons (ResV.tmp _ _ rfl) resVs_nil), (pubA_id rfl), ?_⟩
          rfl
      · skip
        refine cblock ?_
        obtain ⟨x8, hx8, ho8⟩ := bind_eq h
        refine awc_loop (G := Nat × (Int)) (fun g => [(3, .s (.one (.b v1))), (4, .s (.one (.sl v3.length (v3.flatMap eGSerialTx)))), (5, .s (.one (.sl v4.1.length (v4.1.flatMap eI)))), (6, .s (.one (.b v4.2))), (7, .s (.one (.ls 0 b6.length))), (9, .s (.one (.i .i64 g.2)))]) (fun g => [.arr 3 1 0 (b6.flatMap eI)]) (fun g => iter (m3_l24_SerialOrder_s8 v3 b6) g.1 g.2 = some x8) (fun g => g.1) (fuel, 0) hx8 ⟨rfl, rfl, rfl, rfl, rfl, rfl, trivial⟩ [] rfl (fun _ _ => inbL_of rfl) (fun _ _ => blkinb_of rfl) (fun _ _ => Nat.le_of_ble_eq_true rfl) ?_
        clear hx8 h
        rintro ⟨n8, s8⟩ h
        obtain ⟨n8, y8, rfl, h, hk8⟩ := iter_eq h
        unfold m3_l24_SerialOrder_s8 at h
        refine cseq ?_
        refine cseq ?_
        refine cregion ?_
        refine sv rfl (opv_mv rfl) ?_
        refine sv rfl (opv_mv rfl) ?_
        refine sv rfl (opv_len_sl si26 rfl) ?_
        refine sv rfl (opv_lss rfl rfl) ?_
        refine snil ?_
        refine ccond rfl (fun hc => ?_) (fun hc => ?_)
        · replace h := ite_t hc h
          clear hc
          refine cskip ?_
          refine then_normal ?_
          refine cseq ?_
          refine cblock ?_
          refine cseq ?_
          refine cregion ?_
          refine sv rfl (opv_as rfl) ?_
          refine snil ?_
          refine cseq ?_
          refine cseq ?_
          refine cregion ?_
          refine sv rfl (opv_as rfl) ?_
          refine snil ?_
          refine cjoin (Bool) (fun b9 => [(3, .s (.one (.b v1))), (4, .s (.one (.sl v3.length (v3.flatMap eGSerialTx)))), (5, .s (.one (.sl v4.1.length (v4.1.flatMap eI)))), (6, .s (.one (.b v4.2))), (7, .s (.one (.ls 0 b6.length))), (9, .s (.one (.i .i64 s8))), (10, .s (.one (.b b9)))]) (fun b9 => [.arr 3 1 0 (b6.flatMap eI)]) (fun b9 => m3_l24_SerialOrder_k9 b6 s8 b9 = some y8) (fun _ _ => inbL_of rfl) (fun _ _ => blkinb_of rfl) (fun _ _ => Nat.le_of_ble_eq_true rfl) (fun b9 h => ?_) ?_
          · unfold m3_l24_SerialOrder_k9 at h
            refine cseq ?_
            refine cregion ?_
            refine sv rfl (opv_mv rfl) ?_
            refine sv rfl (opv_mv rfl) ?_
            obtain ⟨u10, hu10, h⟩ := bind_eq h
            refine sv rfl (opv_ixo (f := eI) si28 (fun _ => rfl) rfl rfl rfl rfl rfl hu10) ?_
            refine sv rfl (opv_ld1o (f := eI) 0 ti3 (fun _ => rfl) rfl rfl rfl rfl (idx_eq hu10).2 rfl) ?_
            refine sv rfl (opv_ieql rfl rfl) ?_
            refine sv rfl (opv_mv rfl) ?_
            refine ssplit 135 rfl (fun hc => ?_) (fun hc => ?_)
            · replace h := ite_t hc h
              clear hc
              refine son rfl rfl rfl ?_
              refine sv rfl (opv_mv rfl) ?_
              refine son rfl rfl rfl ?_
              refine sv rfl (opv_not rfl) ?_
              refine sv rfl (opv_pick_t rfl rfl) ?_
              refine snil ?_
              refine ccond rfl (fun hc => ?_) (fun hc => ?_)
              · replace h := ite_t hc h
                clear hc
                refine cseq ?_
                refine cregion ?_
                refine sv rfl (opv_as rfl) ?_
                refine snil ?_
                refine cret ?_
                refine block_ret ?_
                refine then_ret ?_
                refine then_ret ?_
                refine block_ret ?_
                refine then_ret ?_
                obtain rfl := Option.some.inj h
                obtain rfl : Sum.inl _ = x8 := hk8
                replace ho8 : some _ = some _ := ho8
                obtain rfl := Option.some.inj ho8
                refine ⟨Or.inr rfl, _, _, _, (resVs_cons (ResV.tmp _ _ rfl) resVs_nil), (pubA_id rfl), ?_⟩
                rfl
              · replace h := ite_f hc h
                clear hc
                refine cskip ?_
                refine block_normal ?_
                refine then_normal ?_
                refine cregion ?_
                refine sv rfl (opv_mv rfl) ?_
                refine sv rfl (opv_add rfl rfl) ?_
                refine sv rfl (opv_as rfl) ?_
                refine snil ?_
                obtain rfl := Option.some.inj h
                exact ⟨(n8, (wI (s8 + 1))), _, hk8, ⟨rfl, rfl, rfl, rfl, rfl, rfl, trivial⟩, rfl, Nat.lt_succ_self _⟩
            · replace h := ite_f hc h
              clear hc
              refine soff rfl rfl rfl rfl ?_
              refine soff rfl rfl rfl rfl ?_
              refine sv rfl (opv_pick_f rfl rfl) ?_
              refine snil ?_
              refine ccond rfl (fun hx => Bool.noConfusion hx) (fun _ => ?_)
              refine cskip ?_
              refine block_normal ?_
              refine then_normal ?_
              refine cregion ?_
              refine sv rfl (opv_mv rfl) ?_
              refine sv rfl (opv_add rfl rfl) ?_
              refine sv rfl (opv_as rfl) ?_
              refine snil ?_
              obtain rfl := Option.some.inj h
              exact ⟨(n8, (wI (s8 + 1))), _, hk8, ⟨rfl, rfl, rfl, rfl, rfl, rfl, trivial⟩, rfl, Nat.lt_succ_self _⟩
          · skip
            refine cblock ?_
            obtain ⟨x11, hx11, ho11⟩ := bind_eq h
            refine awc_loop (G := Nat × (Bool × Int)) (fun g => [(3, .s (.one (.b v1))), (4, .s (.one (.sl v3.length (v3.flatMap eGSerialTx)))), (5, .s (.one (.sl v4.1.length (v4.1.flatMap eI)))), (6, .s (.one (.b v4.2))), (7, .s (.one (.ls 0 b6.length))), (9, .s (.one (.i .i64 s8))), (10, .s (.one (.b g.2.1))), (11, .s (.one (.i .i64 g.2.2)))]) (fun g => [.arr 3 1 0 (b6.flatMap eI)]) (fun g => iter (m3_l24_SerialOrder_s11 v3 b6 s8) g.1 g.2 = some x11) (fun g => g.1) (fuel, (false, 0)) hx11 ⟨rfl, rfl, rfl, rfl, rfl, rfl, rfl, rfl, trivial⟩ [] rfl (fun _ _ => inbL_of rfl) (fun _ _ => blkinb_of rfl) (fun _ _ => Nat.le_of_ble_eq_true rfl) ?_
            clear hx11 h
            rintro ⟨n11, s11⟩ h
            obtain ⟨n11, y11, rfl, h, hk11⟩ := iter_eq h
            unfold m3_l24_SerialOrder_s11 at h
            refine cseq ?_
            refine cseq ?_
            refine cregion ?_
            refine sv rfl (opv_mv rfl) ?_
            refine sv rfl (opv_mv rfl) ?_
            refine sv rfl (opv_len_sl si26 rfl) ?_
            refine sv rfl (opv_lss rfl rfl) ?_
            refine snil ?_
            refine ccond rfl (fun hc => ?_) (fun hc => ?_)
            · replace h := ite_t hc h
              clear hc
              refine cskip ?_
              refine then_normal ?_
              refine cseq ?_
              refine cblock ?_
              refine cseq ?_
              refine cdraw mixed (by kernel_rfl) ?_
              refine dv rfl (opv_mv rfl) ?_
              refine dv rfl (opv_mv rfl) ?_
              obtain ⟨u12, hu12, h⟩ := bind_eq h
              refine dv rfl (opv_ix (f := eGSerialTx) si26 (fun _ => rfl) rfl rfl rfl rfl hu12) ?_
              refine dv rfl (opv_loadNe (ys := [.i .i64 u12.Token, .i .i64 u12.Snap, .i .i64 u12.Ts, .sl u12.Reads.length (u12.Reads.flatMap eGApiRange), .sl u12.Writes.length (u12.Writes.flatMap eGApiWrite)]) ti35 rfl (.cp _) rfl rfl) ?_
              refine dv rfl (opv_mv rfl) ?_
              refine dv rfl (opv_mv rfl) ?_
              obtain ⟨u13, hu13, h⟩ := bind_eq h
              refine dv rfl (opv_ix (f := eGSerialTx) si26 (fun _ => rfl) rfl rfl rfl rfl hu13) ?_
              refine dv rfl (opv_loadNe (ys := [.i .i64 u13.Token, .i .i64 u13.Snap, .i .i64 u13.Ts, .sl u13.Reads.length (u13.Reads.flatMap eGApiRange), .sl u13.Writes.length (u13.Writes.flatMap eGApiWrite)]) ti35 rfl (.cp _) rfl rfl) ?_
              obtain ⟨v14, hv14, h⟩ := bind_eq h
              refine dd rfl (opD_call fn11 (opnds_cons rfl (opnds_cons rfl opnds_nil)) rfl (m11_serial_Ahead_c hv14)) ?_
              refine dv rfl (opv_as rfl) ?_
              refine dnil ?_
              refine then_normal ?_
              refine cseq ?_
              refine cseq ?_
              refine cjoin3 (Unit) (fun b15 => [(3, .s (.one (.b v1))), (4, .s (.one (.sl v3.length (v3.flatMap eGSerialTx)))), (5, .s (.one (.sl v4.1.length (v4.1.flatMap eI)))), (6, .s (.one (.b v4.2))), (7, .s (.one (.ls 0 b6.length))), (9, .s (.one (.i .i64 s8))), (10, .s (.one (.b s11.1))), (11, .s (.one (.i .i64 s11.2))), (12, .s (.one (.b v14)))]) (fun b15 => [.arr 3 1 0 (b6.flatMap eI)]) (fun b15 => m3_l24_SerialOrder_k15 b6 s11 v14 b15 = some y11) (fun _ _ => inbL_of rfl) (fun _ _ => blkinb_of rfl) (fun _ _ => Nat.le_of_ble_eq_true rfl) (fun b15 h => ?_) ?_
              · unfold m3_l24_SerialOrder_k15 at h
                refine cregion ?_
                refine sv rfl (opv_mv rfl) ?_
                refine sv rfl (opv_mv rfl) ?_
                refine ssplit 120 rfl (fun hc => ?_) (fun hc => ?_)
                · replace h := ite_t hc h
                  clear hc
                  refine soff rfl rfl rfl rfl ?_
                  refine soff rfl rfl rfl rfl ?_
                  refine soffu rfl rfl rfl ?_
                  refine soffu rfl rfl rfl ?_
                  refine soffu rfl rfl rfl ?_
                  refine soffu rfl rfl rfl ?_
                  refine soffu rfl rfl rfl ?_
                  refine soff rfl rfl rfl rfl ?_
                  refine sv rfl (opv_pick_t rfl rfl) ?_
                  refine sv rfl (opv_as rfl) ?_
                  refine snil0 ?_
                  refine block_normal ?_
                  refine then_normal ?_
                  refine cregion ?_
                  refine sv rfl (opv_mv rfl) ?_
                  refine sv rfl (opv_add rfl rfl) ?_
                  refine sv rfl (opv_as rfl) ?_
                  refine snil ?_
                  obtain rfl := Option.some.inj h
                  exact ⟨(n11, (true, (wI (s11.2 + 1)))), _, hk11, ⟨rfl, rfl, rfl, rfl, rfl, rfl, rfl, rfl, trivial⟩, rfl, Nat.lt_succ_self _⟩
                · replace h := ite_f hc h
                  clear hc
                  refine son rfl rfl rfl ?_
                  refine sv rfl (opv_mv rfl) ?_
                  refine son rfl rfl rfl ?_
                  refine sv rfl (opv_mv rfl) ?_
                  refine ssplit 122 rfl (fun hc => ?_) (fun hc => ?_)
                  · replace h := ite_t hc h
                    clear hc
                    refine son rfl rfl rfl ?_
                    refine sv rfl (opv_mv rfl) ?_
                    refine son rfl rfl rfl ?_
                    refine sv rfl (opv_mv rfl) ?_
                    refine son rfl rfl rfl ?_
                    obtain ⟨u16, hu16, h⟩ := bind_eq h
                    refine sv rfl (opv_ixo (f := eI) si28 (fun _ => rfl) rfl rfl rfl rfl rfl hu16) ?_
                    refine son rfl rfl rfl ?_
                    refine sv rfl (opv_ld1o (f := eI) 0 ti3 (fun _ => rfl) rfl rfl rfl rfl (idx_eq hu16).2 rfl) ?_
                    refine son rfl rfl rfl ?_
                    refine sv rfl (opv_ieql rfl rfl) ?_
                    refine son rfl rfl rfl ?_
                    refine sv rfl (opv_pick_t rfl rfl) ?_
                    refine sv rfl (opv_pick_f rfl rfl) ?_
                    refine sv rfl (opv_as rfl) ?_
                    refine snil0 ?_
                    refine block_normal ?_
                    refine then_normal ?_
                    refine cregion ?_
                    refine sv rfl (opv_mv rfl) ?_
                    refine sv rfl (opv_add rfl rfl) ?_
                    refine sv rfl (opv_as rfl) ?_
                    refine snil ?_
                    obtain rfl := Option.some.inj h
                    exact ⟨(n11, ((decide (u16 = 0)), (wI (s11.2 + 1)))), _, hk11, ⟨rfl, rfl, rfl, rfl, rfl, rfl, rfl, rfl, trivial⟩, rfl, Nat.lt_succ_self _⟩
                  · replace h := ite_f hc h
                    clear hc
                    refine soff rfl rfl rfl rfl ?_
                    refine soff rfl rfl rfl rfl ?_
                    refine soff rfl rfl rfl rfl ?_
                    refine soff rfl rfl rfl rfl ?_
                    refine soff rfl rfl rfl rfl ?_
                    refine son rfl rfl rfl ?_
                    refine sv rfl (opv_pick_f rfl rfl) ?_
                    refine sv rfl (opv_pick_f rfl rfl) ?_
                    refine sv rfl (opv_as rfl) ?_
                    refine snil0 ?_
                    refine block_normal ?_
                    refine then_normal ?_
                    refine cregion ?_
                    refine sv rfl (opv_mv rfl) ?_
                    refine sv rfl (opv_add rfl rfl) ?_
                    refine sv rfl (opv_as rfl) ?_
                    refine snil ?_
                    obtain rfl := Option.some.inj h
                    exact ⟨(n11, (false, (wI (s11.2 + 1)))), _, hk11, ⟨rfl, rfl, rfl, rfl, rfl, rfl, rfl, rfl, trivial⟩, rfl, Nat.lt_succ_self _⟩
              · skip
                refine cdraw mixed (by kernel_rfl) ?_
                refine dv rfl (opv_mv rfl) ?_
                refine dv rfl (opv_mv rfl) ?_
                obtain ⟨u17, hu17, h⟩ := bind_eq h
                refine dv rfl (opv_ixo (f := eI) si28 (fun _ => rfl) rfl rfl rfl rfl rfl hu17) ?_
                refine dv rfl (opv_ld1o (f := eI) 0 ti3 (fun _ => rfl) rfl rfl rfl rfl (idx_eq hu17).2 rfl) ?_
                refine dv rfl (opv_gtr rfl rfl) ?_
                refine dv rfl (opv_mv rfl) ?_
                refine dsplit 98 rfl (fun hc => ?_) (fun hc => ?_)
                · replace h := ite_t hc h
                  clear hc
                  refine dvg rfl rfl rfl (opv_mv rfl) ?_
                  refine dv rfl (opv_pick_t rfl rfl) ?_
                  refine dv rfl (opv_mv rfl) ?_
                  refine dsplit 101 rfl (fun hc => ?_) (fun hc => ?_)
                  · replace h := ite_t hc h
                    clear hc
                    refine dvg rfl rfl rfl (opv_mv rfl) ?_
                    refine dvg rfl rfl rfl (opv_mv rfl) ?_
                    obtain ⟨u18, hu18, h⟩ := bind_eq h
                    refine dvg rfl rfl rfl (opv_ixo (f := eI) si28 (fun _ => rfl) rfl rfl rfl rfl rfl hu18) ?_
                    refine dvg rfl rfl rfl (opv_ld1o (f := eI) 0 ti3 (fun _ => rfl) rfl rfl rfl rfl (idx_eq hu18).2 rfl) ?_
                    refine dvg rfl rfl rfl (opv_ieql rfl rfl) ?_
                    refine dvg rfl rfl rfl (opv_mv rfl) ?_
                    refine dsplit 107 rfl (fun hc => ?_) (fun hc => ?_)
                    · replace h := ite_t hc h
                      clear hc
                      refine doff rfl rfl rfl rfl ?_
                      refine doff rfl rfl rfl rfl ?_
                      refine doff rfl rfl rfl rfl ?_
                      refine doff rfl rfl rfl rfl ?_
                      refine doff rfl rfl rfl rfl ?_
                      refine doff rfl rfl rfl rfl ?_
                      refine doff rfl rfl rfl rfl ?_
                      refine doff rfl rfl rfl rfl ?_
                      refine doff rfl rfl rfl rfl ?_
                      refine dvg rfl rfl rfl (opv_pick_t rfl rfl) ?_
                      refine dv rfl (opv_pick_t rfl rfl) ?_
                      refine dnil ?_
                      refine then_normal ?_
                      refine ccond rfl (fun _ => ?_) (fun hx => Bool.noConfusion hx)
                      refine cseq ?_
                      refine cregion ?_
                      refine sv rfl (opv_as rfl) ?_
                      refine snil ?_
                      refine cret ?_
                      refine then_ret ?_
                      refine block_ret ?_
                      refine then_ret ?_
                      refine then_ret ?_
                      refine block_ret ?_
                      refine then_ret ?_
                      refine block_ret ?_
                      refine then_ret ?_
                      refine then_ret ?_
                      refine block_ret ?_
                      refine then_ret ?_
                      obtain rfl := Option.some.inj h
                      obtain rfl : Sum.inl _ = x11 := hk11
                      replace ho11 : some _ = some _ := ho11
                      obtain rfl := Option.some.inj ho11
                      obtain rfl : Sum.inl _ = x8 := hk8
                      replace ho8 : some _ = some _ := ho8
                      obtain rfl := Option.some.inj ho8
                      refine ⟨Or.inr rfl, _, _, _, (resVs_cons (ResV.tmp _ _ rfl) resVs_nil), (pubA_id rfl), ?_⟩
                      rfl
                    · replace h := ite_f hc h
                      clear hc
                      refine dvg rfl rfl rfl (opv_mv rfl) ?_
                      refine dvg rfl rfl rfl (opv_mv rfl) ?_
                      obtain ⟨u19, hu19, h⟩ := bind_eq h
                      refine dvg rfl rfl rfl (opv_ixo (f := eI) si28 (fun _ => rfl) rfl rfl rfl rfl rfl hu19) ?_
                      refine dvg rfl rfl rfl (opv_ld1o (f := eI) 0 ti3 (fun _ => rfl) rfl rfl rfl rfl (idx_eq hu19).2 rfl) ?_
                      refine dvg rfl rfl rfl (opv_mv rfl) ?_
                      refine dvg rfl rfl rfl (opv_mv rfl) ?_
                      obtain ⟨u20, hu20, h⟩ := bind_eq h
                      refine dvg rfl rfl rfl (opv_ixo (f := eI) si28 (fun _ => rfl) rfl rfl rfl rfl rfl hu20) ?_
                      refine dvg rfl rfl rfl (opv_ld1o (f := eI) 0 ti3 (fun _ => rfl) rfl rfl rfl rfl (idx_eq hu20).2 rfl) ?_
                      refine dvg rfl rfl rfl (opv_gtr rfl rfl) ?_
                      refine dvg rfl rfl rfl (opv_pick_f rfl rfl) ?_
                      refine dv rfl (opv_pick_t rfl rfl) ?_
                      refine dnil ?_
                      refine then_normal ?_
                      refine ccond rfl (fun hc => ?_) (fun hc => ?_)
                      · replace h := ite_t hc h
                        clear hc
                        refine cseq ?_
                        refine cregion ?_
                        refine sv rfl (opv_as rfl) ?_
                        refine snil ?_
                        refine cret ?_
                        refine then_ret ?_
                        refine block_ret ?_
                        refine then_ret ?_
                        refine then_ret ?_
                        refine block_ret ?_
                        refine then_ret ?_
                        refine block_ret ?_
                        refine then_ret ?_
                        refine then_ret ?_
                        refine block_ret ?_
                        refine then_ret ?_
                        obtain rfl := Option.some.inj h
                        obtain rfl : Sum.inl _ = x11 := hk11
                        replace ho11 : some _ = some _ := ho11
                        obtain rfl := Option.some.inj ho11
                        obtain rfl : Sum.inl _ = x8 := hk8
                        replace ho8 : some _ = some _ := ho8
                        obtain rfl := Option.some.inj ho8
                        refine ⟨Or.inr rfl, _, _, _, (resVs_cons (ResV.tmp _ _ rfl) resVs_nil), (pubA_id rfl), ?_⟩
                        rfl
                      · replace h := ite_f hc h
                        clear hc
                        refine cskip ?_
                        refine then_normal ?_
                        exact ⟨(), _, h, ⟨rfl, rfl, rfl, rfl, rfl, rfl, rfl, rfl, rfl, trivial⟩, rfl⟩
                  · replace h := ite_f hc h
                    clear hc
                    refine doff rfl rfl rfl rfl ?_
                    refine doff rfl rfl rfl rfl ?_
                    refine doff rfl rfl rfl rfl ?_
                    refine doff rfl rfl rfl rfl ?_
                    refine doff rfl rfl rfl rfl ?_
                    refine doff rfl rfl rfl rfl ?_
                    refine doffu rfl rfl rfl ?_
                    refine doffu rfl rfl rfl ?_
                    refine doffu rfl rfl rfl ?_
                    refine doffu rfl rfl rfl ?_
                    refine doffu rfl rfl rfl ?_
                    refine doffu rfl rfl rfl ?_
                    refine doffu rfl rfl rfl ?_
                    refine doffu rfl rfl rfl ?_
                    refine doffu rfl rfl rfl ?_
                    refine doff rfl rfl rfl rfl ?_
                    refine dv rfl (opv_pick_f rfl rfl) ?_
                    refine dnil ?_
                    refine then_normal ?_
                    refine ccond rfl (fun hx => Bool.noConfusion hx) (fun _ => ?_)
                    refine cskip ?_
                    refine then_normal ?_
                    exact ⟨(), _, h, ⟨rfl, rfl, rfl, rfl, rfl, rfl, rfl, rfl, rfl, trivial⟩, rfl⟩
                · replace h := ite_f hc h
                  clear hc
                  refine doff rfl rfl rfl rfl ?_
                  refine dv rfl (opv_pick_f rfl rfl) ?_
                  refine dv rfl (opv_mv rfl) ?_
                  refine doff rfl rfl rfl rfl ?_
                  refine doff rfl rfl rfl rfl ?_
                  refine doff rfl rfl rfl rfl ?_
                  refine doff rfl rfl rfl rfl ?_
                  refine doff rfl rfl rfl rfl ?_
                  refine doff rfl rfl rfl rfl ?_
                  refine doffu rfl rfl rfl ?_
                  refine doffu rfl rfl rfl ?_
                  refine doffu rfl rfl rfl ?_
                  refine doffu rfl rfl rfl ?_
                  refine doffu rfl rfl rfl ?_
                  refine doffu rfl rfl rfl ?_
                  refine doffu rfl rfl rfl ?_
                  refine doffu rfl rfl rfl ?_
                  refine doffu rfl rfl rfl ?_
                  refine doff rfl rfl rfl rfl ?_
                  refine dv rfl (opv_pick_f rfl rfl) ?_
                  refine dnil ?_
                  refine then_normal ?_
                  refine ccond rfl (fun hx => Bool.noConfusion hx) (fun _ => ?_)
                  refine cskip ?_
                  refine then_normal ?_
                  exact ⟨(), _, h, ⟨rfl, rfl, rfl, rfl, rfl, rfl, rfl, rfl, rfl, trivial⟩, rfl⟩
            · replace h := ite_f hc h
              clear hc
              refine cexit ?_
              refine then_exit ?_
              refine then_exit ?_
              refine block_hit ?_
              refine then_normal ?_
              obtain rfl := Option.some.inj h
              obtain rfl : _ = x11 := hk11
              exact ⟨s11.1, _, ho11, ⟨rfl, rfl, rfl, rfl, rfl, rfl, rfl, trivial⟩, rfl⟩
        · replace h := ite_f hc h
          clear hc
          refine cexit ?_
          refine then_exit ?_
          refine then_exit ?_
          refine block_hit ?_
          refine then_normal ?_
          obtain rfl := Option.some.inj h
          obtain rfl : _ = x8 := hk8
          exact ⟨(), _, ho8, ⟨rfl, rfl, rfl, rfl, trivial⟩, rfl⟩
    · skip
      refine cblock ?_
      obtain ⟨x23, hx23, ho23⟩ := bind_eq h
      refine awc_loop (G := Nat × (Int × (List Int))) (fun g => [(3, .s (.one (.b v1))), (4, .s (.one (.sl v3.length (v3.flatMap eGSerialTx)))), (5, .s (.one (.sl v4.1.length (v4.1.flatMap eI)))), (6, .s (.one (.b v4.2))), (7, .s (.one (.ls 0 g.2.2.length))), (8, .s (.one (.i .i64 g.2.1)))]) (fun g => [.arr 3 1 0 (g.2.2.flatMap eI)]) (fun g => iter (m3_l24_SerialOrder_s23 v3 v4) g.1 g.2 = some x23) (fun g => g.1) (fuel, (0, (List.replicate (v3.length : Int).toNat (0 : Int)))) hx23 ⟨rfl, rfl, rfl, rfl, rfl, rfl, trivial⟩ [] rfl (fun _ _ => inbL_of rfl) (fun _ _ => blkinb_of rfl) (fun _ _ => Nat.le_of_ble_eq_true rfl) ?_
      clear hx23 h
      rintro ⟨n23, s23⟩ h
      obtain ⟨n23, y23, rfl, h, hk23⟩ := iter_eq h
      unfold m3_l24_SerialOrder_s23 at h
      refine cseq ?_
      refine cseq ?_
      refine cregion ?_
      refine sv rfl (opv_mv rfl) ?_
      refine sv rfl (opv_mv rfl) ?_
      refine sv rfl (opv_len_sl si28 rfl) ?_
      refine sv rfl (opv_lss rfl rfl) ?_
      refine snil ?_
      refine ccond rfl (fun hc => ?_) (fun hc => ?_)
      · replace h := ite_t hc h
        clear hc
        refine cskip ?_
        refine then_normal ?_
        refine cseq ?_
        refine cblock ?_
        refine cseq ?_
        refine cseq ?_
        refine cjoin3 (Unit) (fun b24 => [(3, .s (.one (.b v1))), (4, .s (.one (.sl v3.length (v3.flatMap eGSerialTx)))), (5, .s (.one (.sl v4.1.length (v4.1.flatMap eI)))), (6, .s (.one (.b v4.2))), (7, .s (.one (.ls 0 s23.2.length))), (8, .s (.one (.i .i64 s23.1)))]) (fun b24 => [.arr 3 1 0 (s23.2.flatMap eI)]) (fun b24 => m3_l24_SerialOrder_k24 v4 s23 b24 = some y23) (fun _ _ => inbL_of rfl) (fun _ _ => blkinb_of rfl) (fun _ _ => Nat.le_of_ble_eq_true rfl) (fun b24 h => ?_) ?_
        · unfold m3_l24_SerialOrder_k24 at h
          refine cregion ?_
          refine sv rfl (opv_mv rfl) ?_
          refine sv rfl (opv_mv rfl) ?_
          refine sv rfl (opv_mv rfl) ?_
          obtain ⟨u25, hu25, h⟩ := bind_eq h
          refine sv rfl (opv_ix (f := eI) si28 (fun _ => rfl) rfl rfl rfl rfl hu25) ?_
          refine sv rfl (opv_load1 ti3 rfl (.cp _) rfl) ?_
          refine sv rfl (opv_mv rfl) ?_
          refine sv rfl (opv_add rfl rfl) ?_
          obtain ⟨u26, hu26, h⟩ := bind_eq h
          refine sv rfl (opv_ixo (f := eI) si28 (fun _ => rfl) rfl rfl rfl rfl rfl hu26) ?_
          refine sseto (f := eI) (u' := (wI (s23.1 + 1))) (sz := 1) 0 sz3 (fun _ => rfl) rfl rfl rfl rfl rfl rfl rfl (List.all_eq_true.1 rfl) (idx_eq hu26).2 (Nat.le_of_ble_eq_true rfl) rfl ?_
          refine stell 7 (y := .s (.one (.ls 0 s23.2.length))) (.s (.one (.ls 0 (s23.2.set u25.toNat (wI (s23.1 + 1))).length))) rfl (congrArg (fun n => AV.s (.one (.ls 0 n))) List.length_set.symm) ?_
          refine stell 64 (y := .s (.one (.ls 0 s23.2.length))) (.s (.one (.ls 0 (s23.2.set u25.toNat (wI (s23.1 + 1))).length))) rfl (congrArg (fun n => AV.s (.one (.ls 0 n))) List.length_set.symm) ?_
          refine snil0 ?_
          refine block_normal ?_
          refine then_normal ?_
          refine cregion ?_
          refine sv rfl (opv_mv rfl) ?_
          refine sv rfl (opv_add rfl rfl) ?_
          refine sv rfl (opv_as rfl) ?_
          refine snil ?_
          obtain rfl := Option.some.inj h
          exact ⟨(n23, ((wI (s23.1 + 1)), (s23.2.set u25.toNat (wI (s23.1 + 1))))), _, hk23, ⟨rfl, rfl, rfl, rfl, rfl, rfl, trivial⟩, rfl, Nat.lt_succ_self _⟩
        · skip
          refine cregion ?_
          refine sv rfl (opv_mv rfl) ?_
          refine sv rfl (opv_mv rfl) ?_
          obtain ⟨u27, hu27, h⟩ := bind_eq h
          refine sv rfl (opv_ix (f := eI) si28 (fun _ => rfl) rfl rfl rfl rfl hu27) ?_
          refine sv rfl (opv_load1 ti3 rfl (.cp _) rfl) ?_
          refine sv rfl (opv_lss rfl rfl) ?_
          refine sv rfl (opv_mv rfl) ?_
          refine ssplit 45 rfl (fun hc => ?_) (fun hc => ?_)
          · replace h := ite_t hc h
            clear hc
            refine soff rfl rfl rfl rfl ?_
            refine soff rfl rfl rfl rfl ?_
            refine soff rfl rfl rfl rfl ?_
            refine soff rfl rfl rfl rfl ?_
            refine soff rfl rfl rfl rfl ?_
            refine soff rfl rfl rfl rfl ?_
            refine soff rfl rfl rfl rfl ?_
            refine sv rfl (opv_pick_t rfl rfl) ?_
            refine sv rfl (opv_mv rfl) ?_
            refine soff rfl rfl rfl rfl ?_
            refine soff rfl rfl rfl rfl ?_
            refine soff rfl rfl rfl rfl ?_
            refine soff rfl rfl rfl rfl ?_
            refine soff rfl rfl rfl rfl ?_
            refine soff rfl rfl rfl rfl ?_
            refine soff rfl rfl rfl rfl ?_
            refine soff rfl rfl rfl rfl ?_
            refine sv rfl (opv_pick_t rfl rfl) ?_
            refine snil ?_
            refine ccond rfl (fun _ => ?_) (fun hx => Bool.noConfusion hx)
            refine cseq ?_
            refine cregion ?_
            refine sv rfl (opv_as rfl) ?_
            refine snil ?_
            refine cret ?_
            refine then_ret ?_
            refine block_ret ?_
            refine then_ret ?_
            refine then_ret ?_
            refine block_ret ?_
            refine then_ret ?_
            obtain rfl := Option.some.inj h
            obtain rfl : Sum.inl _ = x23 := hk23
            replace ho23 : some _ = some _ := ho23
            obtain rfl := Option.some.inj ho23
            refine ⟨Or.inr rfl, _, _, _, (resVs_cons (ResV.tmp _ _ rfl) resVs_nil), (pubA_id rfl), ?_⟩
            rfl
          · replace h := ite_f hc h
            clear hc
            refine son rfl rfl rfl ?_
            refine sv rfl (opv_mv rfl) ?_
            refine son rfl rfl rfl ?_
            refine sv rfl (opv_mv rfl) ?_
            refine son rfl rfl rfl ?_
            obtain ⟨u28, hu28, h⟩ := bind_eq h
            refine sv rfl (opv_ix (f := eI) si28 (fun _ => rfl) rfl rfl rfl rfl hu28) ?_
            refine son rfl rfl rfl ?_
            refine sv rfl (opv_load1 ti3 rfl (.cp _) rfl) ?_
            refine son rfl rfl rfl ?_
            refine sv rfl (opv_mv rfl) ?_
            refine son rfl rfl rfl ?_
            refine sv rfl (opv_len_sl si26 rfl) ?_
            refine son rfl rfl rfl ?_
            refine sv rfl (opv_geq rfl rfl) ?_
            refine sv rfl (opv_pick_f rfl rfl) ?_
            refine sv rfl (opv_mv rfl) ?_
            refine ssplit 54 rfl (fun hc => ?_) (fun hc => ?_)
            · replace h := ite_t hc h
              clear hc
              refine soff rfl rfl rfl rfl ?_
              refine soff rfl rfl rfl rfl ?_
              refine soff rfl rfl rfl rfl ?_
              refine soff rfl rfl rfl rfl ?_
              refine soff rfl rfl rfl rfl ?_
              refine soff rfl rfl rfl rfl ?_
              refine soff rfl rfl rfl rfl ?_
              refine soff rfl rfl rfl rfl ?_
              refine sv rfl (opv_pick_t rfl rfl) ?_
              refine snil ?_
              refine ccond rfl (fun _ => ?_) (fun hx => Bool.noConfusion hx)
              refine cseq ?_
              refine cregion ?_
              refine sv rfl (opv_as rfl) ?_
              refine snil ?_
              refine cret ?_
              refine then_ret ?_
              refine block_ret ?_
              refine then_ret ?_
              refine then_ret ?_
              refine block_ret ?_
              refine then_ret ?_
              obtain rfl := Option.some.inj h
              obtain rfl : Sum.inl _ = x23 := hk23
              replace ho23 : some _ = some _ := ho23
              obtain rfl := Option.some.inj ho23
              refine ⟨Or.inr rfl, _, _, _, (resVs_cons (ResV.tmp _ _ rfl) resVs_nil), (pubA_id rfl), ?_⟩
              rfl
            · replace h := ite_f hc h
              clear hc
              refine son rfl rfl rfl ?_
              refine sv rfl (opv_mv rfl) ?_
              refine son rfl rfl rfl ?_
              refine sv rfl (opv_mv rfl) ?_
              refine son rfl rfl rfl ?_
              refine sv rfl (opv_mv rfl) ?_
              refine son rfl rfl rfl ?_
              obtain ⟨u29, hu29, h⟩ := bind_eq h
              refine sv rfl (opv_ix (f := eI) si28 (fun _ => rfl) rfl rfl rfl rfl hu29) ?_
              refine son rfl rfl rfl ?_
              refine sv rfl (opv_load1 ti3 rfl (.cp _) rfl) ?_
              refine son rfl rfl rfl ?_
              obtain ⟨u30, hu30, h⟩ := bind_eq h
              refine sv rfl (opv_ixo (f := eI) si28 (fun _ => rfl) rfl rfl rfl rfl rfl hu30) ?_
              refine son rfl rfl rfl ?_
              refine sv rfl (opv_ld1o (f := eI) 0 ti3 (fun _ => rfl) rfl rfl rfl rfl (idx_eq hu30).2 rfl) ?_
              refine son rfl rfl rfl ?_
              refine sv rfl (opv_ineq rfl rfl) ?_
              refine sv rfl (opv_pick_f rfl rfl) ?_
              refine snil ?_
              refine ccond rfl (fun hc => ?_) (fun hc => ?_)
              · replace h := ite_t hc h
                clear hc
                refine cseq ?_
                refine cregion ?_
                refine sv rfl (opv_as rfl) ?_
                refine snil ?_
                refine cret ?_
                refine then_ret ?_
                refine block_ret ?_
                refine then_ret ?_
                refine then_ret ?_
                refine block_ret ?_
                refine then_ret ?_
                obtain rfl := Option.some.inj h
                obtain rfl : Sum.inl _ = x23 := hk23
                replace ho23 : some _ = some _ := ho23
                obtain rfl := Option.some.inj ho23
                refine ⟨Or.inr rfl, _, _, _, (resVs_cons (ResV.tmp _ _ rfl) resVs_nil), (pubA_id rfl), ?_⟩
                rfl
              · replace h := ite_f hc h
                clear hc
                refine cskip ?_
                refine then_normal ?_
                exact ⟨(), _, h, ⟨rfl, rfl, rfl, rfl, rfl, rfl, trivial⟩, rfl⟩
      · replace h := ite_f hc h
        clear hc
        refine cexit ?_
        refine then_exit ?_
        refine then_exit ?_
        refine block_hit ?_
        refine then_normal ?_
        obtain rfl := Option.some.inj h
        obtain rfl : _ = x23 := hk23
        exact ⟨s23.2, _, ho23, ⟨rfl, rfl, rfl, rfl, rfl, trivial⟩, rfl⟩
  · skip
    refine cregion ?_
    refine sv rfl (opv_mv rfl) ?_
    obtain ⟨v32, hv32, h⟩ := bind_eq h
    refine scall1 rfl fn7 (opnds_cons rfl opnds_nil) (pubA_id rfl) (m7_l24_few_c hv32) ?_
    refine sv rfl (opv_not rfl) ?_
    refine sv rfl (opv_mv rfl) ?_
    refine ssplit 17 rfl (fun hc => ?_) (fun hc => ?_)
    · replace h := ite_t hc h
      clear hc
      refine soff rfl rfl rfl rfl ?_
      refine soff rfl rfl rfl rfl ?_
      refine soff rfl rfl rfl rfl ?_
      refine soff rfl rfl rfl rfl ?_
      refine sv rfl (opv_pick_t rfl rfl) ?_
      refine snil ?_
      refine ccond rfl (fun _ => ?_) (fun hx => Bool.noConfusion hx)
      refine cseq ?_
      refine cregion ?_
      refine sv rfl (opv_mv rfl) ?_
      refine sv rfl (opv_as rfl) ?_
      refine snil ?_
      refine cret ?_
      refine then_ret ?_
      obtain rfl := Option.some.inj h
      refine ⟨Or.inr rfl, _, _, _, (resVs_cons (ResV.tmp _ _ rfl) resVs_nil), (pubA_id rfl), ?_⟩
      rfl
    · replace h := ite_f hc h
      clear hc
      refine son rfl rfl rfl ?_
      refine sv rfl (opv_mv rfl) ?_
      refine son rfl rfl rfl ?_
      obtain ⟨v33, hv33, h⟩ := bind_eq h
      refine scall1 rfl fn9 (opnds_cons rfl opnds_nil) (pubA_id rfl) (m9_l24_ours_c hv33) ?_
      refine son rfl rfl rfl ?_
      obtain ⟨v34, hv34, h⟩ := bind_eq h
      refine scall1 rfl fn8 (opnds_cons rfl opnds_nil) (pubA_id rfl) (m8_serial_Sane_c hv34) ?_
      refine son rfl rfl rfl ?_
      refine sv rfl (opv_not rfl) ?_
      refine sv rfl (opv_pick_f rfl rfl) ?_
      refine snil ?_
      refine ccond rfl (fun hc => ?_) (fun hc => ?_)
      · replace h := ite_t hc h
        clear hc
        refine cseq ?_
        refine cregion ?_
        refine sv rfl (opv_mv rfl) ?_
        refine sv rfl (opv_as rfl) ?_
        refine snil ?_
        refine cret ?_
        refine then_ret ?_
        obtain rfl := Option.some.inj h
        refine ⟨Or.inr rfl, _, _, _, (resVs_cons (ResV.tmp _ _ rfl) resVs_nil), (pubA_id rfl), ?_⟩
        rfl
      · replace h := ite_f hc h
        clear hc
        refine cskip ?_
        refine then_normal ?_
        exact ⟨(), _, h, ⟨rfl, rfl, trivial⟩, rfl⟩

def m4_l24_SerialAhead_k12 (a0 : GR24Tx) (a1 : GR24Tx) (v1 : Bool) (v6 : Bool) (v9 : Bool) (b12 : Unit) : Option Bool :=
  if v1 then (if (decide (0 < (wI ((a0.Writes.length : Int) + (a1.Writes.length : Int))))) then (some true) else (if (!v6) then (some (!v9)) else (some false))) else (some false)

def m4_l24_SerialAhead_k11 (a0 : GR24Tx) (a1 : GR24Tx) (v1 : Bool) (v6 : Bool) (v9 : Bool) (b11 : Bool) : Option Bool :=
  if (!decide (a0.Token = a1.Token)) then (if b11 then (if (!decide (a0.Ts = a1.Ts)) then (if (!v6) then (if (!v9) then (some false) else (m4_l24_SerialAhead_k12 a0 a1 v1 v6 v9 ())) else (m4_l24_SerialAhead_k12 a0 a1 v1 v6 v9 ())) else (m4_l24_SerialAhead_k12 a0 a1 v1 v6 v9 ())) else (m4_l24_SerialAhead_k12 a0 a1 v1 v6 v9 ())) else (m4_l24_SerialAhead_k12 a0 a1 v1 v6 v9 ())

def m4_l24_SerialAhead_k14 (s13 : Bool × Int) (b14 : Bool) : Option (LB (Bool × Int) (Bool)) :=
  some (.cont (b14, (wI (s13.2 + 1))))

def m4_l24_SerialAhead_s15 (a0 : GR24Tx) (a1 : GR24Tx) (s13 : Bool × Int) (s15 : Bool × Int) : Option (LB (Bool × Int) (Bool)) :=
  if (decide (s15.2 < (a1.Writes.length : Int))) then (if s15.1 then (some (.cont (true, (wI (s15.2 + 1))))) else ((idx a0.Writes s13.2).bind fun u16 => (idx a1.Writes s15.2).bind fun u17 => some (.cont ((u16.Key == u17.Key), (wI (s15.2 + 1)))))) else (some (.brk s15.1))

def m4_l24_SerialAhead_s13 (a0 : GR24Tx) (a1 : GR24Tx) (s13 : Bool × Int) : Option (LB (Bool × Int) (Bool)) :=
  if (decide (s13.2 < (a0.Writes.length : Int))) then ((iterB (m4_l24_SerialAhead_s15 a0 a1 s13) fuel (s13.1, 0)).bind fun e18 => m4_l24_SerialAhead_k14 s13 e18) else (some (.brk s13.1))

def m4_l24_SerialAhead_k10 (a0 : GR24Tx) (a1 : GR24Tx) (v1 : Bool) (v6 : Bool) (v9 : Bool) (b10 : Unit) : Option Bool :=
  (iterB (m4_l24_SerialAhead_s13 a0 a1) fuel (false, 0)).bind fun e19 => m4_l24_SerialAhead_k11 a0 a1 v1 v6 v9 e19
def m4_l24_SerialAhead (a0 : GR24Tx) (a1 : GR24Tx) : Option Bool :=
  (m6_l24_awake).bind fun v1 => (m7_l24_few [a0, a1]).bind fun v2 => if (!v2) then (some v1) else ((m9_l24_ours [a0, a1]).bind fun v3 => (idx v3 0).bind fun u4 => (idx v3 1).bind fun u5 => (m11_serial_Ahead u4 u5).bind fun v6 => (idx v3 1).bind fun u7 => (idx v3 0).bind fun u8 => (m11_serial_Ahead u7 u8).bind fun v9 => (idx v3 0).bind fun u20 => (idx v3 0).bind fun u21 => (m11_serial_Ahead u20 u21).bind fun v22 => if v22 then (some false) else (if (decide (a0.Token = a1.Token)) then (if v6 then (some false) else (if v9 then (some false) else (m4_l24_SerialAhead_k10 a0 a1 v1 v6 v9 ()))) else (m4_l24_SerialAhead_k10 a0 a1 v1 v6 v9 ())))

set_option maxRecDepth 100000 in
theorem m4_l24_SerialAhead_c {a0 : GR24Tx} {a1 : GR24Tx} {r : Bool} (h : m4_l24_SerialAhead a0 a1 = some r) : CallsA Try.prog 4 [.agg [.i .i64 a0.Token, .i .i64 a0.Snap, .i .i64 a0.Ts, .sl a0.Reads.length (a0.Reads.flatMap eGApiRange), .sl a0.Writes.length (a0.Writes.flatMap eGApiWrite)], .agg [.i .i64 a1.Token, .i .i64 a1.Snap, .i .i64 a1.Ts, .sl a1.Reads.length (a1.Reads.flatMap eGApiRange), .sl a1.Writes.length (a1.Writes.flatMap eGApiWrite)]] (· = .s (.one (.b r))) := by
  unfold m4_l24_SerialAhead at h
  refine callsA_of Try.func4 rfl (nt := 131) rfl (Nat.le_of_ble_eq_true rfl) ?_
  intro w0 S0
  refine cseq ?_
  refine cregion ?_
  refine sbox rfl rfl ?_
  refine sbox rfl rfl ?_
  refine sv rfl (opv_as rfl) ?_
  refine snil ?_
  refine cseq ?_
  refine cregion ?_
  obtain ⟨v1, hv1, h⟩ := bind_eq h
  refine scall1 rfl fn6 opnds_nil (pubA_id rfl) (m6_l24_awake_c hv1) ?_
  refine sv rfl (opv_as rfl) ?_
  refine snil ?_
  refine cseq ?_
  refine cseq ?_
  refine cregion ?_
  refine sv rfl (opv_loadN ti36 rfl (.lp _ _ _ rfl) (Nat.le_of_ble_eq_true rfl)) ?_
  refine sv rfl (opv_loadN ti36 rfl (.lp _ _ _ rfl) (Nat.le_of_ble_eq_true rfl)) ?_
  refine sbuildN (out := ([a0, a1] : List GR24Tx).flatMap eGR24Tx) rfl Try.underlying22 ei36 (parts_cons rfl (parts_cons rfl parts_nil)) (.cons _ _ _ _ _ _ _ rfl rfl (Nat.le_of_ble_eq_true rfl) (.cons _ _ _ _ _ _ _ rfl rfl (Nat.le_of_ble_eq_true rfl) (.nil _))) rfl (by decide) ?_
  refine spub 15 rfl (by (repeat' first | exact PubA.nil _ | apply PubA.cons | apply PubV.one | apply PubV.agg | exact PubL.nil | exact PubL.ls _ _ _ _ _ _ rfl (flat_len (f := eGR24Tx) (fun _ => rfl) ([a0, a1] : List GR24Tx)).symm | exact PubL.ls _ _ _ _ _ _ rfl (flat_len (f := eGR24Tx) (fun _ => rfl) _).symm | exact PubL.id _ rfl | exact PubLs.nil _ | apply PubLs.cons)) ?_
  obtain ⟨v2, hv2, h⟩ := bind_eq h
  refine scall1 rfl fn7 (opnds_cons rfl opnds_nil) (pubA_id rfl) (m7_l24_few_c hv2) ?_
  refine sv rfl (opv_not rfl) ?_
  refine snil ?_
  refine ccond rfl (fun hc => ?_) (fun hc => ?_)
  · replace h := ite_t hc h
    clear hc
    refine cseq ?_
    refine cregion ?_
    refine sv rfl (opv_mv rfl) ?_
    refine sv rfl (opv_as rfl) ?_
    refine snil ?_
    refine cret ?_
    refine then_ret ?_
    obtain rfl := Option.some.inj h
    refine ⟨Or.inr rfl, _, _, _, (resVs_cons (ResV.tmp _ _ rfl) resVs_nil), (pubA_id rfl), ?_⟩
    rfl
  · replace h := ite_f hc h
    clear hc
    refine cskip ?_
    refine then_normal ?_
    refine cseq ?_
    refine cregion ?_
    refine sv rfl (opv_loadN ti36 rfl (.lp _ _ _ rfl) (Nat.le_of_ble_eq_true rfl)) ?_
    refine sv rfl (opv_loadN ti36 rfl (.lp _ _ _ rfl) (Nat.le_of_ble_eq_true rfl)) ?_
    refine sbuildN (out := ([a0, a1] : List GR24Tx).flatMap eGR24Tx) rfl Try.underlying22 ei36 (parts_cons rfl (parts_cons rfl parts_nil)) (.cons _ _ _ _ _ _ _ rfl rfl (Nat.le_of_ble_eq_true rfl) (.cons _ _ _ _ _ _ _ rfl rfl (Nat.le_of_ble_eq_true rfl) (.nil _))) rfl (by decide) ?_
    refine spub 21 rfl (by (repeat' first | exact PubA.nil _ | apply PubA.cons | apply PubV.one | apply PubV.agg | exact PubL.nil | exact PubL.ls _ _ _ _ _ _ rfl (flat_len (f := eGR24Tx) (fun _ => rfl) ([a0, a1] : List GR24Tx)).symm | exact PubL.ls _ _ _ _ _ _ rfl (flat_len (f := eGR24Tx) (fun _ => rfl) _).symm | exact PubL.id _ rfl | exact PubLs.nil _ | apply PubLs.cons)) ?_
    obtain ⟨v3, hv3, h⟩ := bind_eq h
    refine scall1 rfl fn9 (opnds_cons rfl opnds_nil) (pubA_id rfl) (m9_l24_ours_c hv3) ?_
    refine sv rfl (opv_as rfl) ?_
    refine snil ?_
    refine cseq ?_
    refine cdraw mixed (by kernel_rfl) ?_
    refine dv rfl (opv_mv rfl) ?_
    obtain ⟨u4, hu4, h⟩ := bind_eq h
    refine dv rfl (opv_ix (f := eGSerialTx) si26 (fun _ => rfl) rfl rfl rfl rfl hu4) ?_
    refine dv rfl (opv_loadNe (ys := [.i .i64 u4.Token, .i .i64 u4.Snap, .i .i64 u4.Ts, .sl u4.Reads.length (u4.Reads.flatMap eGApiRange), .sl u4.Writes.length (u4.Writes.flatMap eGApiWrite)]) ti35 rfl (.cp _) rfl rfl) ?_
    refine dv rfl (opv_mv rfl) ?_
    obtain ⟨u5, hu5, h⟩ := bind_eq h
    refine dv rfl (opv_ix (f := eGSerialTx) si26 (fun _ => rfl) rfl rfl rfl rfl hu5) ?_
    refine dv rfl (opv_loadNe (ys := [.i .i64 u5.Token, .i .i64 u5.Snap, .i .i64 u5.Ts, .sl u5.Reads.length (u5.Reads.flatMap eGApiRange), .sl u5.Writes.length (u5.Writes.flatMap eGApiWrite)]) ti35 rfl (.cp _) rfl rfl) ?_
    obtain ⟨v6, hv6, h⟩ := bind_eq h
    refine dd rfl (opD_call fn11 (opnds_cons rfl (opnds_cons rfl opnds_nil)) rfl (m11_serial_Ahead_c hv6)) ?_
    refine dv rfl (opv_as rfl) ?_
    refine dnil ?_
    refine then_normal ?_
    refine cseq ?_
    refine cdraw mixed (by kernel_rfl) ?_
    refine dv rfl (opv_mv rfl) ?_
    obtain ⟨u7, hu7, h⟩ := bind_eq h
    refine dv rfl (opv_ix (f := eGSerialTx) si26 (fun _ => rfl) rfl rfl rfl rfl hu7) ?_
    refine dv rfl (opv_loadNe (ys := [.i .i64 u7.Token, .i .i64 u7.Snap, .i .i64 u7.Ts, .sl u7.Reads.length (u7.Reads.flatMap eGApiRange), .sl u7.Writes.length (u7.Writes.flatMap eGApiWrite)]) ti35 rfl (.cp _) rfl rfl) ?_
    refine dv rfl (opv_mv rfl) ?_
    obtain ⟨u8, hu8, h⟩ := bind_eq h
    refine dv rfl (opv_ix (f := eGSerialTx) si26 (fun _ => rfl) rfl rfl rfl rfl hu8) ?_
    refine dv rfl (opv_loadNe (ys := [.i .i64 u8.Token, .i .i64 u8.Snap, .i .i64 u8.Ts, .sl u8.Reads.length (u8.Reads.flatMap eGApiRange), .sl u8.Writes.length (u8.Writes.flatMap eGApiWrite)]) ti35 rfl (.cp _) rfl rfl) ?_
    obtain ⟨v9, hv9, h⟩ := bind_eq h
    refine dd rfl (opD_call fn11 (opnds_cons rfl (opnds_cons rfl opnds_nil)) rfl (m11_serial_Ahead_c hv9)) ?_
    refine dv rfl (opv_as rfl) ?_
    refine dnil ?_
    refine then_normal ?_
    refine cseq ?_
    refine cseq ?_
    refine cjoin3 (Unit) (fun b10 => [(2, .s (.one (.lp 0 0))), (3, .s (.one (.lp 1 0))), (5, .s (.one (.b v1))), (7, .s (.one (.b v6))), (8, .s (.one (.b v9)))]) (fun b10 => [.box [.i .i64 a0.Token, .i .i64 a0.Snap, .i .i64 a0.Ts, .sl a0.Reads.length (a0.Reads.flatMap eGApiRange), .sl a0.Writes.length (a0.Writes.flatMap eGApiWrite)], .box [.i .i64 a1.Token, .i .i64 a1.Snap, .i .i64 a1.Ts, .sl a1.Reads.length (a1.Reads.flatMap eGApiRange), .sl a1.Writes.length (a1.Writes.flatMap eGApiWrite)], .arr 36 5 ([a0, a1].flatMap eGR24Tx).length ([a0, a1].flatMap eGR24Tx), .arr 36 5 ([a0, a1].flatMap eGR24Tx).length ([a0, a1].flatMap eGR24Tx)]) (fun b10 => m4_l24_SerialAhead_k10 a0 a1 v1 v6 v9 b10 = some r) (fun _ _ => inbL_of rfl) (fun _ _ => blkinb_of rfl) (fun _ _ => Nat.le_of_ble_eq_true rfl) (fun b10 h => ?_) ?_
    · unfold m4_l24_SerialAhead_k10 at h
      refine cseq ?_
      refine cregion ?_
      refine sv rfl (opv_as rfl) ?_
      refine snil ?_
      refine cseq ?_
      refine cseq ?_
      refine cregion ?_
      refine sv rfl (opv_as rfl) ?_
      refine snil ?_
      refine cjoin (Bool) (fun b11 => [(2, .s (.one (.lp 0 0))), (3, .s (.one (.lp 1 0))), (5, .s (.one (.b v1))), (7, .s (.one (.b v6))), (8, .s (.one (.b v9))), (9, .s (.one (.b b11)))]) (fun b11 => [.box [.i .i64 a0.Token, .i .i64 a0.Snap, .i .i64 a0.Ts, .sl a0.Reads.length (a0.Reads.flatMap eGApiRange), .sl a0.Writes.length (a0.Writes.flatMap eGApiWrite)], .box [.i .i64 a1.Token, .i .i64 a1.Snap, .i .i64 a1.Ts, .sl a1.Reads.length (a1.Reads.flatMap eGApiRange), .sl a1.Writes.length (a1.Writes.flatMap eGApiWrite)], .arr 36 5 ([a0, a1].flatMap eGR24Tx).length ([a0, a1].flatMap eGR24Tx), .arr 36 5 ([a0, a1].flatMap eGR24Tx).length ([a0, a1].flatMap eGR24Tx)]) (fun b11 => m4_l24_SerialAhead_k11 a0 a1 v1 v6 v9 b11 = some r) (fun _ _ => inbL_of rfl) (fun _ _ => blkinb_of rfl) (fun _ _ => Nat.le_of_ble_eq_true rfl) (fun b11 h => ?_) ?_
      · unfold m4_l24_SerialAhead_k11 at h
        refine cseq ?_
        refine cseq ?_
        refine cjoin3 (Unit) (fun b12 => [(2, .s (.one (.lp 0 0))), (3, .s (.one (.lp 1 0))), (5, .s (.one (.b v1))), (7, .s (.one (.b v6))), (8, .s (.one (.b v9)))]) (fun b12 => [.box [.i .i64 a0.Token, .i .i64 a0.Snap, .i .i64 a0.Ts, .sl a0.Reads.length (a0.Reads.flatMap eGApiRange), .sl a0.Writes.length (a0.Writes.flatMap eGApiWrite)], .box [.i .i64 a1.Token, .i .i64 a1.Snap, .i .i64 a1.Ts, .sl a1.Reads.length (a1.Reads.flatMap eGApiRange), .sl a1.Writes.length (a1.Writes.flatMap eGApiWrite)], .arr 36 5 ([a0, a1].flatMap eGR24Tx).length ([a0, a1].flatMap eGR24Tx), .arr 36 5 ([a0, a1].flatMap eGR24Tx).length ([a0, a1].flatMap eGR24Tx)]) (fun b12 => m4_l24_SerialAhead_k12 a0 a1 v1 v6 v9 b12 = some r) (fun _ _ => inbL_of rfl) (fun _ _ => blkinb_of rfl) (fun _ _ => Nat.le_of_ble_eq_true rfl) (fun b12 h => ?_) ?_
        · unfold m4_l24_SerialAhead_k12 at h
          refine cseq ?_
          refine cregion ?_
          refine sv rfl (opv_mv rfl) ?_
          refine sv rfl (opv_mv rfl) ?_
          refine ssplit 113 rfl (fun hc => ?_) (fun hc => ?_)
          · replace h := ite_t hc h
            clear hc
            refine son rfl rfl rfl ?_
            refine sv rfl (opv_fieldAddr_lp fi36_4 rfl) ?_
            refine son rfl rfl rfl ?_
            refine sv rfl (opv_load1 ti33 rfl (.lp _ _ _ rfl) rfl) ?_
            refine son rfl rfl rfl ?_
            refine sv rfl (opv_len_sl si33 rfl) ?_
            refine son rfl rfl rfl ?_
            refine sv rfl (opv_fieldAddr_lp fi36_4 rfl) ?_
            refine son rfl rfl rfl ?_
            refine sv rfl (opv_load1 ti33 rfl (.lp _ _ _ rfl) rfl) ?_
            refine son rfl rfl rfl ?_
            refine sv rfl (opv_len_sl si33 rfl) ?_
            refine son rfl rfl rfl ?_
            refine sv rfl (opv_add rfl rfl) ?_
            refine son rfl rfl rfl ?_
            refine sv rfl (opv_gtr rfl rfl) ?_
            refine son rfl rfl rfl ?_
            refine sv rfl (opv_mv rfl) ?_
            refine ssplit 122 rfl (fun hc => ?_) (fun hc => ?_)
            · replace h := ite_t hc h
              clear hc
              refine soff rfl rfl rfl rfl ?_
              refine soff rfl rfl rfl rfl ?_
              refine soff rfl rfl rfl rfl ?_
              refine soffu rfl rfl rfl ?_
              refine soffu rfl rfl rfl ?_
              refine soff rfl rfl rfl rfl ?_
              refine son rfl rfl rfl ?_
              refine sv rfl (opv_pick_t rfl rfl) ?_
              refine sv rfl (opv_pick_t rfl rfl) ?_
              refine sv rfl (opv_as rfl) ?_
              refine snil ?_
              refine cret ?_
              obtain rfl := Option.some.inj h
              refine ⟨Or.inr rfl, _, _, _, (resVs_cons (ResV.tmp _ _ rfl) resVs_nil), (pubA_id rfl), ?_⟩
              rfl
            · replace h := ite_f hc h
              clear hc
              refine son rfl rfl rfl ?_
              refine sv rfl (opv_mv rfl) ?_
              refine son rfl rfl rfl ?_
              refine sv rfl (opv_not rfl) ?_
              refine son rfl rfl rfl ?_
              refine sv rfl (opv_mv rfl) ?_
              refine ssplit 125 rfl (fun hc => ?_) (fun hc => ?_)
              · replace h := ite_t hc h
                clear hc
                refine son rfl rfl rfl ?_
                refine sv rfl (opv_mv rfl) ?_
                refine son rfl rfl rfl ?_
                refine sv rfl (opv_not rfl) ?_
                refine son rfl rfl rfl ?_
                refine sv rfl (opv_pick_t rfl rfl) ?_
                refine son rfl rfl rfl ?_
                refine sv rfl (opv_pick_f rfl rfl) ?_
                refine sv rfl (opv_pick_t rfl rfl) ?_
                refine sv rfl (opv_as rfl) ?_
                refine snil ?_
                refine cret ?_
                obtain rfl := Option.some.inj h
                refine ⟨Or.inr rfl, _, _, _, (resVs_cons (ResV.tmp _ _ rfl) resVs_nil), (pubA_id rfl), ?_⟩
                rfl
              · replace h := ite_f hc h
                clear hc
                refine soff rfl rfl rfl rfl ?_
                refine soff rfl rfl rfl rfl ?_
                refine son rfl rfl rfl ?_
                refine sv rfl (opv_pick_f rfl rfl) ?_
                refine son rfl rfl rfl ?_
                refine sv rfl (opv_pick_f rfl rfl) ?_
                refine sv rfl (opv_pick_t rfl rfl) ?_
                refine sv rfl (opv_as rfl) ?_
                refine snil ?_
                refine cret ?_
                obtain rfl := Option.some.inj h
                refine ⟨Or.inr rfl, _, _, _, (resVs_cons (ResV.tmp _ _ rfl) resVs_nil), (pubA_id rfl), ?_⟩
                rfl
          · replace h := ite_f hc h
            clear hc
            refine soff rfl rfl rfl rfl ?_
            refine soff rfl rfl rfl rfl ?_
            refine soff rfl rfl rfl rfl ?_
            refine soff rfl rfl rfl rfl ?_
            refine soff rfl rfl rfl rfl ?_
            refine soff rfl rfl rfl rfl ?_
            refine soff rfl rfl rfl rfl ?_
            refine soff rfl rfl rfl rfl ?_
            refine soff rfl rfl rfl rfl ?_
            refine soffu rfl rfl rfl ?_
            refine soffu rfl rfl rfl ?_
            refine soffu rfl rfl rfl ?_
            refine soffu rfl rfl rfl ?_
            refine soffu rfl rfl rfl ?_
            refine soffu rfl rfl rfl ?_
            refine soff rfl rfl rfl rfl ?_
            refine sv rfl (opv_pick_f rfl rfl) ?_
            refine sv rfl (opv_as rfl) ?_
            refine snil ?_
            refine cret ?_
            obtain rfl := Option.some.inj h
            refine ⟨Or.inr rfl, _, _, _, (resVs_cons (ResV.tmp _ _ rfl) resVs_nil), (pubA_id rfl), ?_⟩
            rfl
        · skip
          refine cregion ?_
          refine sv rfl (opv_fieldAddr_lp fi36_0 rfl) ?_
          refine sv rfl (opv_load1 ti3 rfl (.lp _ _ _ rfl) rfl) ?_
          refine sv rfl (opv_fieldAddr_lp fi36_0 rfl) ?_
          refine sv rfl (opv_load1 ti3 rfl (.lp _ _ _ rfl) rfl) ?_
          refine sv rfl (opv_ineq rfl rfl) ?_
          refine sv rfl (opv_mv rfl) ?_
          refine ssplit 94 rfl (fun hc => ?_) (fun hc => ?_)
          · replace h := ite_t hc h
            clear hc
            refine son rfl rfl rfl ?_
            refine sv rfl (opv_mv rfl) ?_
            refine sv rfl (opv_pick_t rfl rfl) ?_
            refine sv rfl (opv_mv rfl) ?_
            refine ssplit 97 rfl (fun hc => ?_) (fun hc => ?_)
            · replace h := ite_t hc h
              clear hc
              refine son rfl rfl rfl ?_
              refine sv rfl (opv_fieldAddr_lp fi36_2 rfl) ?_
              refine son rfl rfl rfl ?_
              refine sv rfl (opv_load1 ti3 rfl (.lp _ _ _ rfl) rfl) ?_
              refine son rfl rfl rfl ?_
              refine sv rfl (opv_fieldAddr_lp fi36_2 rfl) ?_
              refine son rfl rfl rfl ?_
              refine sv rfl (opv_load1 ti3 rfl (.lp _ _ _ rfl) rfl) ?_
              refine son rfl rfl rfl ?_
              refine sv rfl (opv_ineq rfl rfl) ?_
              refine sv rfl (opv_pick_t rfl rfl) ?_
              refine sv rfl (opv_mv rfl) ?_
              refine ssplit 104 rfl (fun hc => ?_) (fun hc => ?_)
              · replace h := ite_t hc h
                clear hc
                refine son rfl rfl rfl ?_
                refine sv rfl (opv_mv rfl) ?_
                refine son rfl rfl rfl ?_
                refine sv rfl (opv_not rfl) ?_
                refine sv rfl (opv_pick_t rfl rfl) ?_
                refine sv rfl (opv_mv rfl) ?_
                refine ssplit 108 rfl (fun hc => ?_) (fun hc => ?_)
                · replace h := ite_t hc h
                  clear hc
                  refine son rfl rfl rfl ?_
                  refine sv rfl (opv_mv rfl) ?_
                  refine son rfl rfl rfl ?_
                  refine sv rfl (opv_not rfl) ?_
                  refine sv rfl (opv_pick_t rfl rfl) ?_
                  refine snil ?_
                  refine ccond rfl (fun hc => ?_) (fun hc => ?_)
                  · replace h := ite_t hc h
                    clear hc
                    refine cseq ?_
                    refine cregion ?_
                    refine sv rfl (opv_as rfl) ?_
                    refine snil ?_
                    refine cret ?_
                    refine then_ret ?_
                    obtain rfl := Option.some.inj h
                    refine ⟨Or.inr rfl, _, _, _, (resVs_cons (ResV.tmp _ _ rfl) resVs_nil), (pubA_id rfl), ?_⟩
                    rfl
                  · replace h := ite_f hc h
                    clear hc
                    refine cskip ?_
                    refine then_normal ?_
                    exact ⟨(), _, h, ⟨rfl, rfl, rfl, rfl, rfl, trivial⟩, rfl⟩
                · replace h := ite_f hc h
                  clear hc
                  refine soff rfl rfl rfl rfl ?_
                  refine soff rfl rfl rfl rfl ?_
                  refine sv rfl (opv_pick_f rfl rfl) ?_
                  refine snil ?_
                  refine ccond rfl (fun hx => Bool.noConfusion hx) (fun _ => ?_)
                  refine cskip ?_
                  refine then_normal ?_
                  exact ⟨(), _, h, ⟨rfl, rfl, rfl, rfl, rfl, trivial⟩, rfl⟩
              · replace h := ite_f hc h
                clear hc
                refine soff rfl rfl rfl rfl ?_
                refine soff rfl rfl rfl rfl ?_
                refine sv rfl (opv_pick_f rfl rfl) ?_
                refine sv rfl (opv_mv rfl) ?_
                refine soff rfl rfl rfl rfl ?_
                refine soff rfl rfl rfl rfl ?_
                refine sv rfl (opv_pick_f rfl rfl) ?_
                refine snil ?_
                refine ccond rfl (fun hx => Bool.noConfusion hx) (fun _ => ?_)
                refine cskip ?_
                refine then_normal ?_
                exact ⟨(), _, h, ⟨rfl, rfl, rfl, rfl, rfl, trivial⟩, rfl⟩
            · replace h := ite_f hc h
              clear hc
              refine soff rfl rfl rfl rfl ?_
              refine soff rfl rfl rfl rfl ?_
              refine soff rfl rfl rfl rfl ?_
              refine soff rfl rfl rfl rfl ?_
              refine soff rfl rfl rfl rfl ?_
              refine sv rfl (opv_pick_f rfl rfl) ?_
              refine sv rfl (opv_mv rfl) ?_
              refine soff rfl rfl rfl rfl ?_
              refine soff rfl rfl rfl rfl ?_
              refine sv rfl (opv_pick_f rfl rfl) ?_
              refine sv rfl (opv_mv rfl) ?_
              refine soff rfl rfl rfl rfl ?_
              refine soff rfl rfl rfl rfl ?_
              refine sv rfl (opv_pick_f rfl rfl) ?_
              refine snil ?_
              refine ccond rfl (fun hx => Bool.noConfusion hx) (fun _ => ?_)
              refine cskip ?_
              refine then_normal ?_
              exact ⟨(), _, h, ⟨rfl, rfl, rfl, rfl, rfl, trivial⟩, rfl⟩
          · replace h := ite_f hc h
            clear hc
            refine soff rfl rfl rfl rfl ?_
            refine sv rfl (opv_pick_f rfl rfl) ?_
            refine sv rfl (opv_mv rfl) ?_
            refine soff rfl rfl rfl rfl ?_
            refine soff rfl rfl rfl rfl ?_
            refine soff rfl rfl rfl rfl ?_
            refine soff rfl rfl rfl rfl ?_
            refine soff rfl rfl rfl rfl ?_
            refine sv rfl (opv_pick_f rfl rfl) ?_
            refine sv rfl (opv_mv rfl) ?_
            refine soff rfl rfl rfl rfl ?_
            refine soff rfl rfl rfl rfl ?_
            refine sv rfl (opv_pick_f rfl rfl) ?_
            refine sv rfl (opv_mv rfl) ?_
            refine soff rfl rfl rfl rfl ?_
            refine soff rfl rfl rfl rfl ?_
            refine sv rfl (opv_pick_f rfl rfl) ?_
            refine snil ?_
            refine ccond rfl (fun hx => Bool.noConfusion hx) (fun _ => ?_)
            refine cskip ?_
            refine then_normal ?_
            exact ⟨(), _, h, ⟨rfl, rfl, rfl, rfl, rfl, trivial⟩, rfl⟩
      · skip
        refine cblock ?_
        obtain ⟨x13, hx13, ho13⟩ := bind_eq h
        refine awc_loop (G := Nat × (Bool × Int)) (fun g => [(2, .s (.one (.lp 0 0))), (3, .s (.one (.lp 1 0))), (5, .s (.one (.b v1))), (7, .s (.one (.b v6))), (8, .s (.one (.b v9))), (9, .s (.one (.b g.2.1))), (10, .s (.one (.i .i64 g.2.2)))]) (fun g => [.box [.i .i64 a0.Token, .i .i64 a0.Snap, .i .i64 a0.Ts, .sl a0.Reads.length (a0.Reads.flatMap eGApiRange), .sl a0.Writes.length (a0.Writes.flatMap eGApiWrite)], .box [.i .i64 a1.Token, .i .i64 a1.Snap, .i .i64 a1.Ts, .sl a1.Reads.length (a1.Reads.flatMap eGApiRange), .sl a1.Writes.length (a1.Writes.flatMap eGApiWrite)], .arr 36 5 ([a0, a1].flatMap eGR24Tx).length ([a0, a1].flatMap eGR24Tx), .arr 36 5 ([a0, a1].flatMap eGR24Tx).length ([a0, a1].flatMap eGR24Tx)]) (fun g => iterB (m4_l24_SerialAhead_s13 a0 a1) g.1 g.2 = some x13) (fun g => g.1) (fuel, (false, 0)) hx13 ⟨rfl, rfl, rfl, rfl, rfl, rfl, rfl, trivial⟩ [] rfl (fun _ _ => inbL_of rfl) (fun _ _ => blkinb_of rfl) (fun _ _ => Nat.le_of_ble_eq_true rfl) ?_
        clear hx13 h
        rintro ⟨n13, s13⟩ h
        obtain ⟨n13, y13, rfl, h, hk13⟩ := iterB_eq h
        unfold m4_l24_SerialAhead_s13 at h
        refine cseq ?_
        refine cseq ?_
        refine cregion ?_
        refine sv rfl (opv_mv rfl) ?_
        refine sv rfl (opv_fieldAddr_lp fi36_4 rfl) ?_
        refine sv rfl (opv_load1 ti33 rfl (.lp _ _ _ rfl) rfl) ?_
        refine sv rfl (opv_len_sl si33 rfl) ?_
        refine sv rfl (opv_lss rfl rfl) ?_
        refine snil ?_
        refine ccond rfl (fun hc => ?_) (fun hc => ?_)
        · replace h := ite_t hc h
          clear hc
          refine cskip ?_
          refine then_normal ?_
          refine cseq ?_
          refine cblock ?_
          refine cseq ?_
          refine cregion ?_
          refine sv rfl (opv_as rfl) ?_
          refine snil ?_
          refine cjoinb (Bool) (fun b14 => [(2, .s (.one (.lp 0 0))), (3, .s (.one (.lp 1 0))), (5, .s (.one (.b v1))), (7, .s (.one (.b v6))), (8, .s (.one (.b v9))), (9, .s (.one (.b b14))), (10, .s (.one (.i .i64 s13.2)))]) (fun b14 => [.box [.i .i64 a0.Token, .i .i64 a0.Snap, .i .i64 a0.Ts, .sl a0.Reads.length (a0.Reads.flatMap eGApiRange), .sl a0.Writes.length (a0.Writes.flatMap eGApiWrite)], .box [.i .i64 a1.Token, .i .i64 a1.Snap, .i .i64 a1.Ts, .sl a1.Reads.length (a1.Reads.flatMap eGApiRange), .sl a1.Writes.length (a1.Writes.flatMap eGApiWrite)], .arr 36 5 ([a0, a1].flatMap eGR24Tx).length ([a0, a1].flatMap eGR24Tx), .arr 36 5 ([a0, a1].flatMap eGR24Tx).length ([a0, a1].flatMap eGR24Tx)]) (fun b14 => m4_l24_SerialAhead_k14 s13 b14 = some y13) (fun _ _ => inbL_of rfl) (fun _ _ => blkinb_of rfl) (fun _ _ => Nat.le_of_ble_eq_true rfl) (fun b14 h => ?_) ?_
          · unfold m4_l24_SerialAhead_k14 at h
            refine cregion ?_
            refine sv rfl (opv_mv rfl) ?_
            refine sv rfl (opv_add rfl rfl) ?_
            refine sv rfl (opv_as rfl) ?_
            refine snil ?_
            obtain rfl := Option.some.inj h
            exact ⟨(n13, (b14, (wI (s13.2 + 1)))), _, hk13, ⟨rfl, rfl, rfl, rfl, rfl, rfl, rfl, trivial⟩, rfl, Nat.lt_succ_self _⟩
          · skip
            refine cblock ?_
            obtain ⟨x15, hx15, ho15⟩ := bind_eq h
            refine awc_loop (G := Nat × (Bool × Int)) (fun g => [(2, .s (.one (.lp 0 0))), (3, .s (.one (.lp 1 0))), (5, .s (.one (.b v1))), (7, .s (.one (.b v6))), (8, .s (.one (.b v9))), (9, .s (.one (.b g.2.1))), (10, .s (.one (.i .i64 s13.2))), (11, .s (.one (.i .i64 g.2.2)))]) (fun g => [.box [.i .i64 a0.Token, .i .i64 a0.Snap, .i .i64 a0.Ts, .sl a0.Reads.length (a0.Reads.flatMap eGApiRange), .sl a0.Writes.length (a0.Writes.flatMap eGApiWrite)], .box [.i .i64 a1.Token, .i .i64 a1.Snap, .i .i64 a1.Ts, .sl a1.Reads.length (a1.Reads.flatMap eGApiRange), .sl a1.Writes.length (a1.Writes.flatMap eGApiWrite)], .arr 36 5 ([a0, a1].flatMap eGR24Tx).length ([a0, a1].flatMap eGR24Tx), .arr 36 5 ([a0, a1].flatMap eGR24Tx).length ([a0, a1].flatMap eGR24Tx)]) (fun g => iterB (m4_l24_SerialAhead_s15 a0 a1 s13) g.1 g.2 = some x15) (fun g => g.1) (fuel, (s13.1, 0)) hx15 ⟨rfl, rfl, rfl, rfl, rfl, rfl, rfl, rfl, trivial⟩ [] rfl (fun _ _ => inbL_of rfl) (fun _ _ => blkinb_of rfl) (fun _ _ => Nat.le_of_ble_eq_true rfl) ?_
            clear hx15 h
            rintro ⟨n15, s15⟩ h
            obtain ⟨n15, y15, rfl, h, hk15⟩ := iterB_eq h
            unfold m4_l24_SerialAhead_s15 at h
            refine cseq ?_
            refine cseq ?_
            refine cregion ?_
            refine sv rfl (opv_mv rfl) ?_
            refine sv rfl (opv_fieldAddr_lp fi36_4 rfl) ?_
            refine sv rfl (opv_load1 ti33 rfl (.lp _ _ _ rfl) rfl) ?_
            refine sv rfl (opv_len_sl si33 rfl) ?_
            refine sv rfl (opv_lss rfl rfl) ?_
            refine snil ?_
            refine ccond rfl (fun hc => ?_) (fun hc => ?_)
            · replace h := ite_t hc h
              clear hc
              refine cskip ?_
              refine then_normal ?_
              refine cseq ?_
              refine cblock ?_
              refine cdrawL mixed (by kernel_rfl) ?_
              refine dv rfl (opv_mv rfl) ?_
              refine dv rfl (opv_mv rfl) ?_
              refine dsplit 72 rfl (fun hc => ?_) (fun hc => ?_)
              · replace h := ite_t hc h
                clear hc
                refine doff rfl rfl rfl rfl ?_
                refine doff rfl rfl rfl rfl ?_
                refine doff rfl rfl rfl rfl ?_
                refine doff rfl rfl rfl rfl ?_
                refine doff rfl rfl rfl rfl ?_
                refine doff rfl rfl rfl rfl ?_
                refine doff rfl rfl rfl rfl ?_
                refine doff rfl rfl rfl rfl ?_
                refine doff rfl rfl rfl rfl ?_
                refine doff rfl rfl rfl rfl ?_
                refine doff rfl rfl rfl rfl ?_
                refine doff rfl rfl rfl rfl ?_
                refine doff rfl rfl rfl rfl ?_
                refine doff rfl rfl rfl rfl ?_
                refine doff rfl rfl rfl rfl ?_
                refine dv rfl (opv_pick_t rfl rfl) ?_
                refine dv rfl (opv_as rfl) ?_
                refine dnil ?_
                refine block_normal ?_
                refine then_normal ?_
                refine cregion ?_
                refine sv rfl (opv_mv rfl) ?_
                refine sv rfl (opv_add rfl rfl) ?_
                refine sv rfl (opv_as rfl) ?_
                refine snil ?_
                obtain rfl := Option.some.inj h
                exact ⟨(n15, (true, (wI (s15.2 + 1)))), _, hk15, ⟨rfl, rfl, rfl, rfl, rfl, rfl, rfl, rfl, trivial⟩, rfl, Nat.lt_succ_self _⟩
              · replace h := ite_f hc h
                clear hc
                refine dvg rfl rfl rfl (opv_fieldAddr_lp fi36_4 rfl) ?_
                refine dvg rfl rfl rfl (opv_load1 ti33 rfl (.lp _ _ _ rfl) rfl) ?_
                refine dvg rfl rfl rfl (opv_mv rfl) ?_
                obtain ⟨u16, hu16, h⟩ := bind_eq h
                refine dvg rfl rfl rfl (opv_ix (f := eGApiWrite) si33 (fun _ => rfl) rfl rfl rfl rfl hu16) ?_
                refine dvg rfl rfl rfl (opv_fieldAddr_cp fi39_0 rfl) ?_
                refine dvg rfl rfl rfl (opv_load1 ti37 rfl (.cp _) rfl) ?_
                refine dvg rfl rfl rfl (opv_bs (l := u16.Key) Try.underlying37 Try.underlying5 Try.underlying9 rfl rfl rfl) ?_
                refine dvg rfl rfl rfl (opv_fieldAddr_lp fi36_4 rfl) ?_
                refine dvg rfl rfl rfl (opv_load1 ti33 rfl (.lp _ _ _ rfl) rfl) ?_
                refine dvg rfl rfl rfl (opv_mv rfl) ?_
                obtain ⟨u17, hu17, h⟩ := bind_eq h
                refine dvg rfl rfl rfl (opv_ix (f := eGApiWrite) si33 (fun _ => rfl) rfl rfl rfl rfl hu17) ?_
                refine dvg rfl rfl rfl (opv_fieldAddr_cp fi39_0 rfl) ?_
                refine dvg rfl rfl rfl (opv_load1 ti37 rfl (.cp _) rfl) ?_
                refine dvg rfl rfl rfl (opv_bs (l := u17.Key) Try.underlying37 Try.underlying5 Try.underlying9 rfl rfl rfl) ?_
                refine dvg rfl rfl rfl (opv_seql' rfl rfl) ?_
                refine dv rfl (opv_pick_f rfl rfl) ?_
                refine dv rfl (opv_as rfl) ?_
                refine dnil ?_
                refine block_normal ?_
                refine then_normal ?_
                refine cregion ?_
                refine sv rfl (opv_mv rfl) ?_
                refine sv rfl (opv_add rfl rfl) ?_
                refine sv rfl (opv_as rfl) ?_
                refine snil ?_
                obtain rfl := Option.some.inj h
                exact ⟨(n15, ((u16.Key == u17.Key), (wI (s15.2 + 1)))), _, hk15, ⟨rfl, rfl, rfl, rfl, rfl, rfl, rfl, rfl, trivial⟩, rfl, Nat.lt_succ_self _⟩
            · replace h := ite_f hc h
              clear hc
              refine cexit ?_
              refine then_exit ?_
              refine then_exit ?_
              refine block_hit ?_
              refine block_normal ?_
              refine then_normal ?_
              obtain rfl := Option.some.inj h
              obtain rfl : _ = x15 := hk15
              exact ⟨s15.1, _, ho15, ⟨rfl, rfl, rfl, rfl, rfl, rfl, rfl, trivial⟩, rfl⟩
        · replace h := ite_f hc h
          clear hc
          refine cexit ?_
          refine then_exit ?_
          refine then_exit ?_
          refine block_hit ?_
          refine then_normal ?_
          obtain rfl := Option.some.inj h
          obtain rfl : _ = x13 := hk13
          exact ⟨s13.1, _, ho13, ⟨rfl, rfl, rfl, rfl, rfl, rfl, trivial⟩, rfl⟩
    · skip
      refine cdraw mixed (by kernel_rfl) ?_
      refine dv rfl (opv_mv rfl) ?_
      obtain ⟨u20, hu20, h⟩ := bind_eq h
      refine dv rfl (opv_ix (f := eGSerialTx) si26 (fun _ => rfl) rfl rfl rfl rfl hu20) ?_
      refine dv rfl (opv_loadNe (ys := [.i .i64 u20.Token, .i .i64 u20.Snap, .i .i64 u20.Ts, .sl u20.Reads.length (u20.Reads.flatMap eGApiRange), .sl u20.Writes.length (u20.Writes.flatMap eGApiWrite)]) ti35 rfl (.cp _) rfl rfl) ?_
      refine dv rfl (opv_mv rfl) ?_
      obtain ⟨u21, hu21, h⟩ := bind_eq h
      refine dv rfl (opv_ix (f := eGSerialTx) si26 (fun _ => rfl) rfl rfl rfl rfl hu21) ?_
      refine dv rfl (opv_loadNe (ys := [.i .i64 u21.Token, .i .i64 u21.Snap, .i .i64 u21.Ts, .sl u21.Reads.length (u21.Reads.flatMap eGApiRange), .sl u21.Writes.length (u21.Writes.flatMap eGApiWrite)]) ti35 rfl (.cp _) rfl rfl) ?_
      obtain ⟨v22, hv22, h⟩ := bind_eq h
      refine dd rfl (opD_call fn11 (opnds_cons rfl (opnds_cons rfl opnds_nil)) rfl (m11_serial_Ahead_c hv22)) ?_
      refine dv rfl (opv_mv rfl) ?_
      refine dsplit 44 rfl (fun hc => ?_) (fun hc => ?_)
      · replace h := ite_t hc h
        clear hc
        refine doff rfl rfl rfl rfl ?_
        refine doff rfl rfl rfl rfl ?_
        refine doff rfl rfl rfl rfl ?_
        refine doff rfl rfl rfl rfl ?_
        refine doff rfl rfl rfl rfl ?_
        refine doff rfl rfl rfl rfl ?_
        refine doffu rfl rfl rfl ?_
        refine doffu rfl rfl rfl ?_
        refine doffu rfl rfl rfl ?_
        refine doffu rfl rfl rfl ?_
        refine doff rfl rfl rfl rfl ?_
        refine dv rfl (opv_pick_t rfl rfl) ?_
        refine dnil ?_
        refine then_normal ?_
        refine ccond rfl (fun _ => ?_) (fun hx => Bool.noConfusion hx)
        refine cseq ?_
        refine cregion ?_
        refine sv rfl (opv_as rfl) ?_
        refine snil ?_
        refine cret ?_
        refine then_ret ?_
        obtain rfl := Option.some.inj h
        refine ⟨Or.inr rfl, _, _, _, (resVs_cons (ResV.tmp _ _ rfl) resVs_nil), (pubA_id rfl), ?_⟩
        rfl
      · replace h := ite_f hc h
        clear hc
        refine dvg rfl rfl rfl (opv_fieldAddr_lp fi36_0 rfl) ?_
        refine dvg rfl rfl rfl (opv_load1 ti3 rfl (.lp _ _ _ rfl) rfl) ?_
        refine dvg rfl rfl rfl (opv_fieldAddr_lp fi36_0 rfl) ?_
        refine dvg rfl rfl rfl (opv_load1 ti3 rfl (.lp _ _ _ rfl) rfl) ?_
        refine dvg rfl rfl rfl (opv_ieql rfl rfl) ?_
        refine dvg rfl rfl rfl (opv_mv rfl) ?_
        refine dsplit 50 rfl (fun hc => ?_) (fun hc => ?_)
        · replace h := ite_t hc h
          clear hc
          refine dvg rfl rfl rfl (opv_mv rfl) ?_
          refine dvg rfl rfl rfl (opv_mv rfl) ?_
          refine dsplit 52 rfl (fun hc => ?_) (fun hc => ?_)
          · replace h := ite_t hc h
            clear hc
            refine doff rfl rfl rfl rfl ?_
            refine dvg rfl rfl rfl (opv_pick_t rfl rfl) ?_
            refine dvg rfl rfl rfl (opv_pick_t rfl rfl) ?_
            refine dv rfl (opv_pick_f rfl rfl) ?_
            refine dnil ?_
            refine then_normal ?_
            refine ccond rfl (fun _ => ?_) (fun hx => Bool.noConfusion hx)
            refine cseq ?_
            refine cregion ?_
            refine sv rfl (opv_as rfl) ?_
            refine snil ?_
            refine cret ?_
            refine then_ret ?_
            obtain rfl := Option.some.inj h
            refine ⟨Or.inr rfl, _, _, _, (resVs_cons (ResV.tmp _ _ rfl) resVs_nil), (pubA_id rfl), ?_⟩
            rfl
          · replace h := ite_f hc h
            clear hc
            refine dvg rfl rfl rfl (opv_mv rfl) ?_
            refine dvg rfl rfl rfl (opv_pick_f rfl rfl) ?_
            refine dvg rfl rfl rfl (opv_pick_t rfl rfl) ?_
            refine dv rfl (opv_pick_f rfl rfl) ?_
            refine dnil ?_
            refine then_normal ?_
            refine ccond rfl (fun hc => ?_) (fun hc => ?_)
            · replace h := ite_t hc h
              clear hc
              refine cseq ?_
              refine cregion ?_
              refine sv rfl (opv_as rfl) ?_
              refine snil ?_
              refine cret ?_
              refine then_ret ?_
              obtain rfl := Option.some.inj h
              refine ⟨Or.inr rfl, _, _, _, (resVs_cons (ResV.tmp _ _ rfl) resVs_nil), (pubA_id rfl), ?_⟩
              rfl
            · replace h := ite_f hc h
              clear hc
              refine cskip ?_
              refine then_normal ?_
              exact ⟨(), _, h, ⟨rfl, rfl, rfl, rfl, rfl, trivial⟩, rfl⟩
        · replace h := ite_f hc h
          clear hc
          refine doff rfl rfl rfl rfl ?_
          refine doff rfl rfl rfl rfl ?_
          refine doffu rfl rfl rfl ?_
          refine doff rfl rfl rfl rfl ?_
          refine dvg rfl rfl rfl (opv_pick_f rfl rfl) ?_
          refine dv rfl (opv_pick_f rfl rfl) ?_
          refine dnil ?_
          refine then_normal ?_
          refine ccond rfl (fun hx => Bool.noConfusion hx) (fun _ => ?_)
          refine cskip ?_
          refine then_normal ?_
          exact ⟨(), _, h, ⟨rfl, rfl, rfl, rfl, rfl, trivial⟩, rfl⟩

def m5_l24_SerialBegins_k9 (v1 : Bool) (b6 : Int) (v8 : (List Int) × Bool) (b9 : Unit) : Option Bool :=
  if v1 then (if v8.2 then (some (decide ((v8.1.length : Int) = b6))) else (some false)) else (some false)

def m5_l24_SerialBegins_s10 (v8 : (List Int) × Bool) (s10 : Int) : Option (LR (Int) (Unit) (Bool)) :=
  if (decide (s10 < (v8.1.length : Int))) then ((idx v8.1 s10).bind fun u11 => if (!decide (u11 = s10)) then (some (.ret false)) else (some (.cont (wI (s10 + 1))))) else (some (.brk ()))

def m5_l24_SerialBegins_k7 (v1 : Bool) (b6 : Int) (b7 : (List GSerialTx)) : Option Bool :=
  (m10_serial_Order b7).bind fun v8 => (iter (m5_l24_SerialBegins_s10 v8) fuel 0).bind fun x => match x with | .inl r => some r | .inr e12 => m5_l24_SerialBegins_k9 v1 b6 v8 e12

def m5_l24_SerialBegins_k14 (v3 : (List GSerialTx)) (v4 : (List Int) × Bool) (s13 : Int × (List GSerialTx)) (b14 : Unit) : Option (LR (Int × (List GSerialTx)) ((List GSerialTx)) (Bool)) :=
  (idx v4.1 s13.1).bind fun u15 => (idx v3 u15).bind fun u16 => if (s13.2.length + [u16].length) * 72 ≤ 140737488355328 then (some (.cont ((wI (s13.1 + 1)), (s13.2 ++ [u16])))) else none

def m5_l24_SerialBegins_s13 (v3 : (List GSerialTx)) (v4 : (List Int) × Bool) (b6 : Int) (s13 : Int × (List GSerialTx)) : Option (LR (Int × (List GSerialTx)) ((List GSerialTx)) (Bool)) :=
  if (decide (s13.1 < b6)) then ((idx v4.1 s13.1).bind fun u18 => if (decide (u18 < 0)) then (some (.ret false)) else ((idx v4.1 s13.1).bind fun u19 => if (decide ((v3.length : Int) ≤ u19)) then (some (.ret false)) else (m5_l24_SerialBegins_k14 v3 v4 s13 ()))) else (some (.brk s13.2))

def m5_l24_SerialBegins_k6 (v1 : Bool) (v3 : (List GSerialTx)) (v4 : (List Int) × Bool) (b6 : Int) : Option Bool :=
  (iter (m5_l24_SerialBegins_s13 v3 v4 b6) fuel (0, ([] : List GSerialTx))).bind fun x => match x with | .inl r => some r | .inr e20 => m5_l24_SerialBegins_k7 v1 b6 e20

def m5_l24_SerialBegins_k5 (a1 : Int) (v1 : Bool) (v3 : (List GSerialTx)) (v4 : (List Int) × Bool) (b5 : Unit) : Option Bool :=
  if (decide (0 < (v4.1.length : Int))) then (if (v4.1.length : Int) ≠ 0 then (m5_l24_SerialBegins_k6 v1 v3 v4 ((wI ((BitVec.ofInt 64 a1 &&& BitVec.ofInt 64 255).toNat : Int)).tmod (v4.1.length : Int))) else none) else (m5_l24_SerialBegins_k6 v1 v3 v4 0)
def m5_l24_SerialBegins (a0 : List GR24Tx) (a1 : Int) : Option Bool :=
  (m6_l24_awake).bind fun v1 => (m7_l24_few a0).bind fun v2 => if (!v2) then (some v1) else ((m9_l24_ours a0).bind fun v3 => (m10_serial_Order v3).bind fun v4 => if (!v4.2) then (some v1) else (if (!decide ((v4.1.length : Int) = (v3.length : Int))) then (some v1) else (m5_l24_SerialBegins_k5 a1 v1 v3 v4 ())))

set_option maxRecDepth 100000 in
theorem m5_l24_SerialBegins_c {a0 : List GR24Tx} {a1 : Int} {r : Bool} (h : m5_l24_SerialBegins a0 a1 = some r) : CallsA Try.prog 5 [.one (.sl a0.length (a0.flatMap eGR24Tx)), .one (.i .i64 a1)] (· = .s (.one (.b r))) := by
  unfold m5_l24_SerialBegins at h
  refine callsA_of Try.func5 rfl (nt := 101) rfl (Nat.le_of_ble_eq_true rfl) ?_
  intro w0 S0
  refine cseq ?_
  refine cregion ?_
  refine sv rfl (opv_as rfl) ?_
  refine snil ?_
  refine cseq ?_
  refine cregion ?_
  obtain ⟨v1, hv1, h⟩ := bind_eq h
  refine scall1 rfl fn6 opnds_nil (pubA_id rfl) (m6_l24_awake_c hv1) ?_
  refine sv rfl (opv_as rfl) ?_
  refine snil ?_
  refine cseq ?_
  refine cseq ?_
  refine cregion ?_
  refine sv rfl (opv_mv rfl) ?_
  obtain ⟨v2, hv2, h⟩ := bind_eq h
  refine scall1 rfl fn7 (opnds_cons rfl opnds_nil) (pubA_id rfl) (m7_l24_few_c hv2) ?_
  refine sv rfl (opv_not rfl) ?_
  refine snil ?_
  refine ccond rfl (fun hc => ?_) (fun hc => ?_)
  · replace h := ite_t hc h
    clear hc
    refine cseq ?_
    refine cregion ?_
    refine sv rfl (opv_mv rfl) ?_
    refine sv rfl (opv_as rfl) ?_
    refine snil ?_
    refine cret ?_
    refine then_ret ?_
    obtain rfl := Option.some.inj h
    refine ⟨Or.inr rfl, _, _, _, (resVs_cons (ResV.tmp _ _ rfl) resVs_nil), (pubA_id rfl), ?_⟩
    rfl
  · replace h := ite_f hc h
    clear hc
    refine cskip ?_
    refine then_normal ?_
    refine cseq ?_
    refine cregion ?_
    refine sv rfl (opv_mv rfl) ?_
    obtain ⟨v3, hv3, h⟩ := bind_eq h
    refine scall1 rfl fn9 (opnds_cons rfl opnds_nil) (pubA_id rfl) (m9_l24_ours_c hv3) ?_
    refine sv rfl (opv_as rfl) ?_
    refine snil ?_
    refine cseq ?_
    refine cregion ?_
    refine sv rfl (opv_mv rfl) ?_
    obtain ⟨v4, hv4, h⟩ := bind_eq h
    refine scall1 rfl fn10 (opnds_cons rfl opnds_nil) (pubA_id rfl) (m10_serial_Order_c hv4) ?_
    refine sv rfl (opv_mvt rfl) ?_
    refine sv rfl (opv_extract rfl rfl) ?_
    refine sv rfl (opv_extract rfl rfl) ?_
    refine sv rfl (opv_as rfl) ?_
    refine sv rfl (opv_as rfl) ?_
    refine snil ?_
    refine cseq ?_
    refine cseq ?_
    refine cjoin3 (Unit) (fun b5 => [(1, .s (.one (.i .i64 a1))), (5, .s (.one (.b v1))), (6, .s (.one (.sl v3.length (v3.flatMap eGSerialTx)))), (7, .s (.one (.sl v4.1.length (v4.1.flatMap eI))))]) (fun b5 => []) (fun b5 => m5_l24_SerialBegins_k5 a1 v1 v3 v4 b5 = some r) (fun _ _ => inbL_of rfl) (fun _ _ => blkinb_of rfl) (fun _ _ => Nat.le_of_ble_eq_true rfl) (fun b5 h => ?_) ?_
    · unfold m5_l24_SerialBegins_k5 at h
      refine cseq ?_
      refine cregion ?_
      refine sv rfl (opv_as rfl) ?_
      refine snil ?_
      refine cseq ?_
      refine cseq ?_
      refine cregion ?_
      refine sv rfl (opv_mv rfl) ?_
      refine sv rfl (opv_len_sl si28 rfl) ?_
      refine sv rfl (opv_gtr rfl rfl) ?_
      refine snil ?_
      refine cjoin (Int) (fun b6 => [(5, .s (.one (.b v1))), (6, .s (.one (.sl v3.length (v3.flatMap eGSerialTx)))), (7, .s (.one (.sl v4.1.length (v4.1.flatMap eI)))), (9, .s (.one (.i .i64 b6)))]) (fun b6 => []) (fun b6 => m5_l24_SerialBegins_k6 v1 v3 v4 b6 = some r) (fun _ _ => inbL_of rfl) (fun _ _ => blkinb_of rfl) (fun _ _ => Nat.le_of_ble_eq_true rfl) (fun b6 h => ?_) ?_
      · unfold m5_l24_SerialBegins_k6 at h
        refine cseq ?_
        refine cregion ?_
        refine sv rfl (opv_as rfl) ?_
        refine snil ?_
        refine cseq ?_
        refine cseq ?_
        refine cregion ?_
        refine sv rfl (opv_as rfl) ?_
        refine snil ?_
        refine sadopt_c 35 5 10 (by decide) rfl ?_
        refine cjoin ((List GSerialTx)) (fun b7 => [(5, .s (.one (.b v1))), (9, .s (.one (.i .i64 b6))), (10, .s (.one (.ls 0 b7.length)))]) (fun b7 => [.arr 35 5 0 (b7.flatMap eGSerialTx)]) (fun b7 => m5_l24_SerialBegins_k7 v1 b6 b7 = some r) (fun _ _ => inbL_of rfl) (fun _ _ => blkinb_of rfl) (fun _ _ => Nat.le_of_ble_eq_true rfl) (fun b7 h => ?_) ?_
        · unfold m5_l24_SerialBegins_k7 at h
          refine cseq ?_
          refine cregion ?_
          refine sv rfl (opv_mv rfl) ?_
          refine spub 75 rfl (by (repeat' first | exact PubA.nil _ | apply PubA.cons | apply PubV.one | apply PubV.agg | exact PubL.nil | exact PubL.ls _ _ _ _ _ _ rfl (flat_len (f := eGSerialTx) (fun _ => rfl) _).symm | exact PubL.id _ rfl | exact PubLs.nil _ | apply PubLs.cons)) ?_
          obtain ⟨v8, hv8, h⟩ := bind_eq h
          refine scall1 rfl fn10 (opnds_cons rfl opnds_nil) (pubA_id rfl) (m10_serial_Order_c hv8) ?_
          refine sv rfl (opv_mvt rfl) ?_
          refine sv rfl (opv_extract rfl rfl) ?_
          refine sv rfl (opv_extract rfl rfl) ?_
          refine sv rfl (opv_as rfl) ?_
          refine sv rfl (opv_as rfl) ?_
          refine snil ?_
          refine cseq ?_
          refine cseq ?_
          refine cregion ?_
          refine sv rfl (opv_as rfl) ?_
          refine snil ?_
          refine cjoin (Unit) (fun b9 => [(5, .s (.one (.b v1))), (9, .s (.one (.i .i64 b6))), (12, .s (.one (.sl v8.1.length (v8.1.flatMap eI)))), (13, .s (.one (.b v8.2)))]) (fun b9 => [.arr 35 5 (b7.flatMap eGSerialTx).length (b7.flatMap eGSerialTx)]) (fun b9 => m5_l24_SerialBegins_k9 v1 b6 v8 b9 = some r) (fun _ _ => inbL_of rfl) (fun _ _ => blkinb_of rfl) (fun _ _ => Nat.le_of_ble_eq_true rfl) (fun b9 h => ?_) ?_
          · unfold m5_l24_SerialBegins_k9 at h
            refine cseq ?_
            refine cregion ?_
            refine sv rfl (opv_mv rfl) ?_
            refine sv rfl (opv_mv rfl) ?_
            refine ssplit 92 rfl (fun hc => ?_) (fun hc => ?_)
            · replace h := ite_t hc h
              clear hc
              refine son rfl rfl rfl ?_
              refine sv rfl (opv_mv rfl) ?_
              refine sv rfl (opv_pick_t rfl rfl) ?_
              refine sv rfl (opv_mv rfl) ?_
              refine ssplit 95 rfl (fun hc => ?_) (fun hc => ?_)
              · replace h := ite_t hc h
                clear hc
                refine son rfl rfl rfl ?_
                refine sv rfl (opv_mv rfl) ?_
                refine son rfl rfl rfl ?_
                refine sv rfl (opv_len_sl si28 rfl) ?_
                refine son rfl rfl rfl ?_
                refine sv rfl (opv_mv rfl) ?_
                refine son rfl rfl rfl ?_
                refine sv rfl (opv_ieql rfl rfl) ?_
                refine sv rfl (opv_pick_t rfl rfl) ?_
                refine sv rfl (opv_as rfl) ?_
                refine snil ?_
                refine cret ?_
                obtain rfl := Option.some.inj h
                refine ⟨Or.inr rfl, _, _, _, (resVs_cons (ResV.tmp _ _ rfl) resVs_nil), (pubA_id rfl), ?_⟩
                rfl
              · replace h := ite_f hc h
                clear hc
                refine soff rfl rfl rfl rfl ?_
                refine soff rfl rfl rfl rfl ?_
                refine soff rfl rfl rfl rfl ?_
                refine soff rfl rfl rfl rfl ?_
                refine sv rfl (opv_pick_f rfl rfl) ?_
                refine sv rfl (opv_as rfl) ?_
                refine snil ?_
                refine cret ?_
                obtain rfl := Option.some.inj h
                refine ⟨Or.inr rfl, _, _, _, (resVs_cons (ResV.tmp _ _ rfl) resVs_nil), (pubA_id rfl), ?_⟩
                rfl
            · replace h := ite_f hc h
              clear hc
              refine soff rfl rfl rfl rfl ?_
              refine sv rfl (opv_pick_f rfl rfl) ?_
              refine sv rfl (opv_mv rfl) ?_
              refine soff rfl rfl rfl rfl ?_
              refine soff rfl rfl rfl rfl ?_
              refine soff rfl rfl rfl rfl ?_
              refine soff rfl rfl rfl rfl ?_
              refine sv rfl (opv_pick_f rfl rfl) ?_
              refine sv rfl (opv_as rfl) ?_
              refine snil ?_
              refine cret ?_
              obtain rfl := Option.some.inj h
              refine ⟨Or.inr rfl, _, _, _, (resVs_cons (ResV.tmp _ _ rfl) resVs_nil), (pubA_id rfl), ?_⟩
              rfl
          · skip
            refine cblock ?_
            obtain ⟨x10, hx10, ho10⟩ := bind_eq h
            refine awc_loop (G := Nat × (Int)) (fun g => [(5, .s (.one (.b v1))), (9, .s (.one (.i .i64 b6))), (12, .s (.one (.sl v8.1.length (v8.1.flatMap eI)))), (13, .s (.one (.b v8.2))), (14, .s (.one (.i .i64 g.2)))]) (fun g => [.arr 35 5 (b7.flatMap eGSerialTx).length (b7.flatMap eGSerialTx)]) (fun g => iter (m5_l24_SerialBegins_s10 v8) g.1 g.2 = some x10) (fun g => g.1) (fuel, 0) hx10 ⟨rfl, rfl, rfl, rfl, rfl, trivial⟩ [] rfl (fun _ _ => inbL_of rfl) (fun _ _ => blkinb_of rfl) (fun _ _ => Nat.le_of_ble_eq_true rfl) ?_
            clear hx10 h
            rintro ⟨n10, s10⟩ h
            obtain ⟨n10, y10, rfl, h, hk10⟩ := iter_eq h
            unfold m5_l24_SerialBegins_s10 at h
            refine cseq ?_
            refine cseq ?_
            refine cregion ?_
            refine sv rfl (opv_mv rfl) ?_
            refine sv rfl (opv_mv rfl) ?_
            refine sv rfl (opv_len_sl si28 rfl) ?_
            refine sv rfl (opv_lss rfl rfl) ?_
            refine snil ?_
            refine ccond rfl (fun hc => ?_) (fun hc => ?_)
            · replace h := ite_t hc h
              clear hc
              refine cskip ?_
              refine then_normal ?_
              refine cseq ?_
              refine cblock ?_
              refine cseq ?_
              refine cregion ?_
              refine sv rfl (opv_mv rfl) ?_
              refine sv rfl (opv_mv rfl) ?_
              obtain ⟨u11, hu11, h⟩ := bind_eq h
              refine sv rfl (opv_ix (f := eI) si28 (fun _ => rfl) rfl rfl rfl rfl hu11) ?_
              refine sv rfl (opv_load1 ti3 rfl (.cp _) rfl) ?_
              refine sv rfl (opv_mv rfl) ?_
              refine sv rfl (opv_ineq rfl rfl) ?_
              refine snil ?_
              refine ccond rfl (fun hc => ?_) (fun hc => ?_)
              · replace h := ite_t hc h
                clear hc
                refine cseq ?_
                refine cregion ?_
                refine sv rfl (opv_as rfl) ?_
                refine snil ?_
                refine cret ?_
                refine block_ret ?_
                refine then_ret ?_
                refine then_ret ?_
                refine block_ret ?_
                refine then_ret ?_
                obtain rfl := Option.some.inj h
                obtain rfl : Sum.inl _ = x10 := hk10
                replace ho10 : some _ = some _ := ho10
                obtain rfl := Option.some.inj ho10
                refine ⟨Or.inr rfl, _, _, _, (resVs_cons (ResV.tmp _ _ rfl) resVs_nil), (pubA_id rfl), ?_⟩
                rfl
              · replace h := ite_f hc h
                clear hc
                refine cskip ?_
                refine block_normal ?_
                refine then_normal ?_
                refine cregion ?_
                refine sv rfl (opv_mv rfl) ?_
                refine sv rfl (opv_add rfl rfl) ?_
                refine sv rfl (opv_as rfl) ?_
                refine snil ?_
                obtain rfl := Option.some.inj h
                exact ⟨(n10, (wI (s10 + 1))), _, hk10, ⟨rfl, rfl, rfl, rfl, rfl, trivial⟩, rfl, Nat.lt_succ_self _⟩
            · replace h := ite_f hc h
              clear hc
              refine cexit ?_
              refine then_exit ?_
              refine then_exit ?_
              refine block_hit ?_
              refine then_normal ?_
              obtain rfl := Option.some.inj h
              obtain rfl : _ = x10 := hk10
              exact ⟨(), _, ho10, ⟨rfl, rfl, rfl, rfl, trivial⟩, rfl⟩
        · skip
          refine cblock ?_
          obtain ⟨x13, hx13, ho13⟩ := bind_eq h
          refine awc_loop (G := Nat × (Int × (List GSerialTx))) (fun g => [(5, .s (.one (.b v1))), (6, .s (.one (.sl v3.length (v3.flatMap eGSerialTx)))), (7, .s (.one (.sl v4.1.length (v4.1.flatMap eI)))), (9, .s (.one (.i .i64 b6))), (10, .s (.one (.ls 0 g.2.2.length))), (11, .s (.one (.i .i64 g.2.1)))]) (fun g => [.arr 35 5 0 (g.2.2.flatMap eGSerialTx)]) (fun g => iter (m5_l24_SerialBegins_s13 v3 v4 b6) g.1 g.2 = some x13) (fun g => g.1) (fuel, (0, ([] : List GSerialTx))) hx13 ⟨rfl, rfl, rfl, rfl, rfl, rfl, trivial⟩ [] rfl (fun _ _ => inbL_of rfl) (fun _ _ => blkinb_of rfl) (fun _ _ => Nat.le_of_ble_eq_true rfl) ?_
          clear hx13 h
          rintro ⟨n13, s13⟩ h
          obtain ⟨n13, y13, rfl, h, hk13⟩ := iter_eq h
          unfold m5_l24_SerialBegins_s13 at h
          refine cseq ?_
          refine cseq ?_
          refine cregion ?_
          refine sv rfl (opv_mv rfl) ?_
          refine sv rfl (opv_mv rfl) ?_
          refine sv rfl (opv_lss rfl rfl) ?_
          refine snil ?_
          refine ccond rfl (fun hc => ?_) (fun hc => ?_)
          · replace h := ite_t hc h
            clear hc
            refine cskip ?_
            refine then_normal ?_
            refine cseq ?_
            refine cblock ?_
            refine cseq ?_
            refine cseq ?_
            refine cjoin3 (Unit) (fun b14 => [(5, .s (.one (.b v1))), (6, .s (.one (.sl v3.length (v3.flatMap eGSerialTx)))), (7, .s (.one (.sl v4.1.length (v4.1.flatMap eI)))), (9, .s (.one (.i .i64 b6))), (10, .s (.one (.ls 0 s13.2.length))), (11, .s (.one (.i .i64 s13.1)))]) (fun b14 => [.arr 35 5 0 (s13.2.flatMap eGSerialTx)]) (fun b14 => m5_l24_SerialBegins_k14 v3 v4 s13 b14 = some y13) (fun _ _ => inbL_of rfl) (fun _ _ => blkinb_of rfl) (fun _ _ => Nat.le_of_ble_eq_true rfl) (fun b14 h => ?_) ?_
            · unfold m5_l24_SerialBegins_k14 at h
              refine cregion ?_
              refine sv rfl (opv_mv rfl) ?_
              refine sv rfl (opv_mv rfl) ?_
              refine sv rfl (opv_mv rfl) ?_
              refine sv rfl (opv_mv rfl) ?_
              obtain ⟨u15, hu15, h⟩ := bind_eq h
              refine sv rfl (opv_ix (f := eI) si28 (fun _ => rfl) rfl rfl rfl rfl hu15) ?_
              refine sv rfl (opv_load1 ti3 rfl (.cp _) rfl) ?_
              obtain ⟨u16, hu16, h⟩ := bind_eq h
              refine sv rfl (opv_ix (f := eGSerialTx) si26 (fun _ => rfl) rfl rfl rfl rfl hu16) ?_
              refine sv rfl (opv_loadNe (ys := [.i .i64 u16.Token, .i .i64 u16.Snap, .i .i64 u16.Ts, .sl u16.Reads.length (u16.Reads.flatMap eGApiRange), .sl u16.Writes.length (u16.Writes.flatMap eGApiWrite)]) ti35 rfl (.cp _) rfl rfl) ?_
              refine sbuild1 rfl Try.underlying26 ei35 rfl rfl (List.all_eq_true.1 rfl) (by decide) ?_
              refine smem [.arr 35 5 0 (s13.2.flatMap eGSerialTx), .arr 35 5 0 ([u16].flatMap eGSerialTx)] rfl ?_
              obtain ⟨hb17, h⟩ := chk_eq h
              refine sapp (f := eGSerialTx) (xs := s13.2) (us := [u16]) rfl Try.underlying26 ei35 ni26 (fun _ => rfl) rfl rfl (.one _ _ _ _ (.ls _ _ _ _ _ _ rfl (flat_len (f := eGSerialTx) (fun _ => rfl) [u16]).symm)) rfl rfl rfl (.sl _ _ _ (flat_len (f := eGSerialTx) (fun _ => rfl) _)) rfl rfl hb17 (by decide) ?_
              refine sv rfl (opv_as rfl) ?_
              refine snil0 ?_
              refine block_normal ?_
              refine then_normal ?_
              refine cregion ?_
              refine sv rfl (opv_mv rfl) ?_
              refine sv rfl (opv_add rfl rfl) ?_
              refine sv rfl (opv_as rfl) ?_
              refine snil ?_
              obtain rfl := Option.some.inj h
              exact ⟨(n13, ((wI (s13.1 + 1)), (s13.2 ++ [u16]))), _, hk13, ⟨rfl, rfl, rfl, rfl, rfl, rfl, trivial⟩, rfl, Nat.lt_succ_self _⟩
            · skip
              refine cregion ?_
              refine sv rfl (opv_mv rfl) ?_
              refine sv rfl (opv_mv rfl) ?_
              obtain ⟨u18, hu18, h⟩ := bind_eq h
              refine sv rfl (opv_ix (f := eI) si28 (fun _ => rfl) rfl rfl rfl rfl hu18) ?_
              refine sv rfl (opv_load1 ti3 rfl (.cp _) rfl) ?_
              refine sv rfl (opv_lss rfl rfl) ?_
              refine sv rfl (opv_mv rfl) ?_
              refine ssplit 55 rfl (fun hc => ?_) (fun hc => ?_)
              · replace h := ite_t hc h
                clear hc
                refine soff rfl rfl rfl rfl ?_
                refine soff rfl rfl rfl rfl ?_
                refine soff rfl rfl rfl rfl ?_
                refine soff rfl rfl rfl rfl ?_
                refine soff rfl rfl rfl rfl ?_
                refine soff rfl rfl rfl rfl ?_
                refine soff rfl rfl rfl rfl ?_
                refine sv rfl (opv_pick_t rfl rfl) ?_
                refine snil ?_
                refine ccond rfl (fun _ => ?_) (fun hx => Bool.noConfusion hx)
                refine cseq ?_
                refine cregion ?_
                refine sv rfl (opv_as rfl) ?_
                refine snil ?_
                refine cret ?_
                refine then_ret ?_
                refine block_ret ?_
                refine then_ret ?_
                refine then_ret ?_
                refine block_ret ?_
                refine then_ret ?_
                obtain rfl := Option.some.inj h
                obtain rfl : Sum.inl _ = x13 := hk13
                replace ho13 : some _ = some _ := ho13
                obtain rfl := Option.some.inj ho13
                refine ⟨Or.inr rfl, _, _, _, (resVs_cons (ResV.tmp _ _ rfl) resVs_nil), (pubA_id rfl), ?_⟩
                rfl
              · replace h := ite_f hc h
                clear hc
                refine son rfl rfl rfl ?_
                refine sv rfl (opv_mv rfl) ?_
                refine son rfl rfl rfl ?_
                refine sv rfl (opv_mv rfl) ?_
                refine son rfl rfl rfl ?_
                obtain ⟨u19, hu19, h⟩ := bind_eq h
                refine sv rfl (opv_ix (f := eI) si28 (fun _ => rfl) rfl rfl rfl rfl hu19) ?_
                refine son rfl rfl rfl ?_
                refine sv rfl (opv_load1 ti3 rfl (.cp _) rfl) ?_
                refine son rfl rfl rfl ?_
                refine sv rfl (opv_mv rfl) ?_
                refine son rfl rfl rfl ?_
                refine sv rfl (opv_len_sl si26 rfl) ?_
                refine son rfl rfl rfl ?_
                refine sv rfl (opv_geq rfl rfl) ?_
                refine sv rfl (opv_pick_f rfl rfl) ?_
                refine snil ?_
                refine ccond rfl (fun hc => ?_) (fun hc => ?_)
                · replace h := ite_t hc h
                  clear hc
                  refine cseq ?_
                  refine cregion ?_
                  refine sv rfl (opv_as rfl) ?_
                  refine snil ?_
                  refine cret ?_
                  refine then_ret ?_
                  refine block_ret ?_
                  refine then_ret ?_
                  refine then_ret ?_
                  refine block_ret ?_
                  refine then_ret ?_
                  obtain rfl := Option.some.inj h
                  obtain rfl : Sum.inl _ = x13 := hk13
                  replace ho13 : some _ = some _ := ho13
                  obtain rfl := Option.some.inj ho13
                  refine ⟨Or.inr rfl, _, _, _, (resVs_cons (ResV.tmp _ _ rfl) resVs_nil), (pubA_id rfl), ?_⟩
                  rfl
                · replace h := ite_f hc h
                  clear hc
                  refine cskip ?_
                  refine then_normal ?_
                  exact ⟨(), _, h, ⟨rfl, rfl, rfl, rfl, rfl, rfl, trivial⟩, rfl⟩
          · replace h := ite_f hc h
            clear hc
            refine cexit ?_
            refine then_exit ?_
            refine then_exit ?_
            refine block_hit ?_
            refine then_normal ?_
            obtain rfl := Option.some.inj h
            obtain rfl : _ = x13 := hk13
            exact ⟨s13.2, _, ho13, ⟨rfl, rfl, rfl, trivial⟩, rfl⟩
      · skip
        refine ccond rfl (fun hc => ?_) (fun hc => ?_)
        · replace h := ite_t hc h
          clear hc
          refine cregion ?_
          refine sv rfl (opv_mv rfl) ?_
          refine sv rfl (opv_and rfl rfl) ?_
          refine sv rfl (opv_mv rfl) ?_
          refine sv rfl (opv_len_sl si28 rfl) ?_
          obtain ⟨hz21, h⟩ := chk_eq h
          refine sv rfl (opv_rem rfl rfl hz21) ?_
          refine sv rfl (opv_as rfl) ?_
          refine snil ?_
          exact ⟨((wI ((BitVec.ofInt 64 a1 &&& BitVec.ofInt 64 255).toNat : Int)).tmod (v4.1.length : Int)), _, h, ⟨rfl, rfl, rfl, rfl, trivial⟩, rfl⟩
        · replace h := ite_f hc h
          clear hc
          refine cskip ?_
          refine then_normal ?_
          exact ⟨0, _, h, ⟨rfl, rfl, rfl, rfl, trivial⟩, rfl⟩
    · skip
      refine cregion ?_
      refine sv rfl (opv_mv rfl) ?_
      refine sv rfl (opv_not rfl) ?_
      refine sv rfl (opv_mv rfl) ?_
      refine ssplit 29 rfl (fun hc => ?_) (fun hc => ?_)
      · replace h := ite_t hc h
        clear hc
        refine soff rfl rfl rfl rfl ?_
        refine soff rfl rfl rfl rfl ?_
        refine soff rfl rfl rfl rfl ?_
        refine soff rfl rfl rfl rfl ?_
        refine soff rfl rfl rfl rfl ?_
        refine sv rfl (opv_pick_t rfl rfl) ?_
        refine snil ?_
        refine ccond rfl (fun _ => ?_) (fun hx => Bool.noConfusion hx)
        refine cseq ?_
        refine cregion ?_
        refine sv rfl (opv_mv rfl) ?_
        refine sv rfl (opv_as rfl) ?_
        refine snil ?_
        refine cret ?_
        refine then_ret ?_
        obtain rfl := Option.some.inj h
        refine ⟨Or.inr rfl, _, _, _, (resVs_cons (ResV.tmp _ _ rfl) resVs_nil), (pubA_id rfl), ?_⟩
        rfl
      · replace h := ite_f hc h
        clear hc
        refine son rfl rfl rfl ?_
        refine sv rfl (opv_mv rfl) ?_
        refine son rfl rfl rfl ?_
        refine sv rfl (opv_len_sl si28 rfl) ?_
        refine son rfl rfl rfl ?_
        refine sv rfl (opv_mv rfl) ?_
        refine son rfl rfl rfl ?_
        refine sv rfl (opv_len_sl si26 rfl) ?_
        refine son rfl rfl rfl ?_
        refine sv rfl (opv_ineq rfl rfl) ?_
        refine sv rfl (opv_pick_f rfl rfl) ?_
        refine snil ?_
        refine ccond rfl (fun hc => ?_) (fun hc => ?_)
        · replace h := ite_t hc h
          clear hc
          refine cseq ?_
          refine cregion ?_
          refine sv rfl (opv_mv rfl) ?_
          refine sv rfl (opv_as rfl) ?_
          refine snil ?_
          refine cret ?_
          refine then_ret ?_
          obtain rfl := Option.some.inj h
          refine ⟨Or.inr rfl, _, _, _, (resVs_cons (ResV.tmp _ _ rfl) resVs_nil), (pubA_id rfl), ?_⟩
          rfl
        · replace h := ite_f hc h
          clear hc
          refine cskip ?_
          refine then_normal ?_
          exact ⟨(), _, h, ⟨rfl, rfl, rfl, rfl, trivial⟩, rfl⟩


end Go.Proofs.Ytoajiidocnoopaa.Abs
