/-
  t
-/
import Derived.Test.YtlnpkincpgbmcaaDoorT17b
namespace Go.Proofs.YtlnpkincpgbmcaaDoor.Abs
open Go.RowKit Go.Proofs
def m3_l17_ConnsOne (a0 : List GL17Act) (a1 : Int) : Option Bool :=
  (m6_l17_awake).bind fun v1 => if (decide (100 < (a0.length : Int))) then (some v1) else ((iter (m3_l17_ConnsOne_s3 a0 a1) fuel ((-1), (-1), 0, ([] : List GConnsConn), 0)).bind fun x => match x with | .inl r => some r | .inr e24 => m3_l17_ConnsOne_k2 v1 e24)

set_option maxRecDepth 100000 in
theorem m3_l17_ConnsOne_c {a0 : List GL17Act} {a1 : Int} {r : Bool} (h : m3_l17_ConnsOne a0 a1 = some r) : CallsA Tryd.prog 3 [.one (.sl a0.length (a0.flatMap eGL17Act)), .one (.i .i64 a1)] (· = .s (.one (.b r))) := by
  unfold m3_l17_ConnsOne at h
  refine callsA_of Tryd.func3 rfl (nt := 170) rfl (Nat.le_of_ble_eq_true rfl) ?_
  intro w0 S0
  refine cseq ?_
  refine cregion ?_
  refine sv rfl (opv_as rfl) ?_
  refine snil ?_
  refine cseq ?_
  refine cregion ?_
  obtain ⟨v1, hv1, h⟩ := bind_eq h
  refine scall1 rfl fn6 opnds_nil (pubA_id rfl) (m6_l17_awake_c hv1) ?_
  refine sv rfl (opv_as rfl) ?_
  refine snil ?_
  refine cseq ?_
  refine cseq ?_
  refine cregion ?_
  refine sv rfl (opv_mv rfl) ?_
  refine sv rfl (opv_len_sl si22 rfl) ?_
  refine sv rfl (opv_gtr rfl rfl) ?_
  refine snil ?_
  refine ccond rfl (fun hc => ?_) (fun hc => ?_)
  · replace h := ite_t hc h
    clear hc
    refine cseq ?_
    refine cregion ?_
    refine sv rfl (opv_mv rfl) ?_
    refine sv rfl (opv_as rfl) ?_
    refine snil ?_
    refine cret ?_
    refine then_ret ?_
    obtain rfl := Option.some.inj h
    refine ⟨Or.inr rfl, _, _, _, (resVs_cons (ResV.tmp _ _ rfl) resVs_nil), (pubA_id rfl), ?_⟩
    rfl
  · replace h := ite_f hc h
    clear hc
    refine cskip ?_
    refine then_normal ?_
    refine cseq ?_
    refine cregion ?_
    refine sv rfl (opv_build zi26 pi26 parts_nil (.nil _)) ?_
    refine salloc rfl zi26 ?_
    refine sstore sz26 rfl rfl rfl rfl (Nat.le_of_ble_eq_true rfl) ?_
    refine smem [.box [.raw (.slice none 0 0), .i .i64 0]] rfl ?_
    refine snil ?_
    refine cseq ?_
    refine cregion ?_
    refine sv rfl (opv_as rfl) ?_
    refine snil ?_
    refine cseq ?_
    refine cregion ?_
    refine sv rfl (opv_as rfl) ?_
    refine snil ?_
    refine cseq ?_
    refine cseq ?_
    refine cregion ?_
    refine sv rfl (opv_as rfl) ?_
    refine snil ?_
    refine cjoin ((List GConnsConn) × Int) (fun b2 => [(5, .s (.one (.b v1)))]) (fun b2 => [.box [.sl b2.1.length (b2.1.flatMap eGConnsConn), .i .i64 b2.2]]) (fun b2 => m3_l17_ConnsOne_k2 v1 b2 = some r) (fun _ _ => inbL_of rfl) (fun _ _ => blkinb_of rfl) (fun _ _ => Nat.le_of_ble_eq_true rfl) (fun b2 h => ?_) ?_
    · unfold m3_l17_ConnsOne_k2 at h
      refine cseq ?_
      refine cregion ?_
      refine sv rfl (opv_mv rfl) ?_
      refine sv rfl (opv_as rfl) ?_
      refine snil ?_
      refine cret ?_
      obtain rfl := Option.some.inj h
      refine ⟨Or.inr rfl, _, _, _, (resVs_cons (ResV.tmp _ _ rfl) resVs_nil), (pubA_id rfl), ?_⟩
      rfl
    · skip
      refine cblock ?_
      refine cpubbox 0 0 rfl rfl PubL.nil rfl ?_
      obtain ⟨x3, hx3, ho3⟩ := bind_eq h
      refine awc_loop (G := Nat × (Int × Int × Int × (List GConnsConn) × Int)) (fun g => [(0, .s (.one (.sl a0.length (a0.flatMap eGL17Act)))), (1, .s (.one (.i .i64 a1))), (5, .s (.one (.b v1))), (6, .s (.one (.lp 0 0))), (7, .s (.one (.i .i64 g.2.1))), (8, .s (.one (.i .i64 g.2.2.1))), (9, .s (.one (.i .i64 g.2.2.2.1)))]) (fun g => [.box [.sl g.2.2.2.2.1.length (g.2.2.2.2.1.flatMap eGConnsConn), .i .i64 g.2.2.2.2.2]]) (fun g => iter (m3_l17_ConnsOne_s3 a0 a1) g.1 g.2 = some x3) (fun g => g.1) (fuel, ((-1), (-1), 0, ([] : List GConnsConn), 0)) hx3 ⟨rfl, rfl, rfl, rfl, rfl, rfl, rfl, trivial⟩ [] rfl (fun _ _ => inbL_of rfl) (fun _ _ => blkinb_of rfl) (fun _ _ => Nat.le_of_ble_eq_true rfl) ?_
      clear hx3 h
      rintro ⟨n3, s3⟩ h
      obtain ⟨n3, y3, rfl, h, hk3⟩ := iter_eq h
      unfold m3_l17_ConnsOne_s3 at h
      refine cseq ?_
      refine cseq ?_
      refine cregion ?_
      refine sv rfl (opv_mv rfl) ?_
      refine sv rfl (opv_mv rfl) ?_
      refine sv rfl (opv_len_sl si22 rfl) ?_
      refine sv rfl (opv_lss rfl rfl) ?_
      refine snil ?_
      refine ccond rfl (fun hc => ?_) (fun hc => ?_)
      · replace h := ite_t hc h
        clear hc
        refine cskip ?_
        refine then_normal ?_
        refine cseq ?_
        refine cblock ?_
        refine cseq ?_
        refine cjoin (Int × Int × (List GConnsConn) × Int) (fun b4 => [(0, .s (.one (.sl a0.length (a0.flatMap eGL17Act)))), (1, .s (.one (.i .i64 a1))), (5, .s (.one (.b v1))), (6, .s (.one (.lp 0 0))), (7, .s (.one (.i .i64 b4.1))), (8, .s (.one (.i .i64 b4.2.1))), (9, .s (.one (.i .i64 s3.2.2.1)))]) (fun b4 => [.box [.sl b4.2.2.1.length (b4.2.2.1.flatMap eGConnsConn), .i .i64 b4.2.2.2]]) (fun b4 => m3_l17_ConnsOne_k4 a1 s3 b4 = some y3) (fun _ _ => inbL_of rfl) (fun _ _ => blkinb_of rfl) (fun _ _ => Nat.le_of_ble_eq_true rfl) (fun b4 h => ?_) ?_
        · unfold m3_l17_ConnsOne_k4 at h
          refine cseq ?_
          refine cregion ?_
          refine sv rfl (opv_as rfl) ?_
          refine snil ?_
          refine cseq ?_
          refine cseq ?_
          refine cregion ?_
          refine sv rfl (opv_as rfl) ?_
          refine snil ?_
          refine cjoin (Int) (fun b5 => [(0, .s (.one (.sl a0.length (a0.flatMap eGL17Act)))), (1, .s (.one (.i .i64 a1))), (5, .s (.one (.b v1))), (6, .s (.one (.lp 0 0))), (7, .s (.one (.i .i64 b4.1))), (8, .s (.one (.i .i64 b4.2.1))), (9, .s (.one (.i .i64 s3.2.2.1))), (19, .s (.one (.i .i64 b5)))]) (fun b5 => [.box [.sl b4.2.2.1.length (b4.2.2.1.flatMap eGConnsConn), .i .i64 b4.2.2.2]]) (fun b5 => m3_l17_ConnsOne_k5 a1 s3 b4 b5 = some y3) (fun _ _ => inbL_of rfl) (fun _ _ => blkinb_of rfl) (fun _ _ => Nat.le_of_ble_eq_true rfl) (fun b5 h => ?_) ?_
          · unfold m3_l17_ConnsOne_k5 at h
            refine cseq ?_
            refine cregion ?_
            refine sv rfl (opv_mv rfl) ?_
            refine sv rfl (opv_gtr rfl rfl) ?_
            refine sv rfl (opv_mv rfl) ?_
            refine ssplit 153 rfl (fun hc => ?_) (fun hc => ?_)
            · replace h := ite_t hc h
              clear hc
              refine soff rfl rfl rfl rfl ?_
              refine soff rfl rfl rfl rfl ?_
              refine soff rfl rfl rfl rfl ?_
              refine soffu rfl rfl rfl ?_
              refine soffu rfl rfl rfl ?_
              refine soffu rfl rfl rfl ?_
              refine soffu rfl rfl rfl ?_
              refine soffu rfl rfl rfl ?_
              refine soff rfl rfl rfl rfl ?_
              refine sv rfl (opv_pick_t rfl rfl) ?_
              refine sv rfl (opv_mv rfl) ?_
              refine soff rfl rfl rfl rfl ?_
              refine soff rfl rfl rfl rfl ?_
              refine soff rfl rfl rfl rfl ?_
              refine sv rfl (opv_pick_t rfl rfl) ?_
              refine snil ?_
              refine ccond rfl (fun _ => ?_) (fun hx => Bool.noConfusion hx)
              refine cseq ?_
              refine cregion ?_
              refine sv rfl (opv_as rfl) ?_
              refine snil ?_
              refine cret ?_
              refine block_ret ?_
              refine then_ret ?_
              refine then_ret ?_
              refine block_ret ?_
              refine then_ret ?_
              obtain rfl := Option.some.inj h
              obtain rfl : Sum.inl _ = x3 := hk3
              replace ho3 : some _ = some _ := ho3
              obtain rfl := Option.some.inj ho3
              refine ⟨Or.inr rfl, _, _, _, (resVs_cons (ResV.tmp _ _ rfl) resVs_nil), (pubA_id rfl), ?_⟩
              rfl
            · replace h := ite_f hc h
              clear hc
              refine son rfl rfl rfl ?_
              refine sv rfl (opv_mv rfl) ?_
              refine son rfl rfl rfl ?_
              refine sv rfl (opv_geq rfl rfl) ?_
              refine son rfl rfl rfl ?_
              refine sv rfl (opv_mv rfl) ?_
              refine ssplit 156 rfl (fun hc => ?_) (fun hc => ?_)
              · replace h := ite_t hc h
                clear hc
                refine son rfl rfl rfl ?_
                refine sv rfl (opv_mv rfl) ?_
                refine son rfl rfl rfl ?_
                refine sv rfl (opv_ieql rfl rfl) ?_
                refine son rfl rfl rfl ?_
                refine sv rfl (opv_mv rfl) ?_
                refine son rfl rfl rfl ?_
                refine sv rfl (opv_geq rfl rfl) ?_
                refine son rfl rfl rfl ?_
                refine sv rfl (opv_bneq Tryd.underlying4 rfl rfl) ?_
                refine son rfl rfl rfl ?_
                refine sv rfl (opv_pick_t rfl rfl) ?_
                refine sv rfl (opv_pick_f rfl rfl) ?_
                refine sv rfl (opv_mv rfl) ?_
                refine ssplit 164 rfl (fun hc => ?_) (fun hc => ?_)
                · replace h := ite_t hc h
                  clear hc
                  refine soff rfl rfl rfl rfl ?_
                  refine soff rfl rfl rfl rfl ?_
                  refine soff rfl rfl rfl rfl ?_
                  refine sv rfl (opv_pick_t rfl rfl) ?_
                  refine snil ?_
                  refine ccond rfl (fun _ => ?_) (fun hx => Bool.noConfusion hx)
                  refine cseq ?_
                  refine cregion ?_
                  refine sv rfl (opv_as rfl) ?_
                  refine snil ?_
                  refine cret ?_
                  refine block_ret ?_
                  refine then_ret ?_
                  refine then_ret ?_
                  refine block_ret ?_
                  refine then_ret ?_
                  obtain rfl := Option.some.inj h
                  obtain rfl : Sum.inl _ = x3 := hk3
                  replace ho3 : some _ = some _ := ho3
                  obtain rfl := Option.some.inj ho3
                  refine ⟨Or.inr rfl, _, _, _, (resVs_cons (ResV.tmp _ _ rfl) resVs_nil), (pubA_id rfl), ?_⟩
                  rfl
                · replace h := ite_f hc h
                  clear hc
                  refine son rfl rfl rfl ?_
                  refine sv rfl (opv_loadN ti26 rfl (.lp _ _ _ rfl) (Nat.le_of_ble_eq_true rfl)) ?_
                  refine son rfl rfl rfl ?_
                  obtain ⟨v6, hv6, h⟩ := bind_eq h
                  refine scall1 rfl fn10 (opnds_cons rfl opnds_nil) (pubA_id rfl) (m10_conns_Sane_c hv6) ?_
                  refine son rfl rfl rfl ?_
                  refine sv rfl (opv_not rfl) ?_
                  refine sv rfl (opv_pick_f rfl rfl) ?_
                  refine snil ?_
                  refine ccond rfl (fun hc => ?_) (fun hc => ?_)
                  · replace h := ite_t hc h
                    clear hc
                    refine cseq ?_
                    refine cregion ?_
                    refine sv rfl (opv_as rfl) ?_
                    refine snil ?_
                    refine cret ?_
                    refine block_ret ?_
                    refine then_ret ?_
                    refine then_ret ?_
                    refine block_ret ?_
                    refine then_ret ?_
                    obtain rfl := Option.some.inj h
                    obtain rfl : Sum.inl _ = x3 := hk3
                    replace ho3 : some _ = some _ := ho3
                    obtain rfl := Option.some.inj ho3
                    refine ⟨Or.inr rfl, _, _, _, (resVs_cons (ResV.tmp _ _ rfl) resVs_nil), (pubA_id rfl), ?_⟩
                    rfl
                  · replace h := ite_f hc h
                    clear hc
                    refine cskip ?_
                    refine block_normal ?_
                    refine then_normal ?_
                    refine cregion ?_
                    refine sv rfl (opv_mv rfl) ?_
                    refine sv rfl (opv_add rfl rfl) ?_
                    refine sv rfl (opv_as rfl) ?_
                    refine snil ?_
                    obtain rfl := Option.some.inj h
                    exact ⟨(n3, (b4.1, b4.2.1, (wI (s3.2.2.1 + 1)), b4.2.2.1, b4.2.2.2)), _, hk3, ⟨rfl, rfl, rfl, rfl, rfl, rfl, rfl, trivial⟩, rfl, Nat.lt_succ_self _⟩
              · replace h := ite_f hc h
                clear hc
                refine soff rfl rfl rfl rfl ?_
                refine soff rfl rfl rfl rfl ?_
                refine soff rfl rfl rfl rfl ?_
                refine soff rfl rfl rfl rfl ?_
                refine soff rfl rfl rfl rfl ?_
                refine son rfl rfl rfl ?_
                refine sv rfl (opv_pick_f rfl rfl) ?_
                refine sv rfl (opv_pick_f rfl rfl) ?_
                refine sv rfl (opv_mv rfl) ?_
                refine son rfl rfl rfl ?_
                refine sv rfl (opv_loadN ti26 rfl (.lp _ _ _ rfl) (Nat.le_of_ble_eq_true rfl)) ?_
                refine son rfl rfl rfl ?_
                obtain ⟨v7, hv7, h⟩ := bind_eq h
                refine scall1 rfl fn10 (opnds_cons rfl opnds_nil) (pubA_id rfl) (m10_conns_Sane_c hv7) ?_
                refine son rfl rfl rfl ?_
                refine sv rfl (opv_not rfl) ?_
                refine sv rfl (opv_pick_f rfl rfl) ?_
                refine snil ?_
                refine ccond rfl (fun hc => ?_) (fun hc => ?_)
                · replace h := ite_t hc h
                  clear hc
                  refine cseq ?_
                  refine cregion ?_
                  refine sv rfl (opv_as rfl) ?_
                  refine snil ?_
                  refine cret ?_
                  refine block_ret ?_
                  refine then_ret ?_
                  refine then_ret ?_
                  refine block_ret ?_
                  refine then_ret ?_
                  obtain rfl := Option.some.inj h
                  obtain rfl : Sum.inl _ = x3 := hk3
                  replace ho3 : some _ = some _ := ho3
                  obtain rfl := Option.some.inj ho3
                  refine ⟨Or.inr rfl, _, _, _, (resVs_cons (ResV.tmp _ _ rfl) resVs_nil), (pubA_id rfl), ?_⟩
                  rfl
                · replace h := ite_f hc h
                  clear hc
                  refine cskip ?_
                  refine block_normal ?_
                  refine then_normal ?_
                  refine cregion ?_
                  refine sv rfl (opv_mv rfl) ?_
                  refine sv rfl (opv_add rfl rfl) ?_
                  refine sv rfl (opv_as rfl) ?_
                  refine snil ?_
                  obtain rfl := Option.some.inj h
                  exact ⟨(n3, (b4.1, b4.2.1, (wI (s3.2.2.1 + 1)), b4.2.2.1, b4.2.2.2)), _, hk3, ⟨rfl, rfl, rfl, rfl, rfl, rfl, rfl, trivial⟩, rfl, Nat.lt_succ_self _⟩
          · skip
            refine cblock ?_
            obtain ⟨x8, hx8, ho8⟩ := bind_eq h
            refine awc_loop (G := Nat × (Int × Int)) (fun g => [(0, .s (.one (.sl a0.length (a0.flatMap eGL17Act)))), (1, .s (.one (.i .i64 a1))), (5, .s (.one (.b v1))), (6, .s (.one (.lp 0 0))), (7, .s (.one (.i .i64 b4.1))), (8, .s (.one (.i .i64 b4.2.1))), (9, .s (.one (.i .i64 s3.2.2.1))), (19, .s (.one (.i .i64 g.2.1))), (20, .s (.one (.i .i64 g.2.2)))]) (fun g => [.box [.sl b4.2.2.1.length (b4.2.2.1.flatMap eGConnsConn), .i .i64 b4.2.2.2]]) (fun g => iter (m3_l17_ConnsOne_s8 a1 b4) g.1 g.2 = some x8) (fun g => g.1) (fuel, (0, 0)) hx8 ⟨rfl, rfl, rfl, rfl, rfl, rfl, rfl, rfl, rfl, trivial⟩ [] rfl (fun _ _ => inbL_of rfl) (fun _ _ => blkinb_of rfl) (fun _ _ => Nat.le_of_ble_eq_true rfl) ?_
            clear hx8 h
            rintro ⟨n8, s8⟩ h
            obtain ⟨n8, y8, rfl, h, hk8⟩ := iter_eq h
            unfold m3_l17_ConnsOne_s8 at h
            refine cseq ?_
            refine cseq ?_
            refine cregion ?_
            refine sv rfl (opv_mv rfl) ?_
            refine sv rfl (opv_fieldAddr_lp fi26_0 rfl) ?_
            refine sv rfl (opv_load1 ti24 rfl (.lp _ _ _ rfl) rfl) ?_
            refine sv rfl (opv_len_sl si24 rfl) ?_
            refine sv rfl (opv_lss rfl rfl) ?_
            refine snil ?_
            refine ccond rfl (fun hc => ?_) (fun hc => ?_)
            · replace h := ite_t hc h
              clear hc
              refine cskip ?_
              refine then_normal ?_
              refine cseq ?_
              refine cblock ?_
              refine cseq ?_
              refine cregion ?_
              refine sv rfl (opv_fieldAddr_lp fi26_0 rfl) ?_
              refine sv rfl (opv_load1 ti24 rfl (.lp _ _ _ rfl) rfl) ?_
              refine sv rfl (opv_mv rfl) ?_
              obtain ⟨u9, hu9, h⟩ := bind_eq h
              refine sv rfl (opv_ix (f := eGConnsConn) si24 (fun _ => rfl) rfl rfl rfl rfl hu9) ?_
              refine sv rfl (opv_fieldAddr_cp fi45_1 rfl) ?_
              refine sv rfl (opv_load1 ti3 rfl (.cp _) rfl) ?_
              refine sv rfl (opv_mv rfl) ?_
              refine sv rfl (opv_ieql rfl rfl) ?_
              refine sv rfl (opv_mv rfl) ?_
              refine ssplit 137 rfl (fun hc => ?_) (fun hc => ?_)
              · replace h := ite_t hc h
                clear hc
                refine son rfl rfl rfl ?_
                refine sv rfl (opv_mv rfl) ?_
                refine son rfl rfl rfl ?_
                refine sv rfl (opv_geq rfl rfl) ?_
                refine sv rfl (opv_pick_t rfl rfl) ?_
                refine snil ?_
                refine ccond rfl (fun hc => ?_) (fun hc => ?_)
                · replace h := ite_t hc h
                  clear hc
                  refine cseq ?_
                  refine cregion ?_
                  refine sv rfl (opv_mv rfl) ?_
                  refine sv rfl (opv_add rfl rfl) ?_
                  refine sv rfl (opv_as rfl) ?_
                  refine snil ?_
                  refine cseq ?_
                  refine cregion ?_
                  refine sv rfl (opv_fieldAddr_lp fi26_0 rfl) ?_
                  refine sv rfl (opv_load1 ti24 rfl (.lp _ _ _ rfl) rfl) ?_
                  refine sv rfl (opv_mv rfl) ?_
                  obtain ⟨u10, hu10, h⟩ := bind_eq h
                  refine sv rfl (opv_ix (f := eGConnsConn) si24 (fun _ => rfl) rfl rfl rfl rfl hu10) ?_
                  refine sv rfl (opv_fieldAddr_cp fi45_2 rfl) ?_
                  refine sv rfl (opv_load1 ti3 rfl (.cp _) rfl) ?_
                  refine sv rfl (opv_mv rfl) ?_
                  refine sv rfl (opv_ineq rfl rfl) ?_
                  refine snil ?_
                  refine ccond rfl (fun hc => ?_) (fun hc => ?_)
                  · replace h := ite_t hc h
                    clear hc
                    refine cseq ?_
                    refine cregion ?_
                    refine sv rfl (opv_as rfl) ?_
                    refine snil ?_
                    refine cret ?_
                    refine block_ret ?_
                    refine then_ret ?_
                    refine then_ret ?_
                    refine block_ret ?_
                    refine then_ret ?_
                    refine block_ret ?_
                    refine then_ret ?_
                    refine then_ret ?_
                    refine block_ret ?_
                    refine then_ret ?_
                    obtain rfl := Option.some.inj h
                    obtain rfl : Sum.inl _ = x8 := hk8
                    replace ho8 : some _ = some _ := ho8
                    obtain rfl := Option.some.inj ho8
                    obtain rfl : Sum.inl _ = x3 := hk3
                    replace ho3 : some _ = some _ := ho3
                    obtain rfl := Option.some.inj ho3
                    refine ⟨Or.inr rfl, _, _, _, (resVs_cons (ResV.tmp _ _ rfl) resVs_nil), (pubA_id rfl), ?_⟩
                    rfl
                  · replace h := ite_f hc h
                    clear hc
                    refine cskip ?_
                    refine block_normal ?_
                    refine then_normal ?_
                    refine cregion ?_
                    refine sv rfl (opv_mv rfl) ?_
                    refine sv rfl (opv_add rfl rfl) ?_
                    refine sv rfl (opv_as rfl) ?_
                    refine snil ?_
                    obtain rfl := Option.some.inj h
                    exact ⟨(n8, ((wI (s8.1 + 1)), (wI (s8.2 + 1)))), _, hk8, ⟨rfl, rfl, rfl, rfl, rfl, rfl, rfl, rfl, rfl, trivial⟩, rfl, Nat.lt_succ_self _⟩
                · replace h := ite_f hc h
                  clear hc
                  refine cskip ?_
                  refine block_normal ?_
                  refine then_normal ?_
                  refine cregion ?_
                  refine sv rfl (opv_mv rfl) ?_
                  refine sv rfl (opv_add rfl rfl) ?_
                  refine sv rfl (opv_as rfl) ?_
                  refine snil ?_
                  obtain rfl := Option.some.inj h
                  exact ⟨(n8, (s8.1, (wI (s8.2 + 1)))), _, hk8, ⟨rfl, rfl, rfl, rfl, rfl, rfl, rfl, rfl, rfl, trivial⟩, rfl, Nat.lt_succ_self _⟩
              · replace h := ite_f hc h
                clear hc
                refine soff rfl rfl rfl rfl ?_
                refine soff rfl rfl rfl rfl ?_
                refine sv rfl (opv_pick_f rfl rfl) ?_
                refine snil ?_
                refine ccond rfl (fun hx => Bool.noConfusion hx) (fun _ => ?_)
                refine cskip ?_
                refine block_normal ?_
                refine then_normal ?_
                refine cregion ?_
                refine sv rfl (opv_mv rfl) ?_
                refine sv rfl (opv_add rfl rfl) ?_
                refine sv rfl (opv_as rfl) ?_
                refine snil ?_
                obtain rfl := Option.some.inj h
                exact ⟨(n8, (s8.1, (wI (s8.2 + 1)))), _, hk8, ⟨rfl, rfl, rfl, rfl, rfl, rfl, rfl, rfl, rfl, trivial⟩, rfl, Nat.lt_succ_self _⟩
            · replace h := ite_f hc h
              clear hc
              refine cexit ?_
              refine then_exit ?_
              refine then_exit ?_
              refine block_hit ?_
              refine then_normal ?_
              obtain rfl := Option.some.inj h
              obtain rfl : _ = x8 := hk8
              exact ⟨s8.1, _, ho8, ⟨rfl, rfl, rfl, rfl, rfl, rfl, rfl, rfl, trivial⟩, rfl⟩
        · skip
          refine cblock ?_
          refine cseq ?_
          refine cregion ?_
          refine sv rfl (opv_mv rfl) ?_
          refine sv rfl (opv_mv rfl) ?_
          obtain ⟨u12, hu12, h⟩ := bind_eq h
          refine sv rfl (opv_ix (f := eGL17Act) si22 (fun _ => rfl) rfl rfl rfl rfl hu12) ?_
          refine sv rfl (opv_fieldAddr_cp fi28_0 rfl) ?_
          refine sv rfl (opv_load1 ti3 rfl (.cp _) rfl) ?_
          refine sv rfl (opv_leq rfl rfl) ?_
          refine sv rfl (opv_as rfl) ?_
          refine snil ?_
          refine ccond rfl (fun hc => ?_) (fun hc => ?_)
          · replace h := ite_t hc h
            clear hc
            refine cseq ?_
            refine cregion ?_
            refine sv rfl (opv_loadN ti26 rfl (.lp _ _ _ rfl) (Nat.le_of_ble_eq_true rfl)) ?_
            obtain ⟨v13, hv13, h⟩ := bind_eq h
            refine scall1 rfl fn7 (opnds_cons rfl opnds_nil) (pubA_id rfl) (m7_conns_Open_c hv13) ?_
            refine sv rfl (opv_mvt rfl) ?_
            refine sv rfl (opv_extract rfl rfl) ?_
            refine sv rfl (opv_extract rfl rfl) ?_
            refine sv rfl (opv_extract rfl rfl) ?_
            refine salloc rfl zi26 ?_
            refine sstore sz26 rfl rfl rfl rfl (Nat.le_of_ble_eq_true rfl) ?_
            refine smem [.box [.sl s3.2.2.2.1.length (s3.2.2.2.1.flatMap eGConnsConn), .i .i64 s3.2.2.2.2], .box [.sl v13.1.L.length (v13.1.L.flatMap eGConnsConn), .i .i64 v13.1.Next]] rfl ?_
            refine sv rfl (opv_as rfl) ?_
            refine sv rfl (opv_as rfl) ?_
            refine snil ?_
            refine cseq ?_
            refine cregion ?_
            refine sv rfl (opv_mv rfl) ?_
            refine sv rfl (opv_ieql rfl rfl) ?_
            refine snil ?_
            refine ccond rfl (fun hc => ?_) (fun hc => ?_)
            · replace h := ite_t hc h
              clear hc
              refine cseq ?_
              refine cseq ?_
              refine cregion ?_
              refine sv rfl (opv_mv rfl) ?_
              refine sv rfl (opv_mv rfl) ?_
              refine sv rfl (opv_leq rfl rfl) ?_
              refine snil ?_
              refine ccond rfl (fun hc => ?_) (fun hc => ?_)
              · replace h := ite_t hc h
                clear hc
                refine cseq ?_
                refine cregion ?_
                refine sv rfl (opv_as rfl) ?_
                refine snil ?_
                refine cret ?_
                refine then_ret ?_
                refine block_ret ?_
                refine then_ret ?_
                refine block_ret ?_
                refine then_ret ?_
                refine then_ret ?_
                refine block_ret ?_
                refine then_ret ?_
                obtain rfl := Option.some.inj h
                obtain rfl : Sum.inl _ = x3 := hk3
                replace ho3 : some _ = some _ := ho3
                obtain rfl := Option.some.inj ho3
                refine ⟨Or.inr rfl, _, _, _, (resVs_cons (ResV.tmp _ _ rfl) resVs_nil), (pubA_id rfl), ?_⟩
                rfl
              · replace h := ite_f hc h
                clear hc
                refine cskip ?_
                refine then_normal ?_
                refine cseq ?_
                refine cregion ?_
                refine sv rfl (opv_mv rfl) ?_
                refine sv rfl (opv_as rfl) ?_
                refine snil ?_
                refine cregion ?_
                refine sv rfl (opv_loadN ti26 rfl (.lp _ _ _ rfl) (Nat.le_of_ble_eq_true rfl)) ?_
                refine sstore sz26 rfl rfl rfl rfl (Nat.le_of_ble_eq_true rfl) ?_
                refine smem [.box [.sl v13.1.L.length (v13.1.L.flatMap eGConnsConn), .i .i64 v13.1.Next], .box [.sl v13.1.L.length (v13.1.L.flatMap eGConnsConn), .i .i64 v13.1.Next]] rfl ?_
                refine snil0 ?_
                refine block_normal ?_
                refine then_normal ?_
                exact ⟨(v13.2.1, s3.2.1, v13.1.L, v13.1.Next), _, h, ⟨rfl, rfl, rfl, rfl, rfl, rfl, rfl, trivial⟩, rfl⟩
            · replace h := ite_f hc h
              clear hc
              refine cskip ?_
              refine block_normal ?_
              refine then_normal ?_
              exact ⟨(s3.1, s3.2.1, s3.2.2.2.1, s3.2.2.2.2), _, h, ⟨rfl, rfl, rfl, rfl, rfl, rfl, rfl, trivial⟩, rfl⟩
          · replace h := ite_f hc h
            clear hc
            refine cseq ?_
            refine cregion ?_
            refine sv rfl (opv_mv rfl) ?_
            refine sv rfl (opv_mv rfl) ?_
            obtain ⟨u14, hu14, h⟩ := bind_eq h
            refine sv rfl (opv_ix (f := eGL17Act) si22 (fun _ => rfl) rfl rfl rfl rfl hu14) ?_
            refine sv rfl (opv_fieldAddr_cp fi28_0 rfl) ?_
            refine sv rfl (opv_load1 ti3 rfl (.cp _) rfl) ?_
            refine sv rfl (opv_leq rfl rfl) ?_
            refine sv rfl (opv_as rfl) ?_
            refine snil ?_
            refine ccond rfl (fun hc => ?_) (fun hc => ?_)
            · replace h := ite_t hc h
              clear hc
              refine cseq ?_
              refine chole ?_
              obtain ⟨u15, hu15, h⟩ := bind_eq h
              obtain ⟨u16, hu16, h⟩ := bind_eq h
              obtain ⟨u17, hu17, h⟩ := bind_eq h
              obtain ⟨v18, hv18, h⟩ := bind_eq h
              refine cdraw_e [21, 22] [0, 0, 0, 6, 14, 30, 0, 0, 192, 448, 960, 0, 0, 6144, 14336, 30720, 65535, 131071, 262143, 262143, 262143, 0, 2621439, 7340031, 16777215] [[.box [.sl s3.2.2.2.1.length (s3.2.2.2.1.flatMap eGConnsConn), .i .i64 s3.2.2.2.2], .hole], [.box [.sl s3.2.2.2.1.length (s3.2.2.2.1.flatMap eGConnsConn), .i .i64 s3.2.2.2.2], .box [.raw (.slice none 0 0), .i .i64 0]], [.box [.sl s3.2.2.2.1.length (s3.2.2.2.1.flatMap eGConnsConn), .i .i64 s3.2.2.2.2], .box [.sl v18.1.L.length (v18.1.L.flatMap eGConnsConn), .i .i64 v18.1.Next]]] (by kernel_rfl) mixed (by kernel_rfl) (by decide) rfl rfl rfl rfl ?_
              refine ev (sees_all (md := [.box [.sl s3.2.2.2.1.length (s3.2.2.2.1.flatMap eGConnsConn), .i .i64 s3.2.2.2.2], .dead]) ⟨⟨rfl, ⟨trivial, trivial⟩⟩, ⟨⟨rfl, ⟨trivial, trivial⟩⟩, ⟨⟨rfl, ⟨trivial, trivial⟩⟩, trivial⟩⟩⟩) rfl rfl (opv_loadN ti26 rfl (.lp _ _ _ rfl) (Nat.le_of_ble_eq_true rfl)) ?_
              refine emv rfl rfl (fun _ => opv_mv rfl) ?_
              refine emv rfl rfl (fun _ => opv_mv rfl) ?_
              refine ev (sees_all (md := [.box [.sl s3.2.2.2.1.length (s3.2.2.2.1.flatMap eGConnsConn), .i .i64 s3.2.2.2.2], .dead]) ⟨⟨rfl, ⟨trivial, trivial⟩⟩, ⟨⟨rfl, ⟨trivial, trivial⟩⟩, ⟨⟨rfl, ⟨trivial, trivial⟩⟩, trivial⟩⟩⟩) rfl rfl (opv_ix (f := eGL17Act) si22 (fun _ => rfl) rfl rfl rfl rfl hu15) ?_
              refine ev (sees_all (md := [.box [.sl s3.2.2.2.1.length (s3.2.2.2.1.flatMap eGConnsConn), .i .i64 s3.2.2.2.2], .dead]) ⟨⟨rfl, ⟨trivial, trivial⟩⟩, ⟨⟨rfl, ⟨trivial, trivial⟩⟩, ⟨⟨rfl, ⟨trivial, trivial⟩⟩, trivial⟩⟩⟩) rfl rfl (opv_fieldAddr_cp fi28_1 rfl) ?_
              refine ev (sees_all (md := [.box [.sl s3.2.2.2.1.length (s3.2.2.2.1.flatMap eGConnsConn), .i .i64 s3.2.2.2.2], .dead]) ⟨⟨rfl, ⟨trivial, trivial⟩⟩, ⟨⟨rfl, ⟨trivial, trivial⟩⟩, ⟨⟨rfl, ⟨trivial, trivial⟩⟩, trivial⟩⟩⟩) rfl rfl (opv_load1 ti3 rfl (.cp _) rfl) ?_
              refine emv rfl rfl (fun _ => opv_mv rfl) ?_
              refine emv rfl rfl (fun _ => opv_mv rfl) ?_
              refine ev (sees_all (md := [.box [.sl s3.2.2.2.1.length (s3.2.2.2.1.flatMap eGConnsConn), .i .i64 s3.2.2.2.2], .dead]) ⟨⟨rfl, ⟨trivial, trivial⟩⟩, ⟨⟨rfl, ⟨trivial, trivial⟩⟩, ⟨⟨rfl, ⟨trivial, trivial⟩⟩, trivial⟩⟩⟩) rfl rfl (opv_ix (f := eGL17Act) si22 (fun _ => rfl) rfl rfl rfl rfl hu16) ?_
              refine ev (sees_all (md := [.box [.sl s3.2.2.2.1.length (s3.2.2.2.1.flatMap eGConnsConn), .i .i64 s3.2.2.2.2], .dead]) ⟨⟨rfl, ⟨trivial, trivial⟩⟩, ⟨⟨rfl, ⟨trivial, trivial⟩⟩, ⟨⟨rfl, ⟨trivial, trivial⟩⟩, trivial⟩⟩⟩) rfl rfl (opv_fieldAddr_cp fi28_2 rfl) ?_
              refine ev (sees_all (md := [.box [.sl s3.2.2.2.1.length (s3.2.2.2.1.flatMap eGConnsConn), .i .i64 s3.2.2.2.2], .dead]) ⟨⟨rfl, ⟨trivial, trivial⟩⟩, ⟨⟨rfl, ⟨trivial, trivial⟩⟩, ⟨⟨rfl, ⟨trivial, trivial⟩⟩, trivial⟩⟩⟩) rfl rfl (opv_load1 ti3 rfl (.cp _) rfl) ?_
              refine emv rfl rfl (fun _ => opv_mv rfl) ?_
              refine emv rfl rfl (fun _ => opv_mv rfl) ?_
              refine ev (sees_all (md := [.box [.sl s3.2.2.2.1.length (s3.2.2.2.1.flatMap eGConnsConn), .i .i64 s3.2.2.2.2], .dead]) ⟨⟨rfl, ⟨trivial, trivial⟩⟩, ⟨⟨rfl, ⟨trivial, trivial⟩⟩, ⟨⟨rfl, ⟨trivial, trivial⟩⟩, trivial⟩⟩⟩) rfl rfl (opv_ix (f := eGL17Act) si22 (fun _ => rfl) rfl rfl rfl rfl hu17) ?_
              refine ev (sees_all (md := [.box [.sl s3.2.2.2.1.length (s3.2.2.2.1.flatMap eGConnsConn), .i .i64 s3.2.2.2.2], .dead]) ⟨⟨rfl, ⟨trivial, trivial⟩⟩, ⟨⟨rfl, ⟨trivial, trivial⟩⟩, ⟨⟨rfl, ⟨trivial, trivial⟩⟩, trivial⟩⟩⟩) rfl rfl (opv_fieldAddr_cp fi28_3 rfl) ?_
              refine ev (sees_all (md := [.box [.sl s3.2.2.2.1.length (s3.2.2.2.1.flatMap eGConnsConn), .i .i64 s3.2.2.2.2], .dead]) ⟨⟨rfl, ⟨trivial, trivial⟩⟩, ⟨⟨rfl, ⟨trivial, trivial⟩⟩, ⟨⟨rfl, ⟨trivial, trivial⟩⟩, trivial⟩⟩⟩) rfl rfl (opv_load1 ti3 rfl (.cp _) rfl) ?_
              refine ed (sees_all (md := [.box [.sl s3.2.2.2.1.length (s3.2.2.2.1.flatMap eGConnsConn), .i .i64 s3.2.2.2.2], .dead]) ⟨⟨rfl, ⟨trivial, trivial⟩⟩, ⟨⟨rfl, ⟨trivial, trivial⟩⟩, ⟨⟨rfl, ⟨trivial, trivial⟩⟩, trivial⟩⟩⟩) rfl rfl (opD_call fn8 (opnds_cons rfl (opnds_cons rfl (opnds_cons rfl (opnds_cons rfl opnds_nil)))) rfl (m8_conns_Hello_c hv18)) ?_
              refine emv rfl rfl (fun _ => opv_mvt rfl) ?_
              refine ev (sees_all (md := [.box [.sl s3.2.2.2.1.length (s3.2.2.2.1.flatMap eGConnsConn), .i .i64 s3.2.2.2.2], .dead]) ⟨⟨rfl, ⟨trivial, trivial⟩⟩, ⟨⟨rfl, ⟨trivial, trivial⟩⟩, ⟨⟨rfl, ⟨trivial, trivial⟩⟩, trivial⟩⟩⟩) rfl rfl (opv_extract rfl rfl) ?_
              refine ev (sees_all (md := [.box [.sl s3.2.2.2.1.length (s3.2.2.2.1.flatMap eGConnsConn), .i .i64 s3.2.2.2.2], .dead]) ⟨⟨rfl, ⟨trivial, trivial⟩⟩, ⟨⟨rfl, ⟨trivial, trivial⟩⟩, ⟨⟨rfl, ⟨trivial, trivial⟩⟩, trivial⟩⟩⟩) rfl rfl (opv_extract rfl rfl) ?_
              refine ev (sees_all (md := [.box [.sl s3.2.2.2.1.length (s3.2.2.2.1.flatMap eGConnsConn), .i .i64 s3.2.2.2.2], .dead]) ⟨⟨rfl, ⟨trivial, trivial⟩⟩, ⟨⟨rfl, ⟨trivial, trivial⟩⟩, ⟨⟨rfl, ⟨trivial, trivial⟩⟩, trivial⟩⟩⟩) rfl rfl (opv_extract rfl rfl) ?_
              refine ee (x := .s (.one (.lp 1 0))) 0 rfl rfl rfl rfl rfl (fun ζ => ?_) ?_
              · refine salloc_at 1 rfl zi26 rfl ?_
                exact eend
              refine ee0 1 rfl rfl rfl rfl (fun ζ => ?_) ?_
              · refine sstore sz26 rfl rfl rfl rfl (Nat.le_of_ble_eq_true rfl) ?_
                refine smem [.box [.sl s3.2.2.2.1.length (s3.2.2.2.1.flatMap eGConnsConn), .i .i64 s3.2.2.2.2], .box [.sl v18.1.L.length (v18.1.L.flatMap eGConnsConn), .i .i64 v18.1.Next]] rfl ?_
                exact eend
              refine ev (sees_at 2 rfl rfl) rfl rfl (opv_as rfl) ?_
              refine ev (sees_at 2 rfl rfl) rfl rfl (opv_as rfl) ?_
              refine enil ?_
              refine then_normal ?_
              refine cseq ?_
              refine cregion ?_
              refine sv rfl (opv_mv rfl) ?_
              refine sv rfl (opv_ieql rfl rfl) ?_
              refine snil ?_
              refine ccond rfl (fun hc => ?_) (fun hc => ?_)
              · replace h := ite_t hc h
                clear hc
                refine cseq ?_
                refine cseq ?_
                refine cregion ?_
                refine sv rfl (opv_mv rfl) ?_
                refine sv rfl (opv_mv rfl) ?_
                obtain ⟨u19, hu19, h⟩ := bind_eq h
                refine sv rfl (opv_ix (f := eGL17Act) si22 (fun _ => rfl) rfl rfl rfl rfl hu19) ?_
                refine sv rfl (opv_fieldAddr_cp fi28_2 rfl) ?_
                refine sv rfl (opv_load1 ti3 rfl (.cp _) rfl) ?_
                refine sv rfl (opv_mv rfl) ?_
                refine sv rfl (opv_ieql rfl rfl) ?_
                refine snil ?_
                refine ccond rfl (fun hc => ?_) (fun hc => ?_)
                · replace h := ite_t hc h
                  clear hc
                  refine cseq ?_
                  refine cseq ?_
                  refine cregion ?_
                  refine sv rfl (opv_mv rfl) ?_
                  refine sv rfl (opv_mv rfl) ?_
                  obtain ⟨u20, hu20, h⟩ := bind_eq h
                  refine sv rfl (opv_ix (f := eGL17Act) si22 (fun _ => rfl) rfl rfl rfl rfl hu20) ?_
                  refine sv rfl (opv_fieldAddr_cp fi28_3 rfl) ?_
                  refine sv rfl (opv_load1 ti3 rfl (.cp _) rfl) ?_
                  refine sv rfl (opv_mv rfl) ?_
                  refine sv rfl (opv_leq rfl rfl) ?_
                  refine snil ?_
                  refine ccond rfl (fun hc => ?_) (fun hc => ?_)
                  · replace h := ite_t hc h
                    clear hc
                    refine cseq ?_
                    refine cregion ?_
                    refine sv rfl (opv_as rfl) ?_
                    refine snil ?_
                    refine cret ?_
                    refine then_ret ?_
                    refine then_ret ?_
                    refine block_ret ?_
                    refine then_ret ?_
                    refine block_ret ?_
                    refine then_ret ?_
                    refine then_ret ?_
                    refine block_ret ?_
                    refine then_ret ?_
                    obtain rfl := Option.some.inj h
                    obtain rfl : Sum.inl _ = x3 := hk3
                    replace ho3 : some _ = some _ := ho3
                    obtain rfl := Option.some.inj ho3
                    refine ⟨Or.inr rfl, _, _, _, (resVs_cons (ResV.tmp _ _ rfl) resVs_nil), (pubA_id rfl), ?_⟩
                    rfl
                  · replace h := ite_f hc h
                    clear hc
                    refine cskip ?_
                    refine then_normal ?_
                    refine cregion ?_
                    refine sv rfl (opv_mv rfl) ?_
                    refine sv rfl (opv_mv rfl) ?_
                    obtain ⟨u21, hu21, h⟩ := bind_eq h
                    refine sv rfl (opv_ix (f := eGL17Act) si22 (fun _ => rfl) rfl rfl rfl rfl hu21) ?_
                    refine sv rfl (opv_fieldAddr_cp fi28_3 rfl) ?_
                    refine sv rfl (opv_load1 ti3 rfl (.cp _) rfl) ?_
                    refine sv rfl (opv_as rfl) ?_
                    refine snil ?_
                    refine cregion ?_
                    refine sv rfl (opv_loadN ti26 rfl (.lp _ _ _ rfl) (Nat.le_of_ble_eq_true rfl)) ?_
                    refine sstore sz26 rfl rfl rfl rfl (Nat.le_of_ble_eq_true rfl) ?_
                    refine smem [.box [.sl v18.1.L.length (v18.1.L.flatMap eGConnsConn), .i .i64 v18.1.Next], .box [.sl v18.1.L.length (v18.1.L.flatMap eGConnsConn), .i .i64 v18.1.Next]] rfl ?_
                    refine snil0 ?_
                    refine block_normal ?_
                    refine then_normal ?_
                    exact ⟨(s3.1, u21.Epoch, v18.1.L, v18.1.Next), _, h, ⟨rfl, rfl, rfl, rfl, rfl, rfl, rfl, trivial⟩, rfl⟩
                · replace h := ite_f hc h
                  clear hc
                  refine cskip ?_
                  refine then_normal ?_
                  refine cregion ?_
                  refine sv rfl (opv_loadN ti26 rfl (.lp _ _ _ rfl) (Nat.le_of_ble_eq_true rfl)) ?_
                  refine sstore sz26 rfl rfl rfl rfl (Nat.le_of_ble_eq_true rfl) ?_
                  refine smem [.box [.sl v18.1.L.length (v18.1.L.flatMap eGConnsConn), .i .i64 v18.1.Next], .box [.sl v18.1.L.length (v18.1.L.flatMap eGConnsConn), .i .i64 v18.1.Next]] rfl ?_
                  refine snil0 ?_
                  refine block_normal ?_
                  refine then_normal ?_
                  exact ⟨(s3.1, s3.2.1, v18.1.L, v18.1.Next), _, h, ⟨rfl, rfl, rfl, rfl, rfl, rfl, rfl, trivial⟩, rfl⟩
              · replace h := ite_f hc h
                clear hc
                refine cskip ?_
                refine block_normal ?_
                refine then_normal ?_
                exact ⟨(s3.1, s3.2.1, s3.2.2.2.1, s3.2.2.2.2), _, h, ⟨rfl, rfl, rfl, rfl, rfl, rfl, rfl, trivial⟩, rfl⟩
            · replace h := ite_f hc h
              clear hc
              refine cseq ?_
              refine chole ?_
              refine chole ?_
              obtain ⟨u22, hu22, h⟩ := bind_eq h
              obtain ⟨v23, hv23, h⟩ := bind_eq h
              refine cdraw_m [11, 12, 13, 14] [0, 0, 0, 6, 14, 30, 63, 127, 255, 255, 255, 0, 0, 6655, 15359, 32767] [([false, false, false, false], [.box [.sl s3.2.2.2.1.length (s3.2.2.2.1.flatMap eGConnsConn), .i .i64 s3.2.2.2.2], .hole, .hole]), ([false, true, false, false], [.box [.sl s3.2.2.2.1.length (s3.2.2.2.1.flatMap eGConnsConn), .i .i64 s3.2.2.2.2], .hole, .box [.i .i64 0, .i .i64 0, .i .i64 0, .i .i64 0, .raw (.slice none 0 0), .i .i64 0, .i .i64 0, .i .u64 ((0#64).toNat : Int), .i .i64 0, .raw (.slice none 0 0), .raw (.slice none 0 0)]]), ([true, false, false, false], [.box [.sl s3.2.2.2.1.length (s3.2.2.2.1.flatMap eGConnsConn), .i .i64 s3.2.2.2.2], .box [.raw (.slice none 0 0), .i .i64 0], .hole]), ([true, true, false, false], [.box [.sl s3.2.2.2.1.length (s3.2.2.2.1.flatMap eGConnsConn), .i .i64 s3.2.2.2.2], .box [.raw (.slice none 0 0), .i .i64 0], .box [.i .i64 0, .i .i64 0, .i .i64 0, .i .i64 0, .raw (.slice none 0 0), .i .i64 0, .i .i64 0, .i .u64 ((0#64).toNat : Int), .i .i64 0, .raw (.slice none 0 0), .raw (.slice none 0 0)]]), ([true, true, true, false], [.box [.sl s3.2.2.2.1.length (s3.2.2.2.1.flatMap eGConnsConn), .i .i64 s3.2.2.2.2], .box [.sl v23.1.L.length (v23.1.L.flatMap eGConnsConn), .i .i64 v23.1.Next], .box [.i .i64 0, .i .i64 0, .i .i64 0, .i .i64 0, .raw (.slice none 0 0), .i .i64 0, .i .i64 0, .i .u64 ((0#64).toNat : Int), .i .i64 0, .raw (.slice none 0 0), .raw (.slice none 0 0)]]), ([true, true, true, true], [.box [.sl s3.2.2.2.1.length (s3.2.2.2.1.flatMap eGConnsConn), .i .i64 s3.2.2.2.2], .box [.sl v23.1.L.length (v23.1.L.flatMap eGConnsConn), .i .i64 v23.1.Next], .box [.i .i64 v23.2.1.ID, .i .i64 v23.2.1.Who, .i .i64 v23.2.1.Epoch, .i .i64 v23.2.1.Tx, .sl v23.2.1.Stream.Buf.length (v23.2.1.Stream.Buf.flatMap eU8), .i .i64 v23.2.1.Stream.Dead, .i .i64 v23.2.1.Pipe.Win.Base, .i .u64 (v23.2.1.Pipe.Win.Bits.toNat : Int), .i .i64 v23.2.1.Pipe.Next, .sl v23.2.1.Pipe.Wait.length (v23.2.1.Pipe.Wait.flatMap eGMsgReq), .sl v23.2.1.Pipe.Past.length (v23.2.1.Pipe.Past.flatMap eGMsgReply)]])] (by kernel_rfl) mixed (by kernel_rfl) (by decide) rfl (by kernel_rfl) rfl rfl ?_
              refine mev (md := [.box [.sl s3.2.2.2.1.length (s3.2.2.2.1.flatMap eGConnsConn), .i .i64 s3.2.2.2.2], .dead, .dead]) (alle_t rfl ⟨rfl, ⟨trivial, ⟨trivial, trivial⟩⟩⟩ (alle_t rfl ⟨rfl, ⟨trivial, ⟨trivial, trivial⟩⟩⟩ (alle_t rfl ⟨rfl, ⟨trivial, ⟨trivial, trivial⟩⟩⟩ (alle_t rfl ⟨rfl, ⟨trivial, ⟨trivial, trivial⟩⟩⟩ (alle_f rfl (alle_f rfl alle_nil)))))) rfl rfl (opv_loadN ti26 rfl (.lp _ _ _ rfl) (Nat.le_of_ble_eq_true rfl)) ?_
              refine mem2 rfl rfl (fun _ => opv_mv rfl) ?_
              refine mem2 rfl rfl (fun _ => opv_mv rfl) ?_
              refine mev (md := [.box [.sl s3.2.2.2.1.length (s3.2.2.2.1.flatMap eGConnsConn), .i .i64 s3.2.2.2.2], .dead, .dead]) (alle_t rfl ⟨rfl, ⟨trivial, ⟨trivial, trivial⟩⟩⟩ (alle_t rfl ⟨rfl, ⟨trivial, ⟨trivial, trivial⟩⟩⟩ (alle_t rfl ⟨rfl, ⟨trivial, ⟨trivial, trivial⟩⟩⟩ (alle_t rfl ⟨rfl, ⟨trivial, ⟨trivial, trivial⟩⟩⟩ (alle_f rfl (alle_f rfl alle_nil)))))) rfl rfl (opv_ix (f := eGL17Act) si22 (fun _ => rfl) rfl rfl rfl rfl hu22) ?_
              refine mev (md := [.box [.sl s3.2.2.2.1.length (s3.2.2.2.1.flatMap eGConnsConn), .i .i64 s3.2.2.2.2], .dead, .dead]) (alle_t rfl ⟨rfl, ⟨trivial, ⟨trivial, trivial⟩⟩⟩ (alle_t rfl ⟨rfl, ⟨trivial, ⟨trivial, trivial⟩⟩⟩ (alle_t rfl ⟨rfl, ⟨trivial, ⟨trivial, trivial⟩⟩⟩ (alle_t rfl ⟨rfl, ⟨trivial, ⟨trivial, trivial⟩⟩⟩ (alle_f rfl (alle_f rfl alle_nil)))))) rfl rfl (opv_fieldAddr_cp fi28_1 rfl) ?_
              refine mev (md := [.box [.sl s3.2.2.2.1.length (s3.2.2.2.1.flatMap eGConnsConn), .i .i64 s3.2.2.2.2], .dead, .dead]) (alle_t rfl ⟨rfl, ⟨trivial, ⟨trivial, trivial⟩⟩⟩ (alle_t rfl ⟨rfl, ⟨trivial, ⟨trivial, trivial⟩⟩⟩ (alle_t rfl ⟨rfl, ⟨trivial, ⟨trivial, trivial⟩⟩⟩ (alle_t rfl ⟨rfl, ⟨trivial, ⟨trivial, trivial⟩⟩⟩ (alle_f rfl (alle_f rfl alle_nil)))))) rfl rfl (opv_load1 ti3 rfl (.cp _) rfl) ?_
              refine med (md := [.box [.sl s3.2.2.2.1.length (s3.2.2.2.1.flatMap eGConnsConn), .i .i64 s3.2.2.2.2], .dead, .dead]) (alle_t rfl ⟨rfl, ⟨trivial, ⟨trivial, trivial⟩⟩⟩ (alle_t rfl ⟨rfl, ⟨trivial, ⟨trivial, trivial⟩⟩⟩ (alle_t rfl ⟨rfl, ⟨trivial, ⟨trivial, trivial⟩⟩⟩ (alle_t rfl ⟨rfl, ⟨trivial, ⟨trivial, trivial⟩⟩⟩ (alle_f rfl (alle_f rfl alle_nil)))))) rfl rfl (opD_call fn9 (opnds_cons rfl (opnds_cons rfl opnds_nil)) rfl (m9_conns_Close_c hv23)) ?_
              refine mem2 rfl rfl (fun _ => opv_mvt rfl) ?_
              refine mev (md := [.box [.sl s3.2.2.2.1.length (s3.2.2.2.1.flatMap eGConnsConn), .i .i64 s3.2.2.2.2], .dead, .dead]) (alle_t rfl ⟨rfl, ⟨trivial, ⟨trivial, trivial⟩⟩⟩ (alle_t rfl ⟨rfl, ⟨trivial, ⟨trivial, trivial⟩⟩⟩ (alle_t rfl ⟨rfl, ⟨trivial, ⟨trivial, trivial⟩⟩⟩ (alle_t rfl ⟨rfl, ⟨trivial, ⟨trivial, trivial⟩⟩⟩ (alle_f rfl (alle_f rfl alle_nil)))))) rfl rfl (opv_extract rfl rfl) ?_
              refine mev (md := [.box [.sl s3.2.2.2.1.length (s3.2.2.2.1.flatMap eGConnsConn), .i .i64 s3.2.2.2.2], .dead, .dead]) (alle_t rfl ⟨rfl, ⟨trivial, ⟨trivial, trivial⟩⟩⟩ (alle_t rfl ⟨rfl, ⟨trivial, ⟨trivial, trivial⟩⟩⟩ (alle_t rfl ⟨rfl, ⟨trivial, ⟨trivial, trivial⟩⟩⟩ (alle_t rfl ⟨rfl, ⟨trivial, ⟨trivial, trivial⟩⟩⟩ (alle_t rfl ⟨rfl, ⟨trivial, ⟨trivial, trivial⟩⟩⟩ (alle_f rfl alle_nil)))))) rfl rfl (opv_extract rfl rfl) ?_
              refine mev (md := [.box [.sl s3.2.2.2.1.length (s3.2.2.2.1.flatMap eGConnsConn), .i .i64 s3.2.2.2.2], .dead, .dead]) (alle_t rfl ⟨rfl, ⟨trivial, ⟨trivial, trivial⟩⟩⟩ (alle_t rfl ⟨rfl, ⟨trivial, ⟨trivial, trivial⟩⟩⟩ (alle_t rfl ⟨rfl, ⟨trivial, ⟨trivial, trivial⟩⟩⟩ (alle_t rfl ⟨rfl, ⟨trivial, ⟨trivial, trivial⟩⟩⟩ (alle_t rfl ⟨rfl, ⟨trivial, ⟨trivial, trivial⟩⟩⟩ (alle_t rfl ⟨rfl, ⟨trivial, ⟨trivial, trivial⟩⟩⟩ alle_nil)))))) rfl rfl (opv_extract rfl rfl) ?_
              refine mee (x := .s (.one (.lp 1 0))) 0 rfl rfl ?_ ?_
              · refine alle_t rfl ⟨_, rfl, fun ζ => ?_⟩ ?_
                · refine salloc_at 1 rfl zi26 rfl ?_
                  exact eend
                refine alle_t rfl ⟨_, rfl, fun ζ => ?_⟩ ?_
                · refine salloc_at 1 rfl zi26 rfl ?_
                  exact eend
                refine alle_f rfl ?_
                refine alle_f rfl ?_
                refine alle_f rfl ?_
                refine alle_f rfl ?_
                exact alle_nil
              refine mee (x := .s (.one (.lp 2 0))) 1 rfl rfl ?_ ?_
              · refine alle_t rfl ⟨_, rfl, fun ζ => ?_⟩ ?_
                · refine salloc_at 2 rfl zi45 rfl ?_
                  exact eend
                refine alle_f rfl ?_
                refine alle_t rfl ⟨_, rfl, fun ζ => ?_⟩ ?_
                · refine salloc_at 2 rfl zi45 rfl ?_
                  exact eend
                refine alle_f rfl ?_
                refine alle_f rfl ?_
                refine alle_f rfl ?_
                exact alle_nil
              refine mee0 2 rfl ?_ ?_
              · refine alle_f rfl ?_
                refine alle_f rfl ?_
                refine alle_f rfl ?_
                refine alle_t rfl ⟨_, rfl, fun ζ => ?_⟩ ?_
                · refine sstore sz26 rfl rfl rfl rfl (Nat.le_of_ble_eq_true rfl) ?_
                  refine smem [.box [.sl s3.2.2.2.1.length (s3.2.2.2.1.flatMap eGConnsConn), .i .i64 s3.2.2.2.2], .box [.sl v23.1.L.length (v23.1.L.flatMap eGConnsConn), .i .i64 v23.1.Next], .box [.i .i64 0, .i .i64 0, .i .i64 0, .i .i64 0, .raw (.slice none 0 0), .i .i64 0, .i .i64 0, .i .u64 ((0#64).toNat : Int), .i .i64 0, .raw (.slice none 0 0), .raw (.slice none 0 0)]] rfl ?_
                  exact eend
                refine alle_f rfl ?_
                refine alle_f rfl ?_
                exact alle_nil
              refine mee0 3 rfl ?_ ?_
              · refine alle_f rfl ?_
                refine alle_f rfl ?_
                refine alle_f rfl ?_
                refine alle_f rfl ?_
                refine alle_t rfl ⟨_, rfl, fun ζ => ?_⟩ ?_
                · refine sstore sz45 rfl rfl rfl rfl (Nat.le_of_ble_eq_true rfl) ?_
                  refine smem [.box [.sl s3.2.2.2.1.length (s3.2.2.2.1.flatMap eGConnsConn), .i .i64 s3.2.2.2.2], .box [.sl v23.1.L.length (v23.1.L.flatMap eGConnsConn), .i .i64 v23.1.Next], .box [.i .i64 v23.2.1.ID, .i .i64 v23.2.1.Who, .i .i64 v23.2.1.Epoch, .i .i64 v23.2.1.Tx, .sl v23.2.1.Stream.Buf.length (v23.2.1.Stream.Buf.flatMap eU8), .i .i64 v23.2.1.Stream.Dead, .i .i64 v23.2.1.Pipe.Win.Base, .i .u64 (v23.2.1.Pipe.Win.Bits.toNat : Int), .i .i64 v23.2.1.Pipe.Next, .sl v23.2.1.Pipe.Wait.length (v23.2.1.Pipe.Wait.flatMap eGMsgReq), .sl v23.2.1.Pipe.Past.length (v23.2.1.Pipe.Past.flatMap eGMsgReply)]] rfl ?_
                  exact eend
                refine alle_f rfl ?_
                exact alle_nil
              refine mem2 rfl rfl (fun _ => opv_as rfl) ?_
              refine mnil2 ?_
              refine then_normal ?_
              refine cseq ?_
              refine cseq ?_
              refine cregion ?_
              refine sv rfl (opv_mv rfl) ?_
              refine sv rfl (opv_mv rfl) ?_
              refine ssplit 45 rfl (fun hc => ?_) (fun hc => ?_)
              · replace h := ite_t hc h
                clear hc
                refine son rfl rfl rfl ?_
                refine sv rfl (opv_fieldAddr_lp fi45_1 rfl) ?_
                refine son rfl rfl rfl ?_
                refine sv rfl (opv_load1 ti3 rfl (.lp _ _ _ rfl) rfl) ?_
                refine son rfl rfl rfl ?_
                refine sv rfl (opv_mv rfl) ?_
                refine son rfl rfl rfl ?_
                refine sv rfl (opv_ieql rfl rfl) ?_
                refine sv rfl (opv_pick_t rfl rfl) ?_
                refine snil ?_
                refine ccond rfl (fun hc => ?_) (fun hc => ?_)
                · replace h := ite_t hc h
                  clear hc
                  refine cregion ?_
                  refine sv rfl (opv_as rfl) ?_
                  refine snil ?_
                  refine cregion ?_
                  refine sv rfl (opv_loadN ti26 rfl (.lp _ _ _ rfl) (Nat.le_of_ble_eq_true rfl)) ?_
                  refine sstore sz26 rfl rfl rfl rfl (Nat.le_of_ble_eq_true rfl) ?_
                  refine smem [.box [.sl v23.1.L.length (v23.1.L.flatMap eGConnsConn), .i .i64 v23.1.Next], .box [.sl v23.1.L.length (v23.1.L.flatMap eGConnsConn), .i .i64 v23.1.Next], .box [.i .i64 v23.2.1.ID, .i .i64 v23.2.1.Who, .i .i64 v23.2.1.Epoch, .i .i64 v23.2.1.Tx, .sl v23.2.1.Stream.Buf.length (v23.2.1.Stream.Buf.flatMap eU8), .i .i64 v23.2.1.Stream.Dead, .i .i64 v23.2.1.Pipe.Win.Base, .i .u64 (v23.2.1.Pipe.Win.Bits.toNat : Int), .i .i64 v23.2.1.Pipe.Next, .sl v23.2.1.Pipe.Wait.length (v23.2.1.Pipe.Wait.flatMap eGMsgReq), .sl v23.2.1.Pipe.Past.length (v23.2.1.Pipe.Past.flatMap eGMsgReply)]] rfl ?_
                  refine snil0 ?_
                  refine block_normal ?_
                  refine then_normal ?_
                  exact ⟨(s3.1, (-1), v23.1.L, v23.1.Next), _, h, ⟨rfl, rfl, rfl, rfl, rfl, rfl, rfl, trivial⟩, rfl⟩
                · replace h := ite_f hc h
                  clear hc
                  refine cskip ?_
                  refine then_normal ?_
                  refine cregion ?_
                  refine sv rfl (opv_loadN ti26 rfl (.lp _ _ _ rfl) (Nat.le_of_ble_eq_true rfl)) ?_
                  refine sstore sz26 rfl rfl rfl rfl (Nat.le_of_ble_eq_true rfl) ?_
                  refine smem [.box [.sl v23.1.L.length (v23.1.L.flatMap eGConnsConn), .i .i64 v23.1.Next], .box [.sl v23.1.L.length (v23.1.L.flatMap eGConnsConn), .i .i64 v23.1.Next], .box [.i .i64 v23.2.1.ID, .i .i64 v23.2.1.Who, .i .i64 v23.2.1.Epoch, .i .i64 v23.2.1.Tx, .sl v23.2.1.Stream.Buf.length (v23.2.1.Stream.Buf.flatMap eU8), .i .i64 v23.2.1.Stream.Dead, .i .i64 v23.2.1.Pipe.Win.Base, .i .u64 (v23.2.1.Pipe.Win.Bits.toNat : Int), .i .i64 v23.2.1.Pipe.Next, .sl v23.2.1.Pipe.Wait.length (v23.2.1.Pipe.Wait.flatMap eGMsgReq), .sl v23.2.1.Pipe.Past.length (v23.2.1.Pipe.Past.flatMap eGMsgReply)]] rfl ?_
                  refine snil0 ?_
                  refine block_normal ?_
                  refine then_normal ?_
                  exact ⟨(s3.1, s3.2.1, v23.1.L, v23.1.Next), _, h, ⟨rfl, rfl, rfl, rfl, rfl, rfl, rfl, trivial⟩, rfl⟩
              · replace h := ite_f hc h
                clear hc
                refine soff rfl rfl rfl rfl ?_
                refine soff rfl rfl rfl rfl ?_
                refine soff rfl rfl rfl rfl ?_
                refine soff rfl rfl rfl rfl ?_
                refine sv rfl (opv_pick_f rfl rfl) ?_
                refine snil ?_
                refine ccond rfl (fun hx => Bool.noConfusion hx) (fun _ => ?_)
                refine cskip ?_
                refine then_normal ?_
                refine cregion ?_
                refine sv rfl (opv_loadN ti26 rfl (.lp _ _ _ rfl) (Nat.le_of_ble_eq_true rfl)) ?_
                refine sstore sz26 rfl rfl rfl rfl (Nat.le_of_ble_eq_true rfl) ?_
                refine smem [.box [.sl v23.1.L.length (v23.1.L.flatMap eGConnsConn), .i .i64 v23.1.Next], .box [.sl v23.1.L.length (v23.1.L.flatMap eGConnsConn), .i .i64 v23.1.Next], .box [.i .i64 v23.2.1.ID, .i .i64 v23.2.1.Who, .i .i64 v23.2.1.Epoch, .i .i64 v23.2.1.Tx, .sl v23.2.1.Stream.Buf.length (v23.2.1.Stream.Buf.flatMap eU8), .i .i64 v23.2.1.Stream.Dead, .i .i64 v23.2.1.Pipe.Win.Base, .i .u64 (v23.2.1.Pipe.Win.Bits.toNat : Int), .i .i64 v23.2.1.Pipe.Next, .sl v23.2.1.Pipe.Wait.length (v23.2.1.Pipe.Wait.flatMap eGMsgReq), .sl v23.2.1.Pipe.Past.length (v23.2.1.Pipe.Past.flatMap eGMsgReply)]] rfl ?_
                refine snil0 ?_
                refine block_normal ?_
                refine then_normal ?_
                exact ⟨(s3.1, s3.2.1, v23.1.L, v23.1.Next), _, h, ⟨rfl, rfl, rfl, rfl, rfl, rfl, rfl, trivial⟩, rfl⟩
      · replace h := ite_f hc h
        clear hc
        refine cexit ?_
        refine then_exit ?_
        refine then_exit ?_
        refine block_hit ?_
        refine then_normal ?_
        obtain rfl := Option.some.inj h
        obtain rfl : _ = x3 := hk3
        exact ⟨(s3.2.2.2.1, s3.2.2.2.2), _, ho3, ⟨rfl, trivial⟩, rfl⟩


end Go.Proofs.YtlnpkincpgbmcaaDoor.Abs
