/-
  t
-/
import Derived.Test.YtdehclinlcnlhaaT19b
namespace Go.Proofs.Ytdehclinlcnlhaa.Abs
open Go.RowKit Go.Proofs
def m36_r09_Over (a0 : GR09Buf) (a1 : List GApiKV) (a2 : GApiRange) (a3 : Int) : Option (List GApiKV) :=
  (m51_r09_Sane (GR09Buf.mk a0.L)).bind fun v19 => if (!v19) then (some ([] : List GApiKV)) else ((m12_r09_Rising a1).bind fun v20 => if (!v20) then (some ([] : List GApiKV)) else (m36_r09_Over_k1 a0 a1 a2 a3 ()))

set_option maxRecDepth 100000 in
theorem m36_r09_Over_c {a0 : GR09Buf} {a1 : List GApiKV} {a2 : GApiRange} {a3 : Int} {r : (List GApiKV)} (h : m36_r09_Over a0 a1 a2 a3 = some r) : CallsA Try.prog 36 [.agg [.sl a0.L.length (a0.L.flatMap eGApiWrite)], .one (.sl a1.length (a1.flatMap eGApiKV)), .agg a2, .one (.i .i64 a3)] (· = .s (.one (.sl r.length (r.flatMap eGApiKV)))) := by
  unfold m36_r09_Over at h
  refine callsA_of Try.func36 rfl (nt := 109) rfl (Nat.le_of_ble_eq_true rfl) ?_
  intro w0 S0
  refine cseq ?_
  refine cregion ?_
  refine sbox rfl rfl ?_
  refine sbox rfl rfl ?_
  refine sv rfl (opv_as rfl) ?_
  refine snil ?_
  refine cseq ?_
  refine cregion ?_
  refine sv rfl (opv_as rfl) ?_
  refine snil ?_
  refine cseq ?_
  refine cseq ?_
  refine cjoin3 (Unit) (fun b1 => [(1, .s (.one (.sl a1.length (a1.flatMap eGApiKV)))), (3, .s (.one (.i .i64 a3))), (4, .s (.one (.lp 0 0))), (6, .s (.one (.lp 1 0))), (9, .s (.one (.raw (.slice none 0 0))))]) (fun b1 => [.box [.sl a0.L.length (a0.L.flatMap eGApiWrite)], .box a2]) (fun b1 => m36_r09_Over_k1 a0 a1 a2 a3 b1 = some r) (fun _ _ => inbL_of rfl) (fun _ _ => blkinb_of rfl) (fun _ _ => Nat.le_of_ble_eq_true rfl) (fun b1 h => ?_) ?_
  · unfold m36_r09_Over_k1 at h
    refine cseq ?_
    refine cregion ?_
    refine sv rfl (opv_as rfl) ?_
    refine snil ?_
    refine cseq ?_
    refine cregion ?_
    refine sv rfl (opv_as rfl) ?_
    refine snil ?_
    refine cseq ?_
    refine sadopt_c 65 2 9 (by decide) rfl ?_
    refine cjoin ((List GApiKV)) (fun b2 => [(9, .s (.one (.ls 2 b2.length)))]) (fun b2 => [.box [.sl a0.L.length (a0.L.flatMap eGApiWrite)], .box a2, .arr 65 2 0 (b2.flatMap eGApiKV)]) (fun b2 => m36_r09_Over_k2 b2 = some r) (fun _ _ => inbL_of rfl) (fun _ _ => blkinb_of rfl) (fun _ _ => Nat.le_of_ble_eq_true rfl) (fun b2 h => ?_) ?_
    · unfold m36_r09_Over_k2 at h
      refine cseq ?_
      refine cregion ?_
      refine sv rfl (opv_mv rfl) ?_
      refine sv rfl (opv_as rfl) ?_
      refine snil ?_
      refine cret ?_
      obtain rfl := Option.some.inj h
      refine ⟨Or.inr rfl, _, _, _, (resVs_cons (ResV.tmp _ _ rfl) resVs_nil), (by (repeat' first | exact PubA.nil _ | apply PubA.cons | apply PubV.one | apply PubV.agg | exact PubL.nil | exact PubL.ls _ _ _ _ _ _ rfl (flat_len (f := eGApiKV) (fun _ => rfl) _).symm | exact PubL.id _ rfl | exact PubLs.nil _ | apply PubLs.cons)), ?_⟩
      rfl
    · skip
      refine cblock ?_
      obtain ⟨x3, hx3, ho3⟩ := bind_eq h
      refine awc_loop (G := Nat × (Int × Int × (List GApiKV))) (fun g => [(1, .s (.one (.sl a1.length (a1.flatMap eGApiKV)))), (3, .s (.one (.i .i64 a3))), (4, .s (.one (.lp 0 0))), (6, .s (.one (.lp 1 0))), (9, .s (.one (.ls 2 g.2.2.2.length))), (10, .s (.one (.i .i64 g.2.1))), (11, .s (.one (.i .i64 g.2.2.1)))]) (fun g => [.box [.sl a0.L.length (a0.L.flatMap eGApiWrite)], .box a2, .arr 65 2 0 (g.2.2.2.flatMap eGApiKV)]) (fun g => iterB (m36_r09_Over_s3 a0 a1 a2 a3) g.1 g.2 = some x3) (fun g => g.1) (fuel, (0, 0, ([] : List GApiKV))) hx3 ⟨rfl, rfl, rfl, rfl, rfl, rfl, rfl, trivial⟩ [] rfl (fun _ _ => inbL_of rfl) (fun _ _ => blkinb_of rfl) (fun _ _ => Nat.le_of_ble_eq_true rfl) ?_
      clear hx3 h
      rintro ⟨n3, s3⟩ h
      obtain ⟨n3, y3, rfl, h, hk3⟩ := iterB_eq h
      unfold m36_r09_Over_s3 at h
      refine cseq ?_
      refine cseq ?_
      refine cjoin3 (Unit) (fun b4 => [(1, .s (.one (.sl a1.length (a1.flatMap eGApiKV)))), (3, .s (.one (.i .i64 a3))), (4, .s (.one (.lp 0 0))), (6, .s (.one (.lp 1 0))), (9, .s (.one (.ls 2 s3.2.2.length))), (10, .s (.one (.i .i64 s3.1))), (11, .s (.one (.i .i64 s3.2.1)))]) (fun b4 => [.box [.sl a0.L.length (a0.L.flatMap eGApiWrite)], .box a2, .arr 65 2 0 (s3.2.2.flatMap eGApiKV)]) (fun b4 => m36_r09_Over_k4 a0 a1 a2 s3 b4 = some y3) (fun _ _ => inbL_of rfl) (fun _ _ => blkinb_of rfl) (fun _ _ => Nat.le_of_ble_eq_true rfl) (fun b4 h => ?_) ?_
      · unfold m36_r09_Over_k4 at h
        refine cblock ?_
        refine cseq ?_
        refine cregion ?_
        refine sv rfl (opv_as rfl) ?_
        refine snil ?_
        refine cseq ?_
        refine cseq ?_
        refine cregion ?_
        refine sv rfl (opv_mv rfl) ?_
        refine sv rfl (opv_mv rfl) ?_
        refine sv rfl (opv_len_sl si25 rfl) ?_
        refine sv rfl (opv_geq rfl rfl) ?_
        refine snil ?_
        refine cjoin (Int) (fun b5 => [(1, .s (.one (.sl a1.length (a1.flatMap eGApiKV)))), (3, .s (.one (.i .i64 a3))), (4, .s (.one (.lp 0 0))), (6, .s (.one (.lp 1 0))), (9, .s (.one (.ls 2 s3.2.2.length))), (10, .s (.one (.i .i64 s3.1))), (11, .s (.one (.i .i64 s3.2.1))), (12, .s (.one (.i .i64 b5)))]) (fun b5 => [.box [.sl a0.L.length (a0.L.flatMap eGApiWrite)], .box a2, .arr 65 2 0 (s3.2.2.flatMap eGApiKV)]) (fun b5 => m36_r09_Over_k5 a0 a1 a2 s3 b5 = some y3) (fun _ _ => inbL_of rfl) (fun _ _ => blkinb_of rfl) (fun _ _ => Nat.le_of_ble_eq_true rfl) (fun b5 h => ?_) ?_
        · unfold m36_r09_Over_k5 at h
          refine cseq ?_
          refine cregion ?_
          refine sv rfl (opv_build zi65 pi65 parts_nil (.nil _)) ?_
          refine salloc rfl zi65 ?_
          refine sstore sz65 rfl rfl rfl rfl (Nat.le_of_ble_eq_true rfl) ?_
          refine smem [.box [.sl a0.L.length (a0.L.flatMap eGApiWrite)], .box a2, .arr 65 2 0 (s3.2.2.flatMap eGApiKV), .box [.raw (.slice none 0 0), .raw (.slice none 0 0)]] rfl ?_
          refine snil ?_
          refine cseq ?_
          refine cregion ?_
          refine sv rfl (opv_as rfl) ?_
          refine snil ?_
          refine cseq ?_
          refine cseq ?_
          refine cregion ?_
          refine sv rfl (opv_mv rfl) ?_
          refine sv rfl (opv_lss rfl rfl) ?_
          refine snil ?_
          refine cjoin (Bool × (List UInt8) × (List UInt8)) (fun b6 => [(1, .s (.one (.sl a1.length (a1.flatMap eGApiKV)))), (3, .s (.one (.i .i64 a3))), (4, .s (.one (.lp 0 0))), (6, .s (.one (.lp 1 0))), (9, .s (.one (.ls 2 s3.2.2.length))), (10, .s (.one (.i .i64 s3.1))), (11, .s (.one (.i .i64 s3.2.1))), (12, .s (.one (.i .i64 b5))), (13, .s (.one (.lp 3 0))), (14, .s (.one (.b b6.1)))]) (fun b6 => [.box [.sl a0.L.length (a0.L.flatMap eGApiWrite)], .box a2, .arr 65 2 0 (s3.2.2.flatMap eGApiKV), .box [.sl b6.2.1.length (b6.2.1.flatMap eU8), .sl b6.2.2.length (b6.2.2.flatMap eU8)]]) (fun b6 => m36_r09_Over_k6 a2 s3 b5 b6 = some y3) (fun _ _ => inbL_of rfl) (fun _ _ => blkinb_of rfl) (fun _ _ => Nat.le_of_ble_eq_true rfl) (fun b6 h => ?_) ?_
          · unfold m36_r09_Over_k6 at h
            refine cseq ?_
            refine cseq ?_
            refine cregion ?_
            refine sv rfl (opv_mv rfl) ?_
            refine sv rfl (opv_leq rfl rfl) ?_
            refine snil ?_
            refine cjoin (Int) (fun b7 => [(1, .s (.one (.sl a1.length (a1.flatMap eGApiKV)))), (3, .s (.one (.i .i64 a3))), (4, .s (.one (.lp 0 0))), (6, .s (.one (.lp 1 0))), (9, .s (.one (.ls 2 s3.2.2.length))), (10, .s (.one (.i .i64 b7))), (11, .s (.one (.i .i64 s3.2.1))), (12, .s (.one (.i .i64 b5))), (13, .s (.one (.lp 3 0))), (14, .s (.one (.b b6.1)))]) (fun b7 => [.box [.sl a0.L.length (a0.L.flatMap eGApiWrite)], .box a2, .arr 65 2 0 (s3.2.2.flatMap eGApiKV), .box [.sl b6.2.1.length (b6.2.1.flatMap eU8), .sl b6.2.2.length (b6.2.2.flatMap eU8)]]) (fun b7 => m36_r09_Over_k7 a2 s3 b5 b6 b7 = some y3) (fun _ _ => inbL_of rfl) (fun _ _ => blkinb_of rfl) (fun _ _ => Nat.le_of_ble_eq_true rfl) (fun b7 h => ?_) ?_
            · unfold m36_r09_Over_k7 at h
              refine cseq ?_
              refine cseq ?_
              refine cregion ?_
              refine sv rfl (opv_mv rfl) ?_
              refine sv rfl (opv_geq rfl rfl) ?_
              refine snil ?_
              refine cjoin (Int) (fun b8 => [(1, .s (.one (.sl a1.length (a1.flatMap eGApiKV)))), (3, .s (.one (.i .i64 a3))), (4, .s (.one (.lp 0 0))), (6, .s (.one (.lp 1 0))), (9, .s (.one (.ls 2 s3.2.2.length))), (10, .s (.one (.i .i64 b7))), (11, .s (.one (.i .i64 b8))), (13, .s (.one (.lp 3 0))), (14, .s (.one (.b b6.1)))]) (fun b8 => [.box [.sl a0.L.length (a0.L.flatMap eGApiWrite)], .box a2, .arr 65 2 0 (s3.2.2.flatMap eGApiKV), .box [.sl b6.2.1.length (b6.2.1.flatMap eU8), .sl b6.2.2.length (b6.2.2.flatMap eU8)]]) (fun b8 => m36_r09_Over_k8 a2 s3 b6 b7 b8 = some y3) (fun _ _ => inbL_of rfl) (fun _ _ => blkinb_of rfl) (fun _ _ => Nat.le_of_ble_eq_true rfl) (fun b8 h => ?_) ?_
              · unfold m36_r09_Over_k8 at h
                refine cseq ?_
                refine cregion ?_
                refine sv rfl (opv_mv rfl) ?_
                refine sv rfl (opv_not rfl) ?_
                refine sv rfl (opv_mv rfl) ?_
                refine ssplit 98 rfl (fun hc => ?_) (fun hc => ?_)
                · replace h := ite_t hc h
                  clear hc
                  refine son rfl rfl rfl ?_
                  refine sv rfl (opv_loadN ti44 rfl (.lp _ _ _ rfl) (Nat.le_of_ble_eq_true rfl)) ?_
                  refine son rfl rfl rfl ?_
                  refine sv rfl (opv_fieldAddr_lp fi65_0 rfl) ?_
                  refine son rfl rfl rfl ?_
                  refine sv rfl (opv_load1 ti42 rfl (.lp _ _ _ rfl) rfl) ?_
                  refine son rfl rfl rfl ?_
                  obtain ⟨v9, hv9, h⟩ := bind_eq h
                  refine scall1 rfl fn35 (opnds_cons rfl (opnds_cons rfl opnds_nil)) (pubA_id rfl) (m35_r06_Has_c hv9) ?_
                  refine sv rfl (opv_pick_t rfl rfl) ?_
                  refine snil ?_
                  refine ccond rfl (fun hc => ?_) (fun hc => ?_)
                  · replace h := ite_t hc h
                    clear hc
                    refine cregion ?_
                    refine sv rfl (opv_mv rfl) ?_
                    refine sv rfl (opv_loadN ti65 rfl (.lp _ _ _ rfl) (Nat.le_of_ble_eq_true rfl)) ?_
                    refine sbuild1 rfl Try.underlying25 ei65 rfl rfl (List.all_eq_true.1 rfl) (by decide) ?_
                    refine smem [.box [.sl a0.L.length (a0.L.flatMap eGApiWrite)], .box a2, .arr 65 2 0 (s3.2.2.flatMap eGApiKV), .box [.sl b6.2.1.length (b6.2.1.flatMap eU8), .sl b6.2.2.length (b6.2.2.flatMap eU8)], .arr 65 2 0 ([(GApiKV.mk b6.2.1 b6.2.2)].flatMap eGApiKV)] rfl ?_
                    obtain ⟨hb10, h⟩ := chk_eq h
                    refine sapp (f := eGApiKV) (xs := s3.2.2) (us := [(GApiKV.mk b6.2.1 b6.2.2)]) rfl Try.underlying25 ei65 ni25 (fun _ => rfl) rfl rfl (.one _ _ _ _ (.ls _ _ _ _ _ _ rfl (flat_len (f := eGApiKV) (fun _ => rfl) [(GApiKV.mk b6.2.1 b6.2.2)]).symm)) rfl rfl rfl (.sl _ _ _ (flat_len (f := eGApiKV) (fun _ => rfl) _)) rfl rfl hb10 (by decide) ?_
                    refine sv rfl (opv_as rfl) ?_
                    refine snil0 ?_
                    refine block_normal ?_
                    refine then_normal ?_
                    obtain rfl := Option.some.inj h
                    exact ⟨(n3, (b7, b8, (s3.2.2 ++ [(GApiKV.mk b6.2.1 b6.2.2)]))), _, hk3, ⟨rfl, rfl, rfl, rfl, rfl, rfl, rfl, trivial⟩, rfl, Nat.lt_succ_self _⟩
                  · replace h := ite_f hc h
                    clear hc
                    refine cskip ?_
                    refine block_normal ?_
                    refine then_normal ?_
                    obtain rfl := Option.some.inj h
                    exact ⟨(n3, (b7, b8, s3.2.2)), _, hk3, ⟨rfl, rfl, rfl, rfl, rfl, rfl, rfl, trivial⟩, rfl, Nat.lt_succ_self _⟩
                · replace h := ite_f hc h
                  clear hc
                  refine soff rfl rfl rfl rfl ?_
                  refine soff rfl rfl rfl rfl ?_
                  refine soff rfl rfl rfl rfl ?_
                  refine soff rfl rfl rfl rfl ?_
                  refine sv rfl (opv_pick_f rfl rfl) ?_
                  refine snil ?_
                  refine ccond rfl (fun hx => Bool.noConfusion hx) (fun _ => ?_)
                  refine cskip ?_
                  refine block_normal ?_
                  refine then_normal ?_
                  obtain rfl := Option.some.inj h
                  exact ⟨(n3, (b7, b8, s3.2.2)), _, hk3, ⟨rfl, rfl, rfl, rfl, rfl, rfl, rfl, trivial⟩, rfl, Nat.lt_succ_self _⟩
              · skip
                refine ccond rfl (fun hc => ?_) (fun hc => ?_)
                · replace h := ite_t hc h
                  clear hc
                  refine cregion ?_
                  refine sv rfl (opv_mv rfl) ?_
                  refine sv rfl (opv_add rfl rfl) ?_
                  refine sv rfl (opv_as rfl) ?_
                  refine snil ?_
                  exact ⟨(wI (s3.2.1 + 1)), _, h, ⟨rfl, rfl, rfl, rfl, rfl, rfl, rfl, rfl, rfl, trivial⟩, rfl⟩
                · replace h := ite_f hc h
                  clear hc
                  refine cskip ?_
                  refine then_normal ?_
                  exact ⟨s3.2.1, _, h, ⟨rfl, rfl, rfl, rfl, rfl, rfl, rfl, rfl, rfl, trivial⟩, rfl⟩
            · skip
              refine ccond rfl (fun hc => ?_) (fun hc => ?_)
              · replace h := ite_t hc h
                clear hc
                refine cregion ?_
                refine sv rfl (opv_mv rfl) ?_
                refine sv rfl (opv_add rfl rfl) ?_
                refine sv rfl (opv_as rfl) ?_
                refine snil ?_
                exact ⟨(wI (s3.1 + 1)), _, h, ⟨rfl, rfl, rfl, rfl, rfl, rfl, rfl, rfl, rfl, rfl, trivial⟩, rfl⟩
              · replace h := ite_f hc h
                clear hc
                refine cskip ?_
                refine then_normal ?_
                exact ⟨s3.1, _, h, ⟨rfl, rfl, rfl, rfl, rfl, rfl, rfl, rfl, rfl, rfl, trivial⟩, rfl⟩
          · skip
            refine ccond rfl (fun hc => ?_) (fun hc => ?_)
            · replace h := ite_t hc h
              clear hc
              refine cregion ?_
              refine sv rfl (opv_mv rfl) ?_
              refine sv rfl (opv_mv rfl) ?_
              obtain ⟨u11, hu11, h⟩ := bind_eq h
              refine sv rfl (opv_ix (f := eGApiKV) si25 (fun _ => rfl) rfl rfl rfl rfl hu11) ?_
              refine sv rfl (opv_loadNe (ys := [.sl u11.Key.length (u11.Key.flatMap eU8), .sl u11.Val.length (u11.Val.flatMap eU8)]) ti65 rfl (.cp _) rfl rfl) ?_
              refine sstore sz65 rfl rfl rfl rfl (Nat.le_of_ble_eq_true rfl) ?_
              refine smem [.box [.sl a0.L.length (a0.L.flatMap eGApiWrite)], .box a2, .arr 65 2 0 (s3.2.2.flatMap eGApiKV), .box u11] rfl ?_
              refine snil ?_
              exact ⟨(false, u11.Key, u11.Val), _, h, ⟨rfl, rfl, rfl, rfl, rfl, rfl, rfl, rfl, rfl, rfl, trivial⟩, rfl⟩
            · replace h := ite_f hc h
              clear hc
              refine cseq ?_
              obtain ⟨u12, hu12, h⟩ := bind_eq h
              obtain ⟨u13, hu13, h⟩ := bind_eq h
              refine cdraw_e [13] [0, 1, 0, 7, 15, 31, 0, 64, 0, 448, 960, 1984, 4095, 8191] [[.box [.sl a0.L.length (a0.L.flatMap eGApiWrite)], .box a2, .arr 65 2 0 (s3.2.2.flatMap eGApiKV), .box [.raw (.slice none 0 0), .raw (.slice none 0 0)]], [.box [.sl a0.L.length (a0.L.flatMap eGApiWrite)], .box a2, .arr 65 2 0 (s3.2.2.flatMap eGApiKV), .box [.sl u12.Key.length (u12.Key.flatMap eU8), .sl u13.Val.length (u13.Val.flatMap eU8)]]] (by kernel_rfl) mixed (by kernel_rfl) (by decide) rfl rfl rfl rfl ?_
              refine ev (sees_at 0 rfl rfl) rfl rfl (opv_fieldAddr_lp fi89_0 rfl) ?_
              refine ev (sees_at 0 rfl rfl) rfl rfl (opv_load1 ti74 rfl (.lp _ _ _ rfl) rfl) ?_
              refine ev (sees_at 0 rfl rfl) rfl rfl (opv_mv rfl) ?_
              refine ev (sees_at 0 rfl rfl) rfl rfl (opv_ix (f := eGApiWrite) si74 (fun _ => rfl) rfl rfl rfl rfl hu12) ?_
              refine ev (sees_at 0 rfl rfl) rfl rfl (opv_fieldAddr_cp fi88_0 rfl) ?_
              refine ev (sees_at 0 rfl rfl) rfl rfl (opv_load1 ti42 rfl (.cp _) rfl) ?_
              refine ev (sees_at 0 rfl rfl) rfl rfl (opv_fieldAddr_lp fi89_0 rfl) ?_
              refine ev (sees_at 0 rfl rfl) rfl rfl (opv_load1 ti74 rfl (.lp _ _ _ rfl) rfl) ?_
              refine ev (sees_at 0 rfl rfl) rfl rfl (opv_mv rfl) ?_
              refine ev (sees_at 0 rfl rfl) rfl rfl (opv_ix (f := eGApiWrite) si74 (fun _ => rfl) rfl rfl rfl rfl hu13) ?_
              refine ev (sees_at 0 rfl rfl) rfl rfl (opv_fieldAddr_cp fi88_1 rfl) ?_
              refine ev (sees_at 0 rfl rfl) rfl rfl (opv_load1 ti42 rfl (.cp _) rfl) ?_
              refine ev (sees_at 0 rfl rfl) rfl rfl (opv_build zi65 pi65 (parts_cons rfl (parts_cons rfl parts_nil)) (.cons _ _ _ _ _ _ _ rfl rfl (Nat.le_of_ble_eq_true rfl) (.cons _ _ _ _ _ _ _ rfl rfl (Nat.le_of_ble_eq_true rfl) (.nil _)))) ?_
              refine ee0 0 rfl rfl rfl rfl (fun ζ => ?_) ?_
              · refine sstore sz65 rfl rfl rfl rfl (Nat.le_of_ble_eq_true rfl) ?_
                refine smem [.box [.sl a0.L.length (a0.L.flatMap eGApiWrite)], .box a2, .arr 65 2 0 (s3.2.2.flatMap eGApiKV), .box [.sl u12.Key.length (u12.Key.flatMap eU8), .sl u13.Val.length (u13.Val.flatMap eU8)]] rfl ?_
                exact eend
              refine enil ?_
              refine then_normal ?_
              refine cregion ?_
              refine sv rfl (opv_fieldAddr_lp fi89_0 rfl) ?_
              refine sv rfl (opv_load1 ti74 rfl (.lp _ _ _ rfl) rfl) ?_
              refine sv rfl (opv_mv rfl) ?_
              obtain ⟨u14, hu14, h⟩ := bind_eq h
              refine sv rfl (opv_ix (f := eGApiWrite) si74 (fun _ => rfl) rfl rfl rfl rfl hu14) ?_
              refine sv rfl (opv_fieldAddr_cp fi88_2 rfl) ?_
              refine sv rfl (opv_load1 ti4 rfl (.cp _) rfl) ?_
              refine sv rfl (opv_as rfl) ?_
              refine snil ?_
              exact ⟨(u14.Del, u12.Key, u13.Val), _, h, ⟨rfl, rfl, rfl, rfl, rfl, rfl, rfl, rfl, rfl, rfl, trivial⟩, rfl⟩
        · skip
          refine ccond rfl (fun hc => ?_) (fun hc => ?_)
          · replace h := ite_t hc h
            clear hc
            refine cregion ?_
            refine sv rfl (opv_as rfl) ?_
            refine snil ?_
            exact ⟨1, _, h, ⟨rfl, rfl, rfl, rfl, rfl, rfl, rfl, rfl, trivial⟩, rfl⟩
          · replace h := ite_f hc h
            clear hc
            refine cseq ?_
            refine cregion ?_
            refine sv rfl (opv_mv rfl) ?_
            refine sv rfl (opv_fieldAddr_lp fi89_0 rfl) ?_
            refine sv rfl (opv_load1 ti74 rfl (.lp _ _ _ rfl) rfl) ?_
            refine sv rfl (opv_len_sl si74 rfl) ?_
            refine sv rfl (opv_lss rfl rfl) ?_
            refine snil ?_
            refine ccond rfl (fun hc => ?_) (fun hc => ?_)
            · replace h := ite_t hc h
              clear hc
              refine cdraw mixed (by kernel_rfl) ?_
              refine dv rfl (opv_mv rfl) ?_
              refine dv rfl (opv_mv rfl) ?_
              obtain ⟨u15, hu15, h⟩ := bind_eq h
              refine dv rfl (opv_ix (f := eGApiKV) si25 (fun _ => rfl) rfl rfl rfl rfl hu15) ?_
              refine dv rfl (opv_fieldAddr_cp fi65_0 rfl) ?_
              refine dv rfl (opv_load1 ti42 rfl (.cp _) rfl) ?_
              refine dv rfl (opv_fieldAddr_lp fi89_0 rfl) ?_
              refine dv rfl (opv_load1 ti74 rfl (.lp _ _ _ rfl) rfl) ?_
              refine dv rfl (opv_mv rfl) ?_
              obtain ⟨u16, hu16, h⟩ := bind_eq h
              refine dv rfl (opv_ix (f := eGApiWrite) si74 (fun _ => rfl) rfl rfl rfl rfl hu16) ?_
              refine dv rfl (opv_fieldAddr_cp fi88_0 rfl) ?_
              refine dv rfl (opv_load1 ti42 rfl (.cp _) rfl) ?_
              obtain ⟨v17, hv17, h⟩ := bind_eq h
              refine dd rfl (opD_call fn27 (opnds_cons rfl (opnds_cons rfl opnds_nil)) rfl (m27_r06_Cmp_c hv17)) ?_
              refine dv rfl (opv_as rfl) ?_
              refine dnil ?_
              refine then_normal ?_
              exact ⟨v17, _, h, ⟨rfl, rfl, rfl, rfl, rfl, rfl, rfl, rfl, trivial⟩, rfl⟩
            · replace h := ite_f hc h
              clear hc
              refine cskip ?_
              refine then_normal ?_
              exact ⟨(-1), _, h, ⟨rfl, rfl, rfl, rfl, rfl, rfl, rfl, rfl, trivial⟩, rfl⟩
      · skip
        refine cregion ?_
        refine sv rfl (opv_mv rfl) ?_
        refine sv rfl (opv_mv rfl) ?_
        refine sv rfl (opv_len_sl si25 rfl) ?_
        refine sv rfl (opv_lss rfl rfl) ?_
        refine sv rfl (opv_mv rfl) ?_
        refine ssplit 28 rfl (fun hc => ?_) (fun hc => ?_)
        · replace h := ite_t hc h
          clear hc
          refine soff rfl rfl rfl rfl ?_
          refine soff rfl rfl rfl rfl ?_
          refine soff rfl rfl rfl rfl ?_
          refine soff rfl rfl rfl rfl ?_
          refine soff rfl rfl rfl rfl ?_
          refine sv rfl (opv_pick_t rfl rfl) ?_
          refine sv rfl (opv_mv rfl) ?_
          refine son rfl rfl rfl ?_
          refine sv rfl (opv_mv rfl) ?_
          refine son rfl rfl rfl ?_
          refine sv rfl (opv_len_ls si25 rfl rfl (flat_len (f := eGApiKV) (fun _ => rfl) _).symm) ?_
          refine son rfl rfl rfl ?_
          refine sv rfl (opv_mv rfl) ?_
          refine son rfl rfl rfl ?_
          refine sv rfl (opv_lss rfl rfl) ?_
          refine sv rfl (opv_pick_t rfl rfl) ?_
          refine snil ?_
          refine ccond rfl (fun hc => ?_) (fun hc => ?_)
          · replace h := ite_t hc h
            clear hc
            refine cskip ?_
            refine then_normal ?_
            exact ⟨(), _, h, ⟨rfl, rfl, rfl, rfl, rfl, rfl, rfl, trivial⟩, rfl⟩
          · replace h := ite_f hc h
            clear hc
            refine cexit ?_
            refine then_exit ?_
            refine then_exit ?_
            refine block_hit ?_
            refine then_normal ?_
            obtain rfl := Option.some.inj h
            obtain rfl : _ = x3 := hk3
            exact ⟨s3.2.2, _, ho3, ⟨rfl, trivial⟩, rfl⟩
        · replace h := ite_f hc h
          clear hc
          refine son rfl rfl rfl ?_
          refine sv rfl (opv_mv rfl) ?_
          refine son rfl rfl rfl ?_
          refine sv rfl (opv_fieldAddr_lp fi89_0 rfl) ?_
          refine son rfl rfl rfl ?_
          refine sv rfl (opv_load1 ti74 rfl (.lp _ _ _ rfl) rfl) ?_
          refine son rfl rfl rfl ?_
          refine sv rfl (opv_len_sl si74 rfl) ?_
          refine son rfl rfl rfl ?_
          refine sv rfl (opv_lss rfl rfl) ?_
          refine sv rfl (opv_pick_f rfl rfl) ?_
          refine sv rfl (opv_mv rfl) ?_
          refine ssplit 35 rfl (fun hc => ?_) (fun hc => ?_)
          · replace h := ite_t hc h
            clear hc
            refine son rfl rfl rfl ?_
            refine sv rfl (opv_mv rfl) ?_
            refine son rfl rfl rfl ?_
            refine sv rfl (opv_len_ls si25 rfl rfl (flat_len (f := eGApiKV) (fun _ => rfl) _).symm) ?_
            refine son rfl rfl rfl ?_
            refine sv rfl (opv_mv rfl) ?_
            refine son rfl rfl rfl ?_
            refine sv rfl (opv_lss rfl rfl) ?_
            refine sv rfl (opv_pick_t rfl rfl) ?_
            refine snil ?_
            refine ccond rfl (fun hc => ?_) (fun hc => ?_)
            · replace h := ite_t hc h
              clear hc
              refine cskip ?_
              refine then_normal ?_
              exact ⟨(), _, h, ⟨rfl, rfl, rfl, rfl, rfl, rfl, rfl, trivial⟩, rfl⟩
            · replace h := ite_f hc h
              clear hc
              refine cexit ?_
              refine then_exit ?_
              refine then_exit ?_
              refine block_hit ?_
              refine then_normal ?_
              obtain rfl := Option.some.inj h
              obtain rfl : _ = x3 := hk3
              exact ⟨s3.2.2, _, ho3, ⟨rfl, trivial⟩, rfl⟩
          · replace h := ite_f hc h
            clear hc
            refine soff rfl rfl rfl rfl ?_
            refine soff rfl rfl rfl rfl ?_
            refine soff rfl rfl rfl rfl ?_
            refine soff rfl rfl rfl rfl ?_
            refine sv rfl (opv_pick_f rfl rfl) ?_
            refine snil ?_
            refine ccond rfl (fun hx => Bool.noConfusion hx) (fun _ => ?_)
            refine cexit ?_
            refine then_exit ?_
            refine then_exit ?_
            refine block_hit ?_
            refine then_normal ?_
            obtain rfl := Option.some.inj h
            obtain rfl : _ = x3 := hk3
            exact ⟨s3.2.2, _, ho3, ⟨rfl, trivial⟩, rfl⟩
  · skip
    refine cregion ?_
    refine sv rfl (opv_loadN ti89 rfl (.lp _ _ _ rfl) (Nat.le_of_ble_eq_true rfl)) ?_
    obtain ⟨v19, hv19, h⟩ := bind_eq h
    refine scall1 rfl fn51 (opnds_cons rfl opnds_nil) (pubA_id rfl) (m51_r09_Sane_c hv19) ?_
    refine sv rfl (opv_not rfl) ?_
    refine sv rfl (opv_mv rfl) ?_
    refine ssplit 18 rfl (fun hc => ?_) (fun hc => ?_)
    · replace h := ite_t hc h
      clear hc
      refine soff rfl rfl rfl rfl ?_
      refine soff rfl rfl rfl rfl ?_
      refine soff rfl rfl rfl rfl ?_
      refine sv rfl (opv_pick_t rfl rfl) ?_
      refine snil ?_
      refine ccond rfl (fun _ => ?_) (fun hx => Bool.noConfusion hx)
      refine cseq ?_
      refine cregion ?_
      refine sv rfl (opv_mv rfl) ?_
      refine sv rfl (opv_as rfl) ?_
      refine snil ?_
      refine cret ?_
      refine then_ret ?_
      obtain rfl := Option.some.inj h
      refine ⟨Or.inr rfl, _, _, _, (resVs_cons (ResV.tmp _ _ rfl) resVs_nil), (pubC rfl), ?_⟩
      rfl
    · replace h := ite_f hc h
      clear hc
      refine son rfl rfl rfl ?_
      refine sv rfl (opv_mv rfl) ?_
      refine son rfl rfl rfl ?_
      obtain ⟨v20, hv20, h⟩ := bind_eq h
      refine scall1 rfl fn12 (opnds_cons rfl opnds_nil) (pubA_id rfl) (m12_r09_Rising_c hv20) ?_
      refine son rfl rfl rfl ?_
      refine sv rfl (opv_not rfl) ?_
      refine sv rfl (opv_pick_f rfl rfl) ?_
      refine snil ?_
      refine ccond rfl (fun hc => ?_) (fun hc => ?_)
      · replace h := ite_t hc h
        clear hc
        refine cseq ?_
        refine cregion ?_
        refine sv rfl (opv_mv rfl) ?_
        refine sv rfl (opv_as rfl) ?_
        refine snil ?_
        refine cret ?_
        refine then_ret ?_
        obtain rfl := Option.some.inj h
        refine ⟨Or.inr rfl, _, _, _, (resVs_cons (ResV.tmp _ _ rfl) resVs_nil), (pubC rfl), ?_⟩
        rfl
      · replace h := ite_f hc h
        clear hc
        refine cskip ?_
        refine then_normal ?_
        exact ⟨(), _, h, ⟨rfl, rfl, rfl, rfl, rfl, trivial⟩, rfl⟩

def m21_l19_state (a0 : GR19State) : Option GProgState :=
  some (GProgState.mk a0.PC (GAnon33.mk a0.Regs.R0 a0.Regs.R1 a0.Regs.R2 a0.Regs.R3 a0.Regs.R4 a0.Regs.R5 a0.Regs.R6 a0.Regs.R7) a0.Stopped)

set_option maxRecDepth 100000 in
theorem m21_l19_state_c {a0 : GR19State} {r : GProgState} (h : m21_l19_state a0 = some r) : CallsA Try.prog 21 [.agg a0] (· = .s (.agg r)) := by
  unfold m21_l19_state at h
  refine callsA_of Try.func21 rfl (nt := 10) rfl (Nat.le_of_ble_eq_true rfl) ?_
  intro w0 S0
  refine cseq ?_
  refine cregion ?_
  refine sbox rfl rfl ?_
  refine salloc rfl zi35 ?_
  refine snil ?_
  refine cseq ?_
  refine cregion ?_
  refine sv rfl (opv_fieldAddr_lp fi40_0 rfl) ?_
  refine sv rfl (opv_load1 ti3 rfl (.lp _ _ _ rfl) rfl) ?_
  refine sv rfl (opv_fieldAddr_lp fi40_1 rfl) ?_
  refine sv rfl (opv_loadN ti33 rfl (.lp _ _ _ rfl) (Nat.le_of_ble_eq_true rfl)) ?_
  refine sv rfl (opv_fieldAddr_lp fi40_2 rfl) ?_
  refine sv rfl (opv_load1 ti4 rfl (.lp _ _ _ rfl) rfl) ?_
  refine sv rfl (opv_build zi35 pi35 (parts_cons rfl (parts_cons rfl (parts_cons rfl parts_nil))) (.cons _ _ _ _ _ _ _ rfl rfl (Nat.le_of_ble_eq_true rfl) (.cons _ _ _ _ _ _ _ rfl rfl (Nat.le_of_ble_eq_true rfl) (.cons _ _ _ _ _ _ _ rfl rfl (Nat.le_of_ble_eq_true rfl) (.nil _))))) ?_
  refine sstore sz35 rfl rfl rfl rfl (Nat.le_of_ble_eq_true rfl) ?_
  refine smem [.box a0, .box a0] rfl ?_
  refine snil ?_
  refine cret ?_
  obtain rfl := Option.some.inj h
  refine ⟨Or.inr rfl, _, _, _, (resVs_cons (ResV.agg _ _ _ _ _ ti35 rfl (.lp _ _ _ rfl) (Nat.le_of_ble_eq_true rfl)) resVs_nil), (pubA_id rfl), ?_⟩
  rfl

def m4_l19_ProgReads_k2 (a0 : GR19Prog) (a1 : List GApiKV) (a2 : GR19State) (v1 : Bool) (b2 : Unit) : Option Bool :=
  (m13_l19_program (GR19Prog.mk true a0.Ops)).bind fun v3 => (m14_prog_Run v3 a1).bind fun v4 => (m21_l19_state (GR19State.mk a2.PC (GAnon33.mk a2.Regs.R0 a2.Regs.R1 a2.Regs.R2 a2.Regs.R3 a2.Regs.R4 a2.Regs.R5 a2.Regs.R6 a2.Regs.R7) a2.Stopped)).bind fun v5 => (m18_prog_Next v3 (GProgState.mk v5.PC (GAnon33.mk v5.Regs.R0 v5.Regs.R1 v5.Regs.R2 v5.Regs.R3 v5.Regs.R4 v5.Regs.R5 v5.Regs.R6 v5.Regs.R7) v5.Stopped)).bind fun v6 => if v1 then ((m16_r05_KVs v4.1 a1).bind fun v7 => if v7 then (if (!v6.2.2) then (some true) else (if (decide (v6.1.Kind = 3)) then (some true) else (some (decide (v6.1.Kind = 6))))) else (some false)) else (some false)
def m4_l19_ProgReads (a0 : GR19Prog) (a1 : List GApiKV) (a2 : GR19State) : Option Bool :=
  (m9_l19_awake).bind fun v1 => (m10_r19_Few (GR19Prog.mk a0.RO a0.Ops)).bind fun v8 => if (!v8) then (some v1) else ((m11_l19_short a1).bind fun v9 => if (!v9) then (some v1) else ((m12_r09_Rising a1).bind fun v10 => if (!v10) then (some v1) else (m4_l19_ProgReads_k2 a0 a1 a2 v1 ())))

set_option maxRecDepth 100000 in
theorem m4_l19_ProgReads_c {a0 : GR19Prog} {a1 : List GApiKV} {a2 : GR19State} {r : Bool} (h : m4_l19_ProgReads a0 a1 a2 = some r) : CallsA Try.prog 4 [.agg a0, .one (.sl a1.length (a1.flatMap eGApiKV)), .agg a2] (· = .s (.one (.b r))) := by
  unfold m4_l19_ProgReads at h
  refine callsA_of Try.func4 rfl (nt := 66) rfl (Nat.le_of_ble_eq_true rfl) ?_
  intro w0 S0
  refine cseq ?_
  refine cregion ?_
  refine sbox rfl rfl ?_
  refine sbox rfl rfl ?_
  refine sv rfl (opv_as rfl) ?_
  refine snil ?_
  refine cseq ?_
  refine cregion ?_
  obtain ⟨v1, hv1, h⟩ := bind_eq h
  refine scall1 rfl fn9 opnds_nil (pubA_id rfl) (m9_l19_awake_c hv1) ?_
  refine sv rfl (opv_as rfl) ?_
  refine snil ?_
  refine cseq ?_
  refine cseq ?_
  refine cjoin3 (Unit) (fun b2 => [(1, .s (.one (.sl a1.length (a1.flatMap eGApiKV)))), (3, .s (.one (.lp 0 0))), (5, .s (.one (.lp 1 0))), (7, .s (.one (.b v1)))]) (fun b2 => [.box a0, .box a2]) (fun b2 => m4_l19_ProgReads_k2 a0 a1 a2 v1 b2 = some r) (fun _ _ => inbL_of rfl) (fun _ _ => blkinb_of rfl) (fun _ _ => Nat.le_of_ble_eq_true rfl) (fun b2 h => ?_) ?_
  · unfold m4_l19_ProgReads_k2 at h
    refine cseq ?_
    refine cregion ?_
    refine sv rfl (opv_fieldAddr_lp fi24_0 rfl) ?_
    refine sstore sz4 rfl rfl rfl rfl (Nat.le_of_ble_eq_true rfl) ?_
    refine smem [.box [.b true, .sl a0.Ops.length (a0.Ops.flatMap eGR19Op)], .box a2] rfl ?_
    refine snil ?_
    refine cseq ?_
    refine cregion ?_
    refine sv rfl (opv_loadN ti24 rfl (.lp _ _ _ rfl) (Nat.le_of_ble_eq_true rfl)) ?_
    obtain ⟨v3, hv3, h⟩ := bind_eq h
    refine scall1 rfl fn13 (opnds_cons rfl opnds_nil) (pubA_id rfl) (m13_l19_program_c hv3) ?_
    refine salloc rfl zi31 ?_
    refine sstore sz31 rfl rfl rfl rfl (Nat.le_of_ble_eq_true rfl) ?_
    refine smem [.box [.b true, .sl a0.Ops.length (a0.Ops.flatMap eGR19Op)], .box a2, .box v3] rfl ?_
    refine snil ?_
    refine cseq ?_
    refine cregion ?_
    refine sv rfl (opv_loadN ti31 rfl (.lp _ _ _ rfl) (Nat.le_of_ble_eq_true rfl)) ?_
    refine sv rfl (opv_mv rfl) ?_
    obtain ⟨v4, hv4, h⟩ := bind_eq h
    refine scall1 rfl fn14 (opnds_cons rfl (opnds_cons rfl opnds_nil)) (pubA_id rfl) (m14_prog_Run_c hv4) ?_
    refine sv rfl (opv_mvt rfl) ?_
    refine sv rfl (opv_extract rfl rfl) ?_
    refine sv rfl (opv_extract rfl rfl) ?_
    refine salloc rfl zi35 ?_
    refine sv rfl (opv_as rfl) ?_
    refine sstore sz35 rfl rfl rfl rfl (Nat.le_of_ble_eq_true rfl) ?_
    refine smem [.box [.b true, .sl a0.Ops.length (a0.Ops.flatMap eGR19Op)], .box a2, .box v3, .box v4.2] rfl ?_
    refine snil ?_
    refine cseq ?_
    refine chole ?_
    refine chole ?_
    obtain ⟨v5, hv5, h⟩ := bind_eq h
    obtain ⟨v6, hv6, h⟩ := bind_eq h
    refine cdraw_m [8, 9, 10, 11] [0, 0, 2, 7, 15, 31, 31, 31, 0, 0, 831, 1919, 4095] [([false, false, false, false], [.box [.b true, .sl a0.Ops.length (a0.Ops.flatMap eGR19Op)], .box a2, .box v3, .box v4.2, .hole, .hole]), ([false, true, false, false], [.box [.b true, .sl a0.Ops.length (a0.Ops.flatMap eGR19Op)], .box a2, .box v3, .box v4.2, .hole, .box [.i .i64 0, .i .i64 0, .i .i64 0, .i .i64 0, .i .i64 0, .i .i64 0, .i .i64 0, .i .i64 0, .i .i64 0, .b false]]), ([true, false, false, false], [.box [.b true, .sl a0.Ops.length (a0.Ops.flatMap eGR19Op)], .box a2, .box v3, .box v4.2, .box [.i .i64 0, .i .i64 0, .i .i64 0, .i .i64 0, .b false, .raw (.slice none 0 0), .raw (.slice none 0 0), .raw (.slice none 0 0), .raw (.slice none 0 0), .b false], .hole]), ([true, true, false, false], [.box [.b true, .sl a0.Ops.length (a0.Ops.flatMap eGR19Op)], .box a2, .box v3, .box v4.2, .box [.i .i64 0, .i .i64 0, .i .i64 0, .i .i64 0, .b false, .raw (.slice none 0 0), .raw (.slice none 0 0), .raw (.slice none 0 0), .raw (.slice none 0 0), .b false], .box [.i .i64 0, .i .i64 0, .i .i64 0, .i .i64 0, .i .i64 0, .i .i64 0, .i .i64 0, .i .i64 0, .i .i64 0, .b false]]), ([true, true, true, false], [.box [.b true, .sl a0.Ops.length (a0.Ops.flatMap eGR19Op)], .box a2, .box v3, .box v4.2, .box v6.1, .box [.i .i64 0, .i .i64 0, .i .i64 0, .i .i64 0, .i .i64 0, .i .i64 0, .i .i64 0, .i .i64 0, .i .i64 0, .b false]]), ([true, true, true, true], [.box [.b true, .sl a0.Ops.length (a0.Ops.flatMap eGR19Op)], .box a2, .box v3, .box v4.2, .box v6.1, .box v6.2.1])] (by kernel_rfl) mixed (by kernel_rfl) (by decide) rfl (by kernel_rfl) rfl rfl ?_
    refine mev (md := [.box [.b true, .sl a0.Ops.length (a0.Ops.flatMap eGR19Op)], .box a2, .box v3, .box v4.2, .dead, .dead]) (alle_t rfl ⟨rfl, ⟨rfl, ⟨rfl, ⟨rfl, ⟨trivial, ⟨trivial, trivial⟩⟩⟩⟩⟩⟩ (alle_t rfl ⟨rfl, ⟨rfl, ⟨rfl, ⟨rfl, ⟨trivial, ⟨trivial, trivial⟩⟩⟩⟩⟩⟩ (alle_t rfl ⟨rfl, ⟨rfl, ⟨rfl, ⟨rfl, ⟨trivial, ⟨trivial, trivial⟩⟩⟩⟩⟩⟩ (alle_t rfl ⟨rfl, ⟨rfl, ⟨rfl, ⟨rfl, ⟨trivial, ⟨trivial, trivial⟩⟩⟩⟩⟩⟩ (alle_f rfl (alle_f rfl alle_nil)))))) rfl rfl (opv_loadN ti31 rfl (.lp _ _ _ rfl) (Nat.le_of_ble_eq_true rfl)) ?_
    refine mev (md := [.box [.b true, .sl a0.Ops.length (a0.Ops.flatMap eGR19Op)], .box a2, .box v3, .box v4.2, .dead, .dead]) (alle_t rfl ⟨rfl, ⟨rfl, ⟨rfl, ⟨rfl, ⟨trivial, ⟨trivial, trivial⟩⟩⟩⟩⟩⟩ (alle_t rfl ⟨rfl, ⟨rfl, ⟨rfl, ⟨rfl, ⟨trivial, ⟨trivial, trivial⟩⟩⟩⟩⟩⟩ (alle_t rfl ⟨rfl, ⟨rfl, ⟨rfl, ⟨rfl, ⟨trivial, ⟨trivial, trivial⟩⟩⟩⟩⟩⟩ (alle_t rfl ⟨rfl, ⟨rfl, ⟨rfl, ⟨rfl, ⟨trivial, ⟨trivial, trivial⟩⟩⟩⟩⟩⟩ (alle_f rfl (alle_f rfl alle_nil)))))) rfl rfl (opv_loadN ti40 rfl (.lp _ _ _ rfl) (Nat.le_of_ble_eq_true rfl)) ?_
    refine med (md := [.box [.b true, .sl a0.Ops.length (a0.Ops.flatMap eGR19Op)], .box a2, .box v3, .box v4.2, .dead, .dead]) (alle_t rfl ⟨rfl, ⟨rfl, ⟨rfl, ⟨rfl, ⟨trivial, ⟨trivial, trivial⟩⟩⟩⟩⟩⟩ (alle_t rfl ⟨rfl, ⟨rfl, ⟨rfl, ⟨rfl, ⟨trivial, ⟨trivial, trivial⟩⟩⟩⟩⟩⟩ (alle_t rfl ⟨rfl, ⟨rfl, ⟨rfl, ⟨rfl, ⟨trivial, ⟨trivial, trivial⟩⟩⟩⟩⟩⟩ (alle_t rfl ⟨rfl, ⟨rfl, ⟨rfl, ⟨rfl, ⟨trivial, ⟨trivial, trivial⟩⟩⟩⟩⟩⟩ (alle_f rfl (alle_f rfl alle_nil)))))) rfl rfl (opD_call fn21 (opnds_cons rfl opnds_nil) rfl (m21_l19_state_c hv5)) ?_
    refine med (md := [.box [.b true, .sl a0.Ops.length (a0.Ops.flatMap eGR19Op)], .box a2, .box v3, .box v4.2, .dead, .dead]) (alle_t rfl ⟨rfl, ⟨rfl, ⟨rfl, ⟨rfl, ⟨trivial, ⟨trivial, trivial⟩⟩⟩⟩⟩⟩ (alle_t rfl ⟨rfl, ⟨rfl, ⟨rfl, ⟨rfl, ⟨trivial, ⟨trivial, trivial⟩⟩⟩⟩⟩⟩ (alle_t rfl ⟨rfl, ⟨rfl, ⟨rfl, ⟨rfl, ⟨trivial, ⟨trivial, trivial⟩⟩⟩⟩⟩⟩ (alle_t rfl ⟨rfl, ⟨rfl, ⟨rfl, ⟨rfl, ⟨trivial, ⟨trivial, trivial⟩⟩⟩⟩⟩⟩ (alle_f rfl (alle_f rfl alle_nil)))))) rfl rfl (opD_call fn18 (opnds_cons rfl (opnds_cons rfl opnds_nil)) rfl (m18_prog_Next_c hv6)) ?_
    refine mem2 rfl rfl (fun _ => opv_mvt rfl) ?_
    refine mev (md := [.box [.b true, .sl a0.Ops.length (a0.Ops.flatMap eGR19Op)], .box a2, .box v3, .box v4.2, .dead, .dead]) (alle_t rfl ⟨rfl, ⟨rfl, ⟨rfl, ⟨rfl, ⟨trivial, ⟨trivial, trivial⟩⟩⟩⟩⟩⟩ (alle_t rfl ⟨rfl, ⟨rfl, ⟨rfl, ⟨rfl, ⟨trivial, ⟨trivial, trivial⟩⟩⟩⟩⟩⟩ (alle_t rfl ⟨rfl, ⟨rfl, ⟨rfl, ⟨rfl, ⟨trivial, ⟨trivial, trivial⟩⟩⟩⟩⟩⟩ (alle_t rfl ⟨rfl, ⟨rfl, ⟨rfl, ⟨rfl, ⟨trivial, ⟨trivial, trivial⟩⟩⟩⟩⟩⟩ (alle_f rfl (alle_f rfl alle_nil)))))) rfl rfl (opv_extract rfl rfl) ?_
    refine mev (md := [.box [.b true, .sl a0.Ops.length (a0.Ops.flatMap eGR19Op)], .box a2, .box v3, .box v4.2, .dead, .dead]) (alle_t rfl ⟨rfl, ⟨rfl, ⟨rfl, ⟨rfl, ⟨trivial, ⟨trivial, trivial⟩⟩⟩⟩⟩⟩ (alle_t rfl ⟨rfl, ⟨rfl, ⟨rfl, ⟨rfl, ⟨trivial, ⟨trivial, trivial⟩⟩⟩⟩⟩⟩ (alle_t rfl ⟨rfl, ⟨rfl, ⟨rfl, ⟨rfl, ⟨trivial, ⟨trivial, trivial⟩⟩⟩⟩⟩⟩ (alle_t rfl ⟨rfl, ⟨rfl, ⟨rfl, ⟨rfl, ⟨trivial, ⟨trivial, trivial⟩⟩⟩⟩⟩⟩ (alle_t rfl ⟨rfl, ⟨rfl, ⟨rfl, ⟨rfl, ⟨trivial, ⟨trivial, trivial⟩⟩⟩⟩⟩⟩ (alle_f rfl alle_nil)))))) rfl rfl (opv_extract rfl rfl) ?_
    refine mev (md := [.box [.b true, .sl a0.Ops.length (a0.Ops.flatMap eGR19Op)], .box a2, .box v3, .box v4.2, .dead, .dead]) (alle_t rfl ⟨rfl, ⟨rfl, ⟨rfl, ⟨rfl, ⟨trivial, ⟨trivial, trivial⟩⟩⟩⟩⟩⟩ (alle_t rfl ⟨rfl, ⟨rfl, ⟨rfl, ⟨rfl, ⟨trivial, ⟨trivial, trivial⟩⟩⟩⟩⟩⟩ (alle_t rfl ⟨rfl, ⟨rfl, ⟨rfl, ⟨rfl, ⟨trivial, ⟨trivial, trivial⟩⟩⟩⟩⟩⟩ (alle_t rfl ⟨rfl, ⟨rfl, ⟨rfl, ⟨rfl, ⟨trivial, ⟨trivial, trivial⟩⟩⟩⟩⟩⟩ (alle_t rfl ⟨rfl, ⟨rfl, ⟨rfl, ⟨rfl, ⟨trivial, ⟨trivial, trivial⟩⟩⟩⟩⟩⟩ (alle_t rfl ⟨rfl, ⟨rfl, ⟨rfl, ⟨rfl, ⟨trivial, ⟨trivial, trivial⟩⟩⟩⟩⟩⟩ alle_nil)))))) rfl rfl (opv_extract rfl rfl) ?_
    refine mee (x := .s (.one (.lp 4 0))) 0 rfl rfl ?_ ?_
    · refine alle_t rfl ⟨_, rfl, fun ζ => ?_⟩ ?_
      · refine salloc_at 4 rfl zi46 rfl ?_
        exact eend
      refine alle_t rfl ⟨_, rfl, fun ζ => ?_⟩ ?_
      · refine salloc_at 4 rfl zi46 rfl ?_
        exact eend
      refine alle_f rfl ?_
      refine alle_f rfl ?_
      refine alle_f rfl ?_
      refine alle_f rfl ?_
      exact alle_nil
    refine mee (x := .s (.one (.lp 5 0))) 1 rfl rfl ?_ ?_
    · refine alle_t rfl ⟨_, rfl, fun ζ => ?_⟩ ?_
      · refine salloc_at 5 rfl zi35 rfl ?_
        exact eend
      refine alle_f rfl ?_
      refine alle_t rfl ⟨_, rfl, fun ζ => ?_⟩ ?_
      · refine salloc_at 5 rfl zi35 rfl ?_
        exact eend
      refine alle_f rfl ?_
      refine alle_f rfl ?_
      refine alle_f rfl ?_
      exact alle_nil
    refine mee0 2 rfl ?_ ?_
    · refine alle_f rfl ?_
      refine alle_f rfl ?_
      refine alle_f rfl ?_
      refine alle_t rfl ⟨_, rfl, fun ζ => ?_⟩ ?_
      · refine sstore sz46 rfl rfl rfl rfl (Nat.le_of_ble_eq_true rfl) ?_
        refine smem [.box [.b true, .sl a0.Ops.length (a0.Ops.flatMap eGR19Op)], .box a2, .box v3, .box v4.2, .box v6.1, .box [.i .i64 0, .i .i64 0, .i .i64 0, .i .i64 0, .i .i64 0, .i .i64 0, .i .i64 0, .i .i64 0, .i .i64 0, .b false]] rfl ?_
        exact eend
      refine alle_f rfl ?_
      refine alle_f rfl ?_
      exact alle_nil
    refine mee0 3 rfl ?_ ?_
    · refine alle_f rfl ?_
      refine alle_f rfl ?_
      refine alle_f rfl ?_
      refine alle_f rfl ?_
      refine alle_t rfl ⟨_, rfl, fun ζ => ?_⟩ ?_
      · refine sstore sz35 rfl rfl rfl rfl (Nat.le_of_ble_eq_true rfl) ?_
        refine smem [.box [.b true, .sl a0.Ops.length (a0.Ops.flatMap eGR19Op)], .box a2, .box v3, .box v4.2, .box v6.1, .box v6.2.1] rfl ?_
        exact eend
      refine alle_f rfl ?_
      exact alle_nil
    refine mem2 rfl rfl (fun _ => opv_as rfl) ?_
    refine mnil2 ?_
    refine then_normal ?_
    refine cseq ?_
    refine cregion ?_
    refine sv rfl (opv_mv rfl) ?_
    refine sv rfl (opv_mv rfl) ?_
    refine ssplit 47 rfl (fun hc => ?_) (fun hc => ?_)
    · replace h := ite_t hc h
      clear hc
      refine son rfl rfl rfl ?_
      refine sv rfl (opv_mv rfl) ?_
      refine son rfl rfl rfl ?_
      refine sv rfl (opv_mv rfl) ?_
      refine son rfl rfl rfl ?_
      obtain ⟨v7, hv7, h⟩ := bind_eq h
      refine scall1 rfl fn16 (opnds_cons rfl (opnds_cons rfl opnds_nil)) (pubA_id rfl) (m16_r05_KVs_c hv7) ?_
      refine sv rfl (opv_pick_t rfl rfl) ?_
      refine sv rfl (opv_mv rfl) ?_
      refine ssplit 52 rfl (fun hc => ?_) (fun hc => ?_)
      · replace h := ite_t hc h
        clear hc
        refine son rfl rfl rfl ?_
        refine sv rfl (opv_mv rfl) ?_
        refine son rfl rfl rfl ?_
        refine sv rfl (opv_not rfl) ?_
        refine son rfl rfl rfl ?_
        refine sv rfl (opv_mv rfl) ?_
        refine ssplit 55 rfl (fun hc => ?_) (fun hc => ?_)
        · replace h := ite_t hc h
          clear hc
          refine soff rfl rfl rfl rfl ?_
          refine soff rfl rfl rfl rfl ?_
          refine soff rfl rfl rfl rfl ?_
          refine son rfl rfl rfl ?_
          refine sv rfl (opv_pick_t rfl rfl) ?_
          refine son rfl rfl rfl ?_
          refine sv rfl (opv_mv rfl) ?_
          refine soff rfl rfl rfl rfl ?_
          refine soff rfl rfl rfl rfl ?_
          refine soff rfl rfl rfl rfl ?_
          refine son rfl rfl rfl ?_
          refine sv rfl (opv_pick_t rfl rfl) ?_
          refine sv rfl (opv_pick_t rfl rfl) ?_
          refine sv rfl (opv_as rfl) ?_
          refine snil ?_
          refine cret ?_
          obtain rfl := Option.some.inj h
          refine ⟨Or.inr rfl, _, _, _, (resVs_cons (ResV.tmp _ _ rfl) resVs_nil), (pubA_id rfl), ?_⟩
          rfl
        · replace h := ite_f hc h
          clear hc
          refine son rfl rfl rfl ?_
          refine sv rfl (opv_fieldAddr_lp fi46_0 rfl) ?_
          refine son rfl rfl rfl ?_
          refine sv rfl (opv_load1 ti3 rfl (.lp _ _ _ rfl) rfl) ?_
          refine son rfl rfl rfl ?_
          refine sv rfl (opv_ieql rfl rfl) ?_
          refine son rfl rfl rfl ?_
          refine sv rfl (opv_pick_f rfl rfl) ?_
          refine son rfl rfl rfl ?_
          refine sv rfl (opv_mv rfl) ?_
          refine ssplit 60 rfl (fun hc => ?_) (fun hc => ?_)
          · replace h := ite_t hc h
            clear hc
            refine soff rfl rfl rfl rfl ?_
            refine soff rfl rfl rfl rfl ?_
            refine soff rfl rfl rfl rfl ?_
            refine son rfl rfl rfl ?_
            refine sv rfl (opv_pick_t rfl rfl) ?_
            refine sv rfl (opv_pick_t rfl rfl) ?_
            refine sv rfl (opv_as rfl) ?_
            refine snil ?_
            refine cret ?_
            obtain rfl := Option.some.inj h
            refine ⟨Or.inr rfl, _, _, _, (resVs_cons (ResV.tmp _ _ rfl) resVs_nil), (pubA_id rfl), ?_⟩
            rfl
          · replace h := ite_f hc h
            clear hc
            refine son rfl rfl rfl ?_
            refine sv rfl (opv_fieldAddr_lp fi46_0 rfl) ?_
            refine son rfl rfl rfl ?_
            refine sv rfl (opv_load1 ti3 rfl (.lp _ _ _ rfl) rfl) ?_
            refine son rfl rfl rfl ?_
            refine sv rfl (opv_ieql rfl rfl) ?_
            refine son rfl rfl rfl ?_
            refine sv rfl (opv_pick_f rfl rfl) ?_
            refine sv rfl (opv_pick_t rfl rfl) ?_
            refine sv rfl (opv_as rfl) ?_
            refine snil ?_
            refine cret ?_
            obtain rfl := Option.some.inj h
            refine ⟨Or.inr rfl, _, _, _, (resVs_cons (ResV.tmp _ _ rfl) resVs_nil), (pubA_id rfl), ?_⟩
            rfl
      · replace h := ite_f hc h
        clear hc
        refine soff rfl rfl rfl rfl ?_
        refine soff rfl rfl rfl rfl ?_
        refine soff rfl rfl rfl rfl ?_
        refine soffu rfl rfl rfl ?_
        refine soffu rfl rfl rfl ?_
        refine soffu rfl rfl rfl ?_
        refine soff rfl rfl rfl rfl ?_
        refine soff rfl rfl rfl rfl ?_
        refine soffu rfl rfl rfl ?_
        refine soffu rfl rfl rfl ?_
        refine soffu rfl rfl rfl ?_
        refine soff rfl rfl rfl rfl ?_
        refine sv rfl (opv_pick_f rfl rfl) ?_
        refine sv rfl (opv_as rfl) ?_
        refine snil ?_
        refine cret ?_
        obtain rfl := Option.some.inj h
        refine ⟨Or.inr rfl, _, _, _, (resVs_cons (ResV.tmp _ _ rfl) resVs_nil), (pubA_id rfl), ?_⟩
        rfl
    · replace h := ite_f hc h
      clear hc
      refine soff rfl rfl rfl rfl ?_
      refine soff rfl rfl rfl rfl ?_
      refine soff rfl rfl rfl rfl ?_
      refine sv rfl (opv_pick_f rfl rfl) ?_
      refine sv rfl (opv_mv rfl) ?_
      refine soff rfl rfl rfl rfl ?_
      refine soff rfl rfl rfl rfl ?_
      refine soff rfl rfl rfl rfl ?_
      refine soffu rfl rfl rfl ?_
      refine soffu rfl rfl rfl ?_
      refine soffu rfl rfl rfl ?_
      refine soff rfl rfl rfl rfl ?_
      refine soff rfl rfl rfl rfl ?_
      refine soffu rfl rfl rfl ?_
      refine soffu rfl rfl rfl ?_
      refine soffu rfl rfl rfl ?_
      refine soff rfl rfl rfl rfl ?_
      refine sv rfl (opv_pick_f rfl rfl) ?_
      refine sv rfl (opv_as rfl) ?_
      refine snil ?_
      refine cret ?_
      obtain rfl := Option.some.inj h
      refine ⟨Or.inr rfl, _, _, _, (resVs_cons (ResV.tmp _ _ rfl) resVs_nil), (pubA_id rfl), ?_⟩
      rfl
  · skip
    refine cregion ?_
    refine sv rfl (opv_loadN ti24 rfl (.lp _ _ _ rfl) (Nat.le_of_ble_eq_true rfl)) ?_
    obtain ⟨v8, hv8, h⟩ := bind_eq h
    refine scall1 rfl fn10 (opnds_cons rfl opnds_nil) (pubA_id rfl) (m10_r19_Few_c hv8) ?_
    refine sv rfl (opv_not rfl) ?_
    refine sv rfl (opv_mv rfl) ?_
    refine ssplit 18 rfl (fun hc => ?_) (fun hc => ?_)
    · replace h := ite_t hc h
      clear hc
      refine soff rfl rfl rfl rfl ?_
      refine soff rfl rfl rfl rfl ?_
      refine soff rfl rfl rfl rfl ?_
      refine sv rfl (opv_pick_t rfl rfl) ?_
      refine sv rfl (opv_mv rfl) ?_
      refine soff rfl rfl rfl rfl ?_
      refine soff rfl rfl rfl rfl ?_
      refine soff rfl rfl rfl rfl ?_
      refine sv rfl (opv_pick_t rfl rfl) ?_
      refine snil ?_
      refine ccond rfl (fun _ => ?_) (fun hx => Bool.noConfusion hx)
      refine cseq ?_
      refine cregion ?_
      refine sv rfl (opv_mv rfl) ?_
      refine sv rfl (opv_as rfl) ?_
      refine snil ?_
      refine cret ?_
      refine then_ret ?_
      obtain rfl := Option.some.inj h
      refine ⟨Or.inr rfl, _, _, _, (resVs_cons (ResV.tmp _ _ rfl) resVs_nil), (pubA_id rfl), ?_⟩
      rfl
    · replace h := ite_f hc h
      clear hc
      refine son rfl rfl rfl ?_
      refine sv rfl (opv_mv rfl) ?_
      refine son rfl rfl rfl ?_
      obtain ⟨v9, hv9, h⟩ := bind_eq h
      refine scall1 rfl fn11 (opnds_cons rfl opnds_nil) (pubA_id rfl) (m11_l19_short_c hv9) ?_
      refine son rfl rfl rfl ?_
      refine sv rfl (opv_not rfl) ?_
      refine sv rfl (opv_pick_f rfl rfl) ?_
      refine sv rfl (opv_mv rfl) ?_
      refine ssplit 23 rfl (fun hc => ?_) (fun hc => ?_)
      · replace h := ite_t hc h
        clear hc
        refine soff rfl rfl rfl rfl ?_
        refine soff rfl rfl rfl rfl ?_
        refine soff rfl rfl rfl rfl ?_
        refine sv rfl (opv_pick_t rfl rfl) ?_
        refine snil ?_
        refine ccond rfl (fun _ => ?_) (fun hx => Bool.noConfusion hx)
        refine cseq ?_
        refine cregion ?_
        refine sv rfl (opv_mv rfl) ?_
        refine sv rfl (opv_as rfl) ?_
        refine snil ?_
        refine cret ?_
        refine then_ret ?_
        obtain rfl := Option.some.inj h
        refine ⟨Or.inr rfl, _, _, _, (resVs_cons (ResV.tmp _ _ rfl) resVs_nil), (pubA_id rfl), ?_⟩
        rfl
      · replace h := ite_f hc h
        clear hc
        refine son rfl rfl rfl ?_
        refine sv rfl (opv_mv rfl) ?_
        refine son rfl rfl rfl ?_
        obtain ⟨v10, hv10, h⟩ := bind_eq h
        refine scall1 rfl fn12 (opnds_cons rfl opnds_nil) (pubA_id rfl) (m12_r09_Rising_c hv10) ?_
        refine son rfl rfl rfl ?_
        refine sv rfl (opv_not rfl) ?_
        refine sv rfl (opv_pick_f rfl rfl) ?_
        refine snil ?_
        refine ccond rfl (fun hc => ?_) (fun hc => ?_)
        · replace h := ite_t hc h
          clear hc
          refine cseq ?_
          refine cregion ?_
          refine sv rfl (opv_mv rfl) ?_
          refine sv rfl (opv_as rfl) ?_
          refine snil ?_
          refine cret ?_
          refine then_ret ?_
          obtain rfl := Option.some.inj h
          refine ⟨Or.inr rfl, _, _, _, (resVs_cons (ResV.tmp _ _ rfl) resVs_nil), (pubA_id rfl), ?_⟩
          rfl
        · replace h := ite_f hc h
          clear hc
          refine cskip ?_
          refine then_normal ?_
          exact ⟨(), _, h, ⟨rfl, rfl, rfl, rfl, trivial⟩, rfl⟩

def m5_l19_ProgVals (a0 : Int) (a1 : List UInt8) : Option Bool :=
  (m9_l19_awake).bind fun v1 => if (decide (50 < (a1.length : Int))) then (some v1) else ((m22_prog_Val a0).bind fun v2 => (cut a1 0 (if 4 < (a1.length : Int) then 4 else (a1.length : Int))).bind fun c3 => (m23_prog_Num c3).bind fun v4 => if (([] : List UInt8).length + v2.length) * 1 ≤ 140737488355328 then (if ((([] : List UInt8) ++ v2).length + a1.length) * 1 ≤ 140737488355328 then (if v1 then (if (decide ((v2.length : Int) = 4)) then ((m23_prog_Num v2).bind fun v7 => if (decide (v7 = (wI ((BitVec.ofInt 64 a0 &&& BitVec.ofInt 64 4294967295).toNat : Int)))) then ((m23_prog_Num a1).bind fun v8 => if (decide (v8 = v4)) then (if (decide (0 ≤ v4)) then (if (decide (v4 ≤ 4294967295)) then ((m23_prog_Num ((([] : List UInt8) ++ v2) ++ a1)).bind fun v9 => some (decide (v9 = (wI ((BitVec.ofInt 64 a0 &&& BitVec.ofInt 64 4294967295).toNat : Int))))) else (some false)) else (some false)) else (some false)) else (some false)) else (some false)) else (some false)) else none) else none)

set_option maxRecDepth 100000 in
theorem m5_l19_ProgVals_c {a0 : Int} {a1 : List UInt8} {r : Bool} (h : m5_l19_ProgVals a0 a1 = some r) : CallsA Try.prog 5 [.one (.i .i64 a0), .one (.sl a1.length (a1.flatMap eU8))] (· = .s (.one (.b r))) := by
  unfold m5_l19_ProgVals at h
  refine callsA_of Try.func5 rfl (nt := 61) rfl (Nat.le_of_ble_eq_true rfl) ?_
  intro w0 S0
  refine cseq ?_
  refine cregion ?_
  refine sv rfl (opv_as rfl) ?_
  refine snil ?_
  refine cseq ?_
  refine cregion ?_
  obtain ⟨v1, hv1, h⟩ := bind_eq h
  refine scall1 rfl fn9 opnds_nil (pubA_id rfl) (m9_l19_awake_c hv1) ?_
  refine sv rfl (opv_as rfl) ?_
  refine snil ?_
  refine cseq ?_
  refine cseq ?_
  refine cregion ?_
  refine sv rfl (opv_mv rfl) ?_
  refine sv rfl (opv_len_sl si42 rfl) ?_
  refine sv rfl (opv_gtr rfl rfl) ?_
  refine snil ?_
  refine ccond rfl (fun hc => ?_) (fun hc => ?_)
  · replace h := ite_t hc h
    clear hc
    refine cseq ?_
    refine cregion ?_
    refine sv rfl (opv_mv rfl) ?_
    refine sv rfl (opv_as rfl) ?_
    refine snil ?_
    refine cret ?_
    refine then_ret ?_
    obtain rfl := Option.some.inj h
    refine ⟨Or.inr rfl, _, _, _, (resVs_cons (ResV.tmp _ _ rfl) resVs_nil), (pubA_id rfl), ?_⟩
    rfl
  · replace h := ite_f hc h
    clear hc
    refine cskip ?_
    refine then_normal ?_
    refine cseq ?_
    refine cregion ?_
    refine sv rfl (opv_mv rfl) ?_
    obtain ⟨v2, hv2, h⟩ := bind_eq h
    refine scall1 rfl fn22 (opnds_cons rfl opnds_nil) (pubA_id rfl) (m22_prog_Val_c hv2) ?_
    refine sv rfl (opv_as rfl) ?_
    refine snil ?_
    refine cseq ?_
    refine cregion ?_
    refine sv rfl (opv_mv rfl) ?_
    refine sv rfl (opv_mv rfl) ?_
    refine sv rfl (opv_len_sl si42 rfl) ?_
    refine sv rfl (opv_min rfl rfl) ?_
    obtain ⟨c3, hc3, h⟩ := bind_eq h
    refine sv rfl (opv_cut (f := eU8) (lo := 0) (hi := (if 4 < (a1.length : Int) then 4 else (a1.length : Int))) si42 (fun _ => rfl) rfl rfl rfl bound_none (bound_some rfl (Int.le_trans (cut_eq hc3).1.1 (cut_eq hc3).1.2.1)) hc3) ?_
    obtain ⟨v4, hv4, h⟩ := bind_eq h
    refine scall1 rfl fn23 (opnds_cons rfl opnds_nil) (pubA_id rfl) (m23_prog_Num_c hv4) ?_
    refine sv rfl (opv_as rfl) ?_
    refine snil ?_
    refine cseq ?_
    refine cregion ?_
    refine sbuild0 rfl Try.underlying42 ei5 ?_
    refine sv rfl (opv_mv rfl) ?_
    obtain ⟨hb5, h⟩ := chk_eq h
    refine sapp (f := eU8) (xs := ([] : List UInt8)) (us := v2) rfl Try.underlying42 ei5 ni42 (fun _ => rfl) rfl rfl (.one _ _ _ _ (.id _ rfl)) rfl rfl rfl (.sl _ _ _ (flat_len (f := eU8) (fun _ => rfl) _)) rfl rfl hb5 (by decide) ?_
    refine sv rfl (opv_mv rfl) ?_
    obtain ⟨hb6, h⟩ := chk_eq h
    refine sapp (f := eU8) (xs := (([] : List UInt8) ++ v2)) (us := a1) rfl Try.underlying42 ei5 ni42 (fun _ => rfl) rfl rfl (.one _ _ _ _ (.id _ rfl)) rfl rfl rfl (.sl _ _ _ (flat_len (f := eU8) (fun _ => rfl) _)) rfl rfl hb6 (by decide) ?_
    refine sv rfl (opv_as rfl) ?_
    refine snil ?_
    refine cseq ?_
    refine cregion ?_
    refine sv rfl (opv_mv rfl) ?_
    refine sv rfl (opv_mv rfl) ?_
    refine ssplit 28 rfl (fun hc => ?_) (fun hc => ?_)
    · replace h := ite_t hc h
      clear hc
      refine son rfl rfl rfl ?_
      refine sv rfl (opv_mv rfl) ?_
      refine son rfl rfl rfl ?_
      refine sv rfl (opv_len_sl si42 rfl) ?_
      refine son rfl rfl rfl ?_
      refine sv rfl (opv_ieql rfl rfl) ?_
      refine sv rfl (opv_pick_t rfl rfl) ?_
      refine sv rfl (opv_mv rfl) ?_
      refine ssplit 33 rfl (fun hc => ?_) (fun hc => ?_)
      · replace h := ite_t hc h
        clear hc
        refine son rfl rfl rfl ?_
        refine sv rfl (opv_mv rfl) ?_
        refine son rfl rfl rfl ?_
        obtain ⟨v7, hv7, h⟩ := bind_eq h
        refine scall1 rfl fn23 (opnds_cons rfl opnds_nil) (pubA_id rfl) (m23_prog_Num_c hv7) ?_
        refine son rfl rfl rfl ?_
        refine sv rfl (opv_mv rfl) ?_
        refine son rfl rfl rfl ?_
        refine sv rfl (opv_and rfl rfl) ?_
        refine son rfl rfl rfl ?_
        refine sv rfl (opv_ieql rfl rfl) ?_
        refine sv rfl (opv_pick_t rfl rfl) ?_
        refine sv rfl (opv_mv rfl) ?_
        refine ssplit 40 rfl (fun hc => ?_) (fun hc => ?_)
        · replace h := ite_t hc h
          clear hc
          refine son rfl rfl rfl ?_
          refine sv rfl (opv_mv rfl) ?_
          refine son rfl rfl rfl ?_
          obtain ⟨v8, hv8, h⟩ := bind_eq h
          refine scall1 rfl fn23 (opnds_cons rfl opnds_nil) (pubA_id rfl) (m23_prog_Num_c hv8) ?_
          refine son rfl rfl rfl ?_
          refine sv rfl (opv_mv rfl) ?_
          refine son rfl rfl rfl ?_
          refine sv rfl (opv_ieql rfl rfl) ?_
          refine sv rfl (opv_pick_t rfl rfl) ?_
          refine sv rfl (opv_mv rfl) ?_
          refine ssplit 46 rfl (fun hc => ?_) (fun hc => ?_)
          · replace h := ite_t hc h
            clear hc
            refine son rfl rfl rfl ?_
            refine sv rfl (opv_mv rfl) ?_
            refine son rfl rfl rfl ?_
            refine sv rfl (opv_geq rfl rfl) ?_
            refine sv rfl (opv_pick_t rfl rfl) ?_
            refine sv rfl (opv_mv rfl) ?_
            refine ssplit 50 rfl (fun hc => ?_) (fun hc => ?_)
            · replace h := ite_t hc h
              clear hc
              refine son rfl rfl rfl ?_
              refine sv rfl (opv_mv rfl) ?_
              refine son rfl rfl rfl ?_
              refine sv rfl (opv_leq rfl rfl) ?_
              refine sv rfl (opv_pick_t rfl rfl) ?_
              refine sv rfl (opv_mv rfl) ?_
              refine ssplit 54 rfl (fun hc => ?_) (fun hc => ?_)
              · replace h := ite_t hc h
                clear hc
                refine son rfl rfl rfl ?_
                refine sv rfl (opv_mv rfl) ?_
                refine son rfl rfl rfl ?_
                refine spub 55 rfl (by (repeat' first | exact PubA.nil _ | apply PubA.cons | apply PubV.one | apply PubV.agg | exact PubL.nil | exact PubL.ls _ _ _ _ _ _ rfl (flat_len (f := eU8) (fun _ => rfl) _).symm | exact PubL.id _ rfl | exact PubLs.nil _ | apply PubLs.cons)) ?_
                obtain ⟨v9, hv9, h⟩ := bind_eq h
                refine scall1 rfl fn23 (opnds_cons rfl opnds_nil) (pubA_id rfl) (m23_prog_Num_c hv9) ?_
                refine son rfl rfl rfl ?_
                refine sv rfl (opv_mv rfl) ?_
                refine son rfl rfl rfl ?_
                refine sv rfl (opv_and rfl rfl) ?_
                refine son rfl rfl rfl ?_
                refine sv rfl (opv_ieql rfl rfl) ?_
                refine sv rfl (opv_pick_t rfl rfl) ?_
                refine sv rfl (opv_as rfl) ?_
                refine snil ?_
                refine cret ?_
                obtain rfl := Option.some.inj h
                refine ⟨Or.inr rfl, _, _, _, (resVs_cons (ResV.tmp _ _ rfl) resVs_nil), (pubA_id rfl), ?_⟩
                rfl
              · replace h := ite_f hc h
                clear hc
                refine soff rfl rfl rfl rfl ?_
                refine soff rfl rfl rfl rfl ?_
                refine soff rfl rfl rfl rfl ?_
                refine soff rfl rfl rfl rfl ?_
                refine soff rfl rfl rfl rfl ?_
                refine sv rfl (opv_pick_f rfl rfl) ?_
                refine sv rfl (opv_as rfl) ?_
                refine snil ?_
                refine cret ?_
                obtain rfl := Option.some.inj h
                refine ⟨Or.inr rfl, _, _, _, (resVs_cons (ResV.tmp _ _ rfl) resVs_nil), (pubA_id rfl), ?_⟩
                rfl
            · replace h := ite_f hc h
              clear hc
              refine soff rfl rfl rfl rfl ?_
              refine soff rfl rfl rfl rfl ?_
              refine sv rfl (opv_pick_f rfl rfl) ?_
              refine sv rfl (opv_mv rfl) ?_
              refine soff rfl rfl rfl rfl ?_
              refine soff rfl rfl rfl rfl ?_
              refine soff rfl rfl rfl rfl ?_
              refine soff rfl rfl rfl rfl ?_
              refine soff rfl rfl rfl rfl ?_
              refine sv rfl (opv_pick_f rfl rfl) ?_
              refine sv rfl (opv_as rfl) ?_
              refine snil ?_
              refine cret ?_
              obtain rfl := Option.some.inj h
              refine ⟨Or.inr rfl, _, _, _, (resVs_cons (ResV.tmp _ _ rfl) resVs_nil), (pubA_id rfl), ?_⟩
              rfl
          · replace h := ite_f hc h
            clear hc
            refine soff rfl rfl rfl rfl ?_
            refine soff rfl rfl rfl rfl ?_
            refine sv rfl (opv_pick_f rfl rfl) ?_
            refine sv rfl (opv_mv rfl) ?_
            refine soff rfl rfl rfl rfl ?_
            refine soff rfl rfl rfl rfl ?_
            refine sv rfl (opv_pick_f rfl rfl) ?_
            refine sv rfl (opv_mv rfl) ?_
            refine soff rfl rfl rfl rfl ?_
            refine soff rfl rfl rfl rfl ?_
            refine soff rfl rfl rfl rfl ?_
            refine soff rfl rfl rfl rfl ?_
            refine soff rfl rfl rfl rfl ?_
            refine sv rfl (opv_pick_f rfl rfl) ?_
            refine sv rfl (opv_as rfl) ?_
            refine snil ?_
            refine cret ?_
            obtain rfl := Option.some.inj h
            refine ⟨Or.inr rfl, _, _, _, (resVs_cons (ResV.tmp _ _ rfl) resVs_nil), (pubA_id rfl), ?_⟩
            rfl
        · replace h := ite_f hc h
          clear hc
          refine soff rfl rfl rfl rfl ?_
          refine soff rfl rfl rfl rfl ?_
          refine soff rfl rfl rfl rfl ?_
          refine soff rfl rfl rfl rfl ?_
          refine sv rfl (opv_pick_f rfl rfl) ?_
          refine sv rfl (opv_mv rfl) ?_
          refine soff rfl rfl rfl rfl ?_
          refine soff rfl rfl rfl rfl ?_
          refine sv rfl (opv_pick_f rfl rfl) ?_
          refine sv rfl (opv_mv rfl) ?_
          refine soff rfl rfl rfl rfl ?_
          refine soff rfl rfl rfl rfl ?_
          refine sv rfl (opv_pick_f rfl rfl) ?_
          refine sv rfl (opv_mv rfl) ?_
          refine soff rfl rfl rfl rfl ?_
          refine soff rfl rfl rfl rfl ?_
          refine soff rfl rfl rfl rfl ?_
          refine soff rfl rfl rfl rfl ?_
          refine soff rfl rfl rfl rfl ?_
          refine sv rfl (opv_pick_f rfl rfl) ?_
          refine sv rfl (opv_as rfl) ?_
          refine snil ?_
          refine cret ?_
          obtain rfl := Option.some.inj h
          refine ⟨Or.inr rfl, _, _, _, (resVs_cons (ResV.tmp _ _ rfl) resVs_nil), (pubA_id rfl), ?_⟩
          rfl
      · replace h := ite_f hc h
        clear hc
        refine soff rfl rfl rfl rfl ?_
        refine soff rfl rfl rfl rfl ?_
        refine soff rfl rfl rfl rfl ?_
        refine soff rfl rfl rfl rfl ?_
        refine soff rfl rfl rfl rfl ?_
        refine sv rfl (opv_pick_f rfl rfl) ?_
        refine sv rfl (opv_mv rfl) ?_
        refine soff rfl rfl rfl rfl ?_
        refine soff rfl rfl rfl rfl ?_
        refine soff rfl rfl rfl rfl ?_
        refine soff rfl rfl rfl rfl ?_
        refine sv rfl (opv_pick_f rfl rfl) ?_
        refine sv rfl (opv_mv rfl) ?_
        refine soff rfl rfl rfl rfl ?_
        refine soff rfl rfl rfl rfl ?_
        refine sv rfl (opv_pick_f rfl rfl) ?_
        refine sv rfl (opv_mv rfl) ?_
        refine soff rfl rfl rfl rfl ?_
        refine soff rfl rfl rfl rfl ?_
        refine sv rfl (opv_pick_f rfl rfl) ?_
        refine sv rfl (opv_mv rfl) ?_
        refine soff rfl rfl rfl rfl ?_
        refine soff rfl rfl rfl rfl ?_
        refine soff rfl rfl rfl rfl ?_
        refine soff rfl rfl rfl rfl ?_
        refine soff rfl rfl rfl rfl ?_
        refine sv rfl (opv_pick_f rfl rfl) ?_
        refine sv rfl (opv_as rfl) ?_
        refine snil ?_
        refine cret ?_
        obtain rfl := Option.some.inj h
        refine ⟨Or.inr rfl, _, _, _, (resVs_cons (ResV.tmp _ _ rfl) resVs_nil), (pubA_id rfl), ?_⟩
        rfl
    · replace h := ite_f hc h
      clear hc
      refine soff rfl rfl rfl rfl ?_
      refine soff rfl rfl rfl rfl ?_
      refine soff rfl rfl rfl rfl ?_
      refine sv rfl (opv_pick_f rfl rfl) ?_
      refine sv rfl (opv_mv rfl) ?_
      refine soff rfl rfl rfl rfl ?_
      refine soff rfl rfl rfl rfl ?_
      refine soff rfl rfl rfl rfl ?_
      refine soff rfl rfl rfl rfl ?_
      refine soff rfl rfl rfl rfl ?_
      refine sv rfl (opv_pick_f rfl rfl) ?_
      refine sv rfl (opv_mv rfl) ?_
      refine soff rfl rfl rfl rfl ?_
      refine soff rfl rfl rfl rfl ?_
      refine soff rfl rfl rfl rfl ?_
      refine soff rfl rfl rfl rfl ?_
      refine sv rfl (opv_pick_f rfl rfl) ?_
      refine sv rfl (opv_mv rfl) ?_
      refine soff rfl rfl rfl rfl ?_
      refine soff rfl rfl rfl rfl ?_
      refine sv rfl (opv_pick_f rfl rfl) ?_
      refine sv rfl (opv_mv rfl) ?_
      refine soff rfl rfl rfl rfl ?_
      refine soff rfl rfl rfl rfl ?_
      refine sv rfl (opv_pick_f rfl rfl) ?_
      refine sv rfl (opv_mv rfl) ?_
      refine soff rfl rfl rfl rfl ?_
      refine soff rfl rfl rfl rfl ?_
      refine soff rfl rfl rfl rfl ?_
      refine soff rfl rfl rfl rfl ?_
      refine soff rfl rfl rfl rfl ?_
      refine sv rfl (opv_pick_f rfl rfl) ?_
      refine sv rfl (opv_as rfl) ?_
      refine snil ?_
      refine cret ?_
      obtain rfl := Option.some.inj h
      refine ⟨Or.inr rfl, _, _, _, (resVs_cons (ResV.tmp _ _ rfl) resVs_nil), (pubA_id rfl), ?_⟩
      rfl

def m6_l19_ProgTouches_k5 (a0 : GR19Prog) (a1 : List GApiKV) (v1 : Bool) (v4 : (List GApiKV) × GProgState) (b5 : Unit) : Option Bool :=
  if v1 then ((m12_r09_Rising v4.1).bind fun v6 => if v6 then (some (decide ((v4.1.length : Int) ≤ (wI ((a1.length : Int) + (a0.Ops.length : Int)))))) else (some false)) else (some false)

def m6_l19_ProgTouches_k9 (s7 : Int) (b8 : Bool) (b9 : Bool) : Option (LR (Int) (Unit) (Bool)) :=
  if (!b8) then (if (!b9) then (some (.ret false)) else (some (.cont (wI (s7 + 1))))) else (some (.cont (wI (s7 + 1))))

def m6_l19_ProgTouches_s10 (a1 : List GApiKV) (v4 : (List GApiKV) × GProgState) (s7 : Int) (s10 : Bool × Int) : Option (LB (Bool × Int) (Bool)) :=
  if (decide (s10.2 < (v4.1.length : Int))) then (if s10.1 then (some (.cont (true, (wI (s10.2 + 1))))) else ((idx v4.1 s10.2).bind fun u11 => (idx a1 s7).bind fun u12 => if (u11.Key == u12.Key) then ((idx v4.1 s10.2).bind fun u13 => (idx a1 s7).bind fun u14 => some (.cont ((u13.Val == u14.Val), (wI (s10.2 + 1))))) else (some (.cont (false, (wI (s10.2 + 1))))))) else (some (.brk s10.1))

def m6_l19_ProgTouches_k8 (a1 : List GApiKV) (v4 : (List GApiKV) × GProgState) (s7 : Int) (b8 : Bool) : Option (LR (Int) (Unit) (Bool)) :=
  (iterB (m6_l19_ProgTouches_s10 a1 v4 s7) fuel (false, 0)).bind fun e15 => m6_l19_ProgTouches_k9 s7 b8 e15

def m6_l19_ProgTouches_s16 (a0 : GR19Prog) (a1 : List GApiKV) (s7 : Int) (s16 : Bool × Int) : Option (LB (Bool × Int) (Bool)) :=
  if (decide (s16.2 < (a0.Ops.length : Int))) then (if s16.1 then (some (.cont (true, (wI (s16.2 + 1))))) else ((idx a0.Ops s16.2).bind fun u17 => if (decide (u17.What = 2)) then ((idx a0.Ops s16.2).bind fun u18 => (idx a1 s7).bind fun u19 => some (.cont ((u18.Key == u19.Key), (wI (s16.2 + 1))))) else ((idx a0.Ops s16.2).bind fun u20 => if (decide (u20.What = 3)) then ((idx a0.Ops s16.2).bind fun u21 => (idx a1 s7).bind fun u22 => some (.cont ((u21.Key == u22.Key), (wI (s16.2 + 1))))) else (some (.cont (false, (wI (s16.2 + 1)))))))) else (some (.brk s16.1))

def m6_l19_ProgTouches_s7 (a0 : GR19Prog) (a1 : List GApiKV) (v4 : (List GApiKV) × GProgState) (s7 : Int) : Option (LR (Int) (Unit) (Bool)) :=
  if (decide (s7 < (a1.length : Int))) then ((iterB (m6_l19_ProgTouches_s16 a0 a1 s7) fuel (false, 0)).bind fun e23 => m6_l19_ProgTouches_k8 a1 v4 s7 e23) else (some (.brk ()))

def m6_l19_ProgTouches_k2 (a0 : GR19Prog) (a1 : List GApiKV) (v1 : Bool) (b2 : Unit) : Option Bool :=
  (m13_l19_program a0).bind fun v3 => (m14_prog_Run v3 a1).bind fun v4 => (iter (m6_l19_ProgTouches_s7 a0 a1 v4) fuel 0).bind fun x => match x with | .inl r => some r | .inr e24 => m6_l19_ProgTouches_k5 a0 a1 v1 v4 e24
def m6_l19_ProgTouches (a0 : GR19Prog) (a1 : List GApiKV) : Option Bool :=
  (m9_l19_awake).bind fun v1 => (m10_r19_Few a0).bind fun v25 => if (!v25) then (some v1) else ((m11_l19_short a1).bind fun v26 => if (!v26) then (some v1) else ((m12_r09_Rising a1).bind fun v27 => if (!v27) then (some v1) else (m6_l19_ProgTouches_k2 a0 a1 v1 ())))

set_option maxRecDepth 100000 in
theorem m6_l19_ProgTouches_c {a0 : GR19Prog} {a1 : List GApiKV} {r : Bool} (h : m6_l19_ProgTouches a0 a1 = some r) : CallsA Try.prog 6 [.agg a0, .one (.sl a1.length (a1.flatMap eGApiKV))] (· = .s (.one (.b r))) := by
  unfold m6_l19_ProgTouches at h
  refine callsA_of Try.func6 rfl (nt := 142) rfl (Nat.le_of_ble_eq_true rfl) ?_
  intro w0 S0
  refine cseq ?_
  refine cregion ?_
  refine sbox rfl rfl ?_
  refine sv rfl (opv_as rfl) ?_
  refine snil ?_
  refine cseq ?_
  refine cregion ?_
  obtain ⟨v1, hv1, h⟩ := bind_eq h
  refine scall1 rfl fn9 opnds_nil (pubA_id rfl) (m9_l19_awake_c hv1) ?_
  refine sv rfl (opv_as rfl) ?_
  refine snil ?_
  refine cseq ?_
  refine cseq ?_
  refine cjoin3 (Unit) (fun b2 => [(1, .s (.one (.sl a1.length (a1.flatMap eGApiKV)))), (2, .s (.one (.lp 0 0))), (5, .s (.one (.b v1)))]) (fun b2 => [.box a0]) (fun b2 => m6_l19_ProgTouches_k2 a0 a1 v1 b2 = some r) (fun _ _ => inbL_of rfl) (fun _ _ => blkinb_of rfl) (fun _ _ => Nat.le_of_ble_eq_true rfl) (fun b2 h => ?_) ?_
  · unfold m6_l19_ProgTouches_k2 at h
    refine cseq ?_
    refine cregion ?_
    refine sv rfl (opv_loadN ti24 rfl (.lp _ _ _ rfl) (Nat.le_of_ble_eq_true rfl)) ?_
    obtain ⟨v3, hv3, h⟩ := bind_eq h
    refine scall1 rfl fn13 (opnds_cons rfl opnds_nil) (pubA_id rfl) (m13_l19_program_c hv3) ?_
    refine sv rfl (opv_mv rfl) ?_
    obtain ⟨v4, hv4, h⟩ := bind_eq h
    refine scall1 rfl fn14 (opnds_cons rfl (opnds_cons rfl opnds_nil)) (pubA_id rfl) (m14_prog_Run_c hv4) ?_
    refine sv rfl (opv_mvt rfl) ?_
    refine sv rfl (opv_extract rfl rfl) ?_
    refine sv rfl (opv_extract rfl rfl) ?_
    refine salloc rfl zi35 ?_
    refine sv rfl (opv_as rfl) ?_
    refine sstore sz35 rfl rfl rfl rfl (Nat.le_of_ble_eq_true rfl) ?_
    refine smem [.box a0, .box v4.2] rfl ?_
    refine snil ?_
    refine cseq ?_
    refine cseq ?_
    refine cregion ?_
    refine sv rfl (opv_as rfl) ?_
    refine snil ?_
    refine cjoin (Unit) (fun b5 => [(1, .s (.one (.sl a1.length (a1.flatMap eGApiKV)))), (2, .s (.one (.lp 0 0))), (5, .s (.one (.b v1))), (6, .s (.one (.sl v4.1.length (v4.1.flatMap eGApiKV))))]) (fun b5 => [.box a0, .box v4.2]) (fun b5 => m6_l19_ProgTouches_k5 a0 a1 v1 v4 b5 = some r) (fun _ _ => inbL_of rfl) (fun _ _ => blkinb_of rfl) (fun _ _ => Nat.le_of_ble_eq_true rfl) (fun b5 h => ?_) ?_
    · unfold m6_l19_ProgTouches_k5 at h
      refine cseq ?_
      refine cregion ?_
      refine sv rfl (opv_mv rfl) ?_
      refine sv rfl (opv_mv rfl) ?_
      refine ssplit 127 rfl (fun hc => ?_) (fun hc => ?_)
      · replace h := ite_t hc h
        clear hc
        refine son rfl rfl rfl ?_
        refine sv rfl (opv_mv rfl) ?_
        refine son rfl rfl rfl ?_
        obtain ⟨v6, hv6, h⟩ := bind_eq h
        refine scall1 rfl fn12 (opnds_cons rfl opnds_nil) (pubA_id rfl) (m12_r09_Rising_c hv6) ?_
        refine sv rfl (opv_pick_t rfl rfl) ?_
        refine sv rfl (opv_mv rfl) ?_
        refine ssplit 131 rfl (fun hc => ?_) (fun hc => ?_)
        · replace h := ite_t hc h
          clear hc
          refine son rfl rfl rfl ?_
          refine sv rfl (opv_mv rfl) ?_
          refine son rfl rfl rfl ?_
          refine sv rfl (opv_len_sl si25 rfl) ?_
          refine son rfl rfl rfl ?_
          refine sv rfl (opv_mv rfl) ?_
          refine son rfl rfl rfl ?_
          refine sv rfl (opv_len_sl si25 rfl) ?_
          refine son rfl rfl rfl ?_
          refine sv rfl (opv_fieldAddr_lp fi24_1 rfl) ?_
          refine son rfl rfl rfl ?_
          refine sv rfl (opv_load1 ti22 rfl (.lp _ _ _ rfl) rfl) ?_
          refine son rfl rfl rfl ?_
          refine sv rfl (opv_len_sl si22 rfl) ?_
          refine son rfl rfl rfl ?_
          refine sv rfl (opv_add rfl rfl) ?_
          refine son rfl rfl rfl ?_
          refine sv rfl (opv_leq rfl rfl) ?_
          refine sv rfl (opv_pick_t rfl rfl) ?_
          refine sv rfl (opv_as rfl) ?_
          refine snil ?_
          refine cret ?_
          obtain rfl := Option.some.inj h
          refine ⟨Or.inr rfl, _, _, _, (resVs_cons (ResV.tmp _ _ rfl) resVs_nil), (pubA_id rfl), ?_⟩
          rfl
        · replace h := ite_f hc h
          clear hc
          refine soff rfl rfl rfl rfl ?_
          refine soff rfl rfl rfl rfl ?_
          refine soff rfl rfl rfl rfl ?_
          refine soff rfl rfl rfl rfl ?_
          refine soff rfl rfl rfl rfl ?_
          refine soff rfl rfl rfl rfl ?_
          refine soff rfl rfl rfl rfl ?_
          refine soff rfl rfl rfl rfl ?_
          refine soff rfl rfl rfl rfl ?_
          refine sv rfl (opv_pick_f rfl rfl) ?_
          refine sv rfl (opv_as rfl) ?_
          refine snil ?_
          refine cret ?_
          obtain rfl := Option.some.inj h
          refine ⟨Or.inr rfl, _, _, _, (resVs_cons (ResV.tmp _ _ rfl) resVs_nil), (pubA_id rfl), ?_⟩
          rfl
      · replace h := ite_f hc h
        clear hc
        refine soff rfl rfl rfl rfl ?_
        refine soff rfl rfl rfl rfl ?_
        refine sv rfl (opv_pick_f rfl rfl) ?_
        refine sv rfl (opv_mv rfl) ?_
        refine soff rfl rfl rfl rfl ?_
        refine soff rfl rfl rfl rfl ?_
        refine soff rfl rfl rfl rfl ?_
        refine soff rfl rfl rfl rfl ?_
        refine soff rfl rfl rfl rfl ?_
        refine soff rfl rfl rfl rfl ?_
        refine soff rfl rfl rfl rfl ?_
        refine soff rfl rfl rfl rfl ?_
        refine soff rfl rfl rfl rfl ?_
        refine sv rfl (opv_pick_f rfl rfl) ?_
        refine sv rfl (opv_as rfl) ?_
        refine snil ?_
        refine cret ?_
        obtain rfl := Option.some.inj h
        refine ⟨Or.inr rfl, _, _, _, (resVs_cons (ResV.tmp _ _ rfl) resVs_nil), (pubA_id rfl), ?_⟩
        rfl
    · skip
      refine cblock ?_
      obtain ⟨x7, hx7, ho7⟩ := bind_eq h
      refine awc_loop (G := Nat × (Int)) (fun g => [(1, .s (.one (.sl a1.length (a1.flatMap eGApiKV)))), (2, .s (.one (.lp 0 0))), (5, .s (.one (.b v1))), (6, .s (.one (.sl v4.1.length (v4.1.flatMap eGApiKV)))), (8, .s (.one (.i .i64 g.2)))]) (fun g => [.box a0, .box v4.2]) (fun g => iter (m6_l19_ProgTouches_s7 a0 a1 v4) g.1 g.2 = some x7) (fun g => g.1) (fuel, 0) hx7 ⟨rfl, rfl, rfl, rfl, rfl, trivial⟩ [] rfl (fun _ _ => inbL_of rfl) (fun _ _ => blkinb_of rfl) (fun _ _ => Nat.le_of_ble_eq_true rfl) ?_
      clear hx7 h
      rintro ⟨n7, s7⟩ h
      obtain ⟨n7, y7, rfl, h, hk7⟩ := iter_eq h
      unfold m6_l19_ProgTouches_s7 at h
      refine cseq ?_
      refine cseq ?_
      refine cregion ?_
      refine sv rfl (opv_mv rfl) ?_
      refine sv rfl (opv_mv rfl) ?_
      refine sv rfl (opv_len_sl si25 rfl) ?_
      refine sv rfl (opv_lss rfl rfl) ?_
      refine snil ?_
      refine ccond rfl (fun hc => ?_) (fun hc => ?_)
      · replace h := ite_t hc h
        clear hc
        refine cskip ?_
        refine then_normal ?_
        refine cseq ?_
        refine cblock ?_
        refine cseq ?_
        refine cregion ?_
        refine sv rfl (opv_as rfl) ?_
        refine snil ?_
        refine cseq ?_
        refine cseq ?_
        refine cregion ?_
        refine sv rfl (opv_as rfl) ?_
        refine snil ?_
        refine cjoin (Bool) (fun b8 => [(1, .s (.one (.sl a1.length (a1.flatMap eGApiKV)))), (2, .s (.one (.lp 0 0))), (5, .s (.one (.b v1))), (6, .s (.one (.sl v4.1.length (v4.1.flatMap eGApiKV)))), (8, .s (.one (.i .i64 s7))), (9, .s (.one (.b b8)))]) (fun b8 => [.box a0, .box v4.2]) (fun b8 => m6_l19_ProgTouches_k8 a1 v4 s7 b8 = some y7) (fun _ _ => inbL_of rfl) (fun _ _ => blkinb_of rfl) (fun _ _ => Nat.le_of_ble_eq_true rfl) (fun b8 h => ?_) ?_
        · unfold m6_l19_ProgTouches_k8 at h
          refine cseq ?_
          refine cregion ?_
          refine sv rfl (opv_as rfl) ?_
          refine snil ?_
          refine cseq ?_
          refine cseq ?_
          refine cregion ?_
          refine sv rfl (opv_as rfl) ?_
          refine snil ?_
          refine cjoin (Bool) (fun b9 => [(1, .s (.one (.sl a1.length (a1.flatMap eGApiKV)))), (2, .s (.one (.lp 0 0))), (5, .s (.one (.b v1))), (6, .s (.one (.sl v4.1.length (v4.1.flatMap eGApiKV)))), (8, .s (.one (.i .i64 s7))), (9, .s (.one (.b b8))), (11, .s (.one (.b b9)))]) (fun b9 => [.box a0, .box v4.2]) (fun b9 => m6_l19_ProgTouches_k9 s7 b8 b9 = some y7) (fun _ _ => inbL_of rfl) (fun _ _ => blkinb_of rfl) (fun _ _ => Nat.le_of_ble_eq_true rfl) (fun b9 h => ?_) ?_
          · unfold m6_l19_ProgTouches_k9 at h
            refine cseq ?_
            refine cregion ?_
            refine sv rfl (opv_mv rfl) ?_
            refine sv rfl (opv_not rfl) ?_
            refine sv rfl (opv_mv rfl) ?_
            refine ssplit 122 rfl (fun hc => ?_) (fun hc => ?_)
            · replace h := ite_t hc h
              clear hc
              refine son rfl rfl rfl ?_
              refine sv rfl (opv_mv rfl) ?_
              refine son rfl rfl rfl ?_
              refine sv rfl (opv_not rfl) ?_
              refine sv rfl (opv_pick_t rfl rfl) ?_
              refine snil ?_
              refine ccond rfl (fun hc => ?_) (fun hc => ?_)
              · replace h := ite_t hc h
                clear hc
                refine cseq ?_
                refine cregion ?_
                refine sv rfl (opv_as rfl) ?_
                refine snil ?_
                refine cret ?_
                refine block_ret ?_
                refine then_ret ?_
                refine then_ret ?_
                refine block_ret ?_
                refine then_ret ?_
                obtain rfl := Option.some.inj h
                obtain rfl : Sum.inl _ = x7 := hk7
                replace ho7 : some _ = some _ := ho7
                obtain rfl := Option.some.inj ho7
                refine ⟨Or.inr rfl, _, _, _, (resVs_cons (ResV.tmp _ _ rfl) resVs_nil), (pubA_id rfl), ?_⟩
                rfl
              · replace h := ite_f hc h
                clear hc
                refine cskip ?_
                refine block_normal ?_
                refine then_normal ?_
                refine cregion ?_
                refine sv rfl (opv_mv rfl) ?_
                refine sv rfl (opv_add rfl rfl) ?_
                refine sv rfl (opv_as rfl) ?_
                refine snil ?_
                obtain rfl := Option.some.inj h
                exact ⟨(n7, (wI (s7 + 1))), _, hk7, ⟨rfl, rfl, rfl, rfl, rfl, trivial⟩, rfl, Nat.lt_succ_self _⟩
            · replace h := ite_f hc h
              clear hc
              refine soff rfl rfl rfl rfl ?_
              refine soff rfl rfl rfl rfl ?_
              refine sv rfl (opv_pick_f rfl rfl) ?_
              refine snil ?_
              refine ccond rfl (fun hx => Bool.noConfusion hx) (fun _ => ?_)
              refine cskip ?_
              refine block_normal ?_
              refine then_normal ?_
              refine cregion ?_
              refine sv rfl (opv_mv rfl) ?_
              refine sv rfl (opv_add rfl rfl) ?_
              refine sv rfl (opv_as rfl) ?_
              refine snil ?_
              obtain rfl := Option.some.inj h
              exact ⟨(n7, (wI (s7 + 1))), _, hk7, ⟨rfl, rfl, rfl, rfl, rfl, trivial⟩, rfl, Nat.lt_succ_self _⟩
          · skip
            refine cblock ?_
            obtain ⟨x10, hx10, ho10⟩ := bind_eq h
            refine awc_loop (G := Nat × (Bool × Int)) (fun g => [(1, .s (.one (.sl a1.length (a1.flatMap eGApiKV)))), (2, .s (.one (.lp 0 0))), (5, .s (.one (.b v1))), (6, .s (.one (.sl v4.1.length (v4.1.flatMap eGApiKV)))), (8, .s (.one (.i .i64 s7))), (9, .s (.one (.b b8))), (11, .s (.one (.b g.2.1))), (12, .s (.one (.i .i64 g.2.2)))]) (fun g => [.box a0, .box v4.2]) (fun g => iterB (m6_l19_ProgTouches_s10 a1 v4 s7) g.1 g.2 = some x10) (fun g => g.1) (fuel, (false, 0)) hx10 ⟨rfl, rfl, rfl, rfl, rfl, rfl, rfl, rfl, trivial⟩ [] rfl (fun _ _ => inbL_of rfl) (fun _ _ => blkinb_of rfl) (fun _ _ => Nat.le_of_ble_eq_true rfl) ?_
            clear hx10 h
            rintro ⟨n10, s10⟩ h
            obtain ⟨n10, y10, rfl, h, hk10⟩ := iterB_eq h
            unfold m6_l19_ProgTouches_s10 at h
            refine cseq ?_
            refine cseq ?_
            refine cregion ?_
            refine sv rfl (opv_mv rfl) ?_
            refine sv rfl (opv_mv rfl) ?_
            refine sv rfl (opv_len_sl si25 rfl) ?_
            refine sv rfl (opv_lss rfl rfl) ?_
            refine snil ?_
            refine ccond rfl (fun hc => ?_) (fun hc => ?_)
            · replace h := ite_t hc h
              clear hc
              refine cskip ?_
              refine then_normal ?_
              refine cseq ?_
              refine cblock ?_
              refine cdrawL mixed (by kernel_rfl) ?_
              refine dv rfl (opv_mv rfl) ?_
              refine dv rfl (opv_mv rfl) ?_
              refine dsplit 90 rfl (fun hc => ?_) (fun hc => ?_)
              · replace h := ite_t hc h
                clear hc
                refine doff rfl rfl rfl rfl ?_
                refine doff rfl rfl rfl rfl ?_
                refine doff rfl rfl rfl rfl ?_
                refine doff rfl rfl rfl rfl ?_
                refine doff rfl rfl rfl rfl ?_
                refine doff rfl rfl rfl rfl ?_
                refine doff rfl rfl rfl rfl ?_
                refine doff rfl rfl rfl rfl ?_
                refine doff rfl rfl rfl rfl ?_
                refine doff rfl rfl rfl rfl ?_
                refine doff rfl rfl rfl rfl ?_
                refine doff rfl rfl rfl rfl ?_
                refine doff rfl rfl rfl rfl ?_
                refine doff rfl rfl rfl rfl ?_
                refine doffu rfl rfl rfl ?_
                refine doffu rfl rfl rfl ?_
                refine doffu rfl rfl rfl ?_
                refine doffu rfl rfl rfl ?_
                refine doffu rfl rfl rfl ?_
                refine doffu rfl rfl rfl ?_
                refine doffu rfl rfl rfl ?_
                refine doffu rfl rfl rfl ?_
                refine doffu rfl rfl rfl ?_
                refine doffu rfl rfl rfl ?_
                refine doffu rfl rfl rfl ?_
                refine doffu rfl rfl rfl ?_
                refine doffu rfl rfl rfl ?_
                refine doff rfl rfl rfl rfl ?_
                refine dv rfl (opv_pick_t rfl rfl) ?_
                refine dv rfl (opv_as rfl) ?_
                refine dnil ?_
                refine block_normal ?_
                refine then_normal ?_
                refine cregion ?_
                refine sv rfl (opv_mv rfl) ?_
                refine sv rfl (opv_add rfl rfl) ?_
                refine sv rfl (opv_as rfl) ?_
                refine snil ?_
                obtain rfl := Option.some.inj h
                exact ⟨(n10, (true, (wI (s10.2 + 1)))), _, hk10, ⟨rfl, rfl, rfl, rfl, rfl, rfl, rfl, rfl, trivial⟩, rfl, Nat.lt_succ_self _⟩
              · replace h := ite_f hc h
                clear hc
                refine dvg rfl rfl rfl (opv_mv rfl) ?_
                refine dvg rfl rfl rfl (opv_mv rfl) ?_
                obtain ⟨u11, hu11, h⟩ := bind_eq h
                refine dvg rfl rfl rfl (opv_ix (f := eGApiKV) si25 (fun _ => rfl) rfl rfl rfl rfl hu11) ?_
                refine dvg rfl rfl rfl (opv_fieldAddr_cp fi65_0 rfl) ?_
                refine dvg rfl rfl rfl (opv_load1 ti42 rfl (.cp _) rfl) ?_
                refine dvg rfl rfl rfl (opv_bs (l := u11.Key) Try.underlying42 Try.underlying5 Try.underlying9 rfl rfl rfl) ?_
                refine dvg rfl rfl rfl (opv_mv rfl) ?_
                refine dvg rfl rfl rfl (opv_mv rfl) ?_
                obtain ⟨u12, hu12, h⟩ := bind_eq h
                refine dvg rfl rfl rfl (opv_ix (f := eGApiKV) si25 (fun _ => rfl) rfl rfl rfl rfl hu12) ?_
                refine dvg rfl rfl rfl (opv_fieldAddr_cp fi65_0 rfl) ?_
                refine dvg rfl rfl rfl (opv_load1 ti42 rfl (.cp _) rfl) ?_
                refine dvg rfl rfl rfl (opv_bs (l := u12.Key) Try.underlying42 Try.underlying5 Try.underlying9 rfl rfl rfl) ?_
                refine dvg rfl rfl rfl (opv_seql' rfl rfl) ?_
                refine dvg rfl rfl rfl (opv_mv rfl) ?_
                refine dsplit 104 rfl (fun hc => ?_) (fun hc => ?_)
                · replace h := ite_t hc h
                  clear hc
                  refine dvg rfl rfl rfl (opv_mv rfl) ?_
                  refine dvg rfl rfl rfl (opv_mv rfl) ?_
                  obtain ⟨u13, hu13, h⟩ := bind_eq h
                  refine dvg rfl rfl rfl (opv_ix (f := eGApiKV) si25 (fun _ => rfl) rfl rfl rfl rfl hu13) ?_
                  refine dvg rfl rfl rfl (opv_fieldAddr_cp fi65_1 rfl) ?_
                  refine dvg rfl rfl rfl (opv_load1 ti42 rfl (.cp _) rfl) ?_
                  refine dvg rfl rfl rfl (opv_bs (l := u13.Val) Try.underlying42 Try.underlying5 Try.underlying9 rfl rfl rfl) ?_
                  refine dvg rfl rfl rfl (opv_mv rfl) ?_
                  refine dvg rfl rfl rfl (opv_mv rfl) ?_
                  obtain ⟨u14, hu14, h⟩ := bind_eq h
                  refine dvg rfl rfl rfl (opv_ix (f := eGApiKV) si25 (fun _ => rfl) rfl rfl rfl rfl hu14) ?_
                  refine dvg rfl rfl rfl (opv_fieldAddr_cp fi65_1 rfl) ?_
                  refine dvg rfl rfl rfl (opv_load1 ti42 rfl (.cp _) rfl) ?_
                  refine dvg rfl rfl rfl (opv_bs (l := u14.Val) Try.underlying42 Try.underlying5 Try.underlying9 rfl rfl rfl) ?_
                  refine dvg rfl rfl rfl (opv_seql' rfl rfl) ?_
                  refine dvg rfl rfl rfl (opv_pick_t rfl rfl) ?_
                  refine dv rfl (opv_pick_f rfl rfl) ?_
                  refine dv rfl (opv_as rfl) ?_
                  refine dnil ?_
                  refine block_normal ?_
                  refine then_normal ?_
                  refine cregion ?_
                  refine sv rfl (opv_mv rfl) ?_
                  refine sv rfl (opv_add rfl rfl) ?_
                  refine sv rfl (opv_as rfl) ?_
                  refine snil ?_
                  obtain rfl := Option.some.inj h
                  exact ⟨(n10, ((u13.Val == u14.Val), (wI (s10.2 + 1)))), _, hk10, ⟨rfl, rfl, rfl, rfl, rfl, rfl, rfl, rfl, trivial⟩, rfl, Nat.lt_succ_self _⟩
                · replace h := ite_f hc h
                  clear hc
                  refine doff rfl rfl rfl rfl ?_
                  refine doff rfl rfl rfl rfl ?_
                  refine doff rfl rfl rfl rfl ?_
                  refine doff rfl rfl rfl rfl ?_
                  refine doff rfl rfl rfl rfl ?_
                  refine doff rfl rfl rfl rfl ?_
                  refine doff rfl rfl rfl rfl ?_
                  refine doff rfl rfl rfl rfl ?_
                  refine doff rfl rfl rfl rfl ?_
                  refine doff rfl rfl rfl rfl ?_
                  refine doff rfl rfl rfl rfl ?_
                  refine doff rfl rfl rfl rfl ?_
                  refine doff rfl rfl rfl rfl ?_
                  refine dvg rfl rfl rfl (opv_pick_f rfl rfl) ?_
                  refine dv rfl (opv_pick_f rfl rfl) ?_
                  refine dv rfl (opv_as rfl) ?_
                  refine dnil ?_
                  refine block_normal ?_
                  refine then_normal ?_
                  refine cregion ?_
                  refine sv rfl (opv_mv rfl) ?_
                  refine sv rfl (opv_add rfl rfl) ?_
                  refine sv rfl (opv_as rfl) ?_
                  refine snil ?_
                  obtain rfl := Option.some.inj h
                  exact ⟨(n10, (false, (wI (s10.2 + 1)))), _, hk10, ⟨rfl, rfl, rfl, rfl, rfl, rfl, rfl, rfl, trivial⟩, rfl, Nat.lt_succ_self _⟩
            · replace h := ite_f hc h
              clear hc
              refine cexit ?_
              refine then_exit ?_
              refine then_exit ?_
              refine block_hit ?_
              refine then_normal ?_
              obtain rfl := Option.some.inj h
              obtain rfl : _ = x10 := hk10
              exact ⟨s10.1, _, ho10, ⟨rfl, rfl, rfl, rfl, rfl, rfl, rfl, trivial⟩, rfl⟩
        · skip
          refine cblock ?_
          obtain ⟨x16, hx16, ho16⟩ := bind_eq h
          refine awc_loop (G := Nat × (Bool × Int)) (fun g => [(1, .s (.one (.sl a1.length (a1.flatMap eGApiKV)))), (2, .s (.one (.lp 0 0))), (5, .s (.one (.b v1))), (6, .s (.one (.sl v4.1.length (v4.1.flatMap eGApiKV)))), (8, .s (.one (.i .i64 s7))), (9, .s (.one (.b g.2.1))), (10, .s (.one (.i .i64 g.2.2)))]) (fun g => [.box a0, .box v4.2]) (fun g => iterB (m6_l19_ProgTouches_s16 a0 a1 s7) g.1 g.2 = some x16) (fun g => g.1) (fuel, (false, 0)) hx16 ⟨rfl, rfl, rfl, rfl, rfl, rfl, rfl, trivial⟩ [] rfl (fun _ _ => inbL_of rfl) (fun _ _ => blkinb_of rfl) (fun _ _ => Nat.le_of_ble_eq_true rfl) ?_
          clear hx16 h
          rintro ⟨n16, s16⟩ h
          obtain ⟨n16, y16, rfl, h, hk16⟩ := iterB_eq h
          unfold m6_l19_ProgTouches_s16 at h
          refine cseq ?_
          refine cseq ?_
          refine cregion ?_
          refine sv rfl (opv_mv rfl) ?_
          refine sv rfl (opv_fieldAddr_lp fi24_1 rfl) ?_
          refine sv rfl (opv_load1 ti22 rfl (.lp _ _ _ rfl) rfl) ?_
          refine sv rfl (opv_len_sl si22 rfl) ?_
          refine sv rfl (opv_lss rfl rfl) ?_
          refine snil ?_
          refine ccond rfl (fun hc => ?_) (fun hc => ?_)
          · replace h := ite_t hc h
            clear hc
            refine cskip ?_
            refine then_normal ?_
            refine cseq ?_
            refine cblock ?_
            refine cdrawL mixed (by kernel_rfl) ?_
            refine dv rfl (opv_mv rfl) ?_
            refine dv rfl (opv_mv rfl) ?_
            refine dsplit 49 rfl (fun hc => ?_) (fun hc => ?_)
            · replace h := ite_t hc h
              clear hc
              refine doff rfl rfl rfl rfl ?_
              refine doff rfl rfl rfl rfl ?_
              refine doff rfl rfl rfl rfl ?_
              refine doff rfl rfl rfl rfl ?_
              refine doff rfl rfl rfl rfl ?_
              refine doff rfl rfl rfl rfl ?_
              refine doff rfl rfl rfl rfl ?_
              refine doff rfl rfl rfl rfl ?_
              refine doffu rfl rfl rfl ?_
              refine doffu rfl rfl rfl ?_
              refine doffu rfl rfl rfl ?_
              refine doffu rfl rfl rfl ?_
              refine doffu rfl rfl rfl ?_
              refine doffu rfl rfl rfl ?_
              refine doffu rfl rfl rfl ?_
              refine doff rfl rfl rfl rfl ?_
              refine doff rfl rfl rfl rfl ?_
              refine doffu rfl rfl rfl ?_
              refine doffu rfl rfl rfl ?_
              refine doffu rfl rfl rfl ?_
              refine doffu rfl rfl rfl ?_
              refine doffu rfl rfl rfl ?_
              refine doffu rfl rfl rfl ?_
              refine doffu rfl rfl rfl ?_
              refine doffu rfl rfl rfl ?_
              refine doffu rfl rfl rfl ?_
              refine doffu rfl rfl rfl ?_
              refine doffu rfl rfl rfl ?_
              refine doffu rfl rfl rfl ?_
              refine doffu rfl rfl rfl ?_
              refine doffu rfl rfl rfl ?_
              refine doff rfl rfl rfl rfl ?_
              refine dv rfl (opv_pick_t rfl rfl) ?_
              refine dv rfl (opv_as rfl) ?_
              refine dnil ?_
              refine block_normal ?_
              refine then_normal ?_
              refine cregion ?_
              refine sv rfl (opv_mv rfl) ?_
              refine sv rfl (opv_add rfl rfl) ?_
              refine sv rfl (opv_as rfl) ?_
              refine snil ?_
              obtain rfl := Option.some.inj h
              exact ⟨(n16, (true, (wI (s16.2 + 1)))), _, hk16, ⟨rfl, rfl, rfl, rfl, rfl, rfl, rfl, trivial⟩, rfl, Nat.lt_succ_self _⟩
            · replace h := ite_f hc h
              clear hc
              refine dvg rfl rfl rfl (opv_fieldAddr_lp fi24_1 rfl) ?_
              refine dvg rfl rfl rfl (opv_load1 ti22 rfl (.lp _ _ _ rfl) rfl) ?_
              refine dvg rfl rfl rfl (opv_mv rfl) ?_
              obtain ⟨u17, hu17, h⟩ := bind_eq h
              refine dvg rfl rfl rfl (opv_ix (f := eGR19Op) si22 (fun _ => rfl) rfl rfl rfl rfl hu17) ?_
              refine dvg rfl rfl rfl (opv_fieldAddr_cp fi63_0 rfl) ?_
              refine dvg rfl rfl rfl (opv_load1 ti3 rfl (.cp _) rfl) ?_
              refine dvg rfl rfl rfl (opv_ieql rfl rfl) ?_
              refine dvg rfl rfl rfl (opv_mv rfl) ?_
              refine dsplit 57 rfl (fun hc => ?_) (fun hc => ?_)
              · replace h := ite_t hc h
                clear hc
                refine doff rfl rfl rfl rfl ?_
                refine doff rfl rfl rfl rfl ?_
                refine doff rfl rfl rfl rfl ?_
                refine doff rfl rfl rfl rfl ?_
                refine doff rfl rfl rfl rfl ?_
                refine doff rfl rfl rfl rfl ?_
                refine doff rfl rfl rfl rfl ?_
                refine dvg rfl rfl rfl (opv_pick_t rfl rfl) ?_
                refine dvg rfl rfl rfl (opv_mv rfl) ?_
                refine dvg rfl rfl rfl (opv_fieldAddr_lp fi24_1 rfl) ?_
                refine dvg rfl rfl rfl (opv_load1 ti22 rfl (.lp _ _ _ rfl) rfl) ?_
                refine dvg rfl rfl rfl (opv_mv rfl) ?_
                obtain ⟨u18, hu18, h⟩ := bind_eq h
                refine dvg rfl rfl rfl (opv_ix (f := eGR19Op) si22 (fun _ => rfl) rfl rfl rfl rfl hu18) ?_
                refine dvg rfl rfl rfl (opv_fieldAddr_cp fi63_4 rfl) ?_
                refine dvg rfl rfl rfl (opv_load1 ti42 rfl (.cp _) rfl) ?_
                refine dvg rfl rfl rfl (opv_bs (l := u18.Key) Try.underlying42 Try.underlying5 Try.underlying9 rfl rfl rfl) ?_
                refine dvg rfl rfl rfl (opv_mv rfl) ?_
                refine dvg rfl rfl rfl (opv_mv rfl) ?_
                obtain ⟨u19, hu19, h⟩ := bind_eq h
                refine dvg rfl rfl rfl (opv_ix (f := eGApiKV) si25 (fun _ => rfl) rfl rfl rfl rfl hu19) ?_
                refine dvg rfl rfl rfl (opv_fieldAddr_cp fi65_0 rfl) ?_
                refine dvg rfl rfl rfl (opv_load1 ti42 rfl (.cp _) rfl) ?_
                refine dvg rfl rfl rfl (opv_bs (l := u19.Key) Try.underlying42 Try.underlying5 Try.underlying9 rfl rfl rfl) ?_
                refine dvg rfl rfl rfl (opv_seql' rfl rfl) ?_
                refine dvg rfl rfl rfl (opv_pick_t rfl rfl) ?_
                refine dv rfl (opv_pick_f rfl rfl) ?_
                refine dv rfl (opv_as rfl) ?_
                refine dnil ?_
                refine block_normal ?_
                refine then_normal ?_
                refine cregion ?_
                refine sv rfl (opv_mv rfl) ?_
                refine sv rfl (opv_add rfl rfl) ?_
                refine sv rfl (opv_as rfl) ?_
                refine snil ?_
                obtain rfl := Option.some.inj h
                exact ⟨(n16, ((u18.Key == u19.Key), (wI (s16.2 + 1)))), _, hk16, ⟨rfl, rfl, rfl, rfl, rfl, rfl, rfl, trivial⟩, rfl, Nat.lt_succ_self _⟩
              · replace h := ite_f hc h
                clear hc
                refine dvg rfl rfl rfl (opv_fieldAddr_lp fi24_1 rfl) ?_
                refine dvg rfl rfl rfl (opv_load1 ti22 rfl (.lp _ _ _ rfl) rfl) ?_
                refine dvg rfl rfl rfl (opv_mv rfl) ?_
                obtain ⟨u20, hu20, h⟩ := bind_eq h
                refine dvg rfl rfl rfl (opv_ix (f := eGR19Op) si22 (fun _ => rfl) rfl rfl rfl rfl hu20) ?_
                refine dvg rfl rfl rfl (opv_fieldAddr_cp fi63_0 rfl) ?_
                refine dvg rfl rfl rfl (opv_load1 ti3 rfl (.cp _) rfl) ?_
                refine dvg rfl rfl rfl (opv_ieql rfl rfl) ?_
                refine dvg rfl rfl rfl (opv_pick_f rfl rfl) ?_
                refine dvg rfl rfl rfl (opv_mv rfl) ?_
                refine dsplit 66 rfl (fun hc => ?_) (fun hc => ?_)
                · replace h := ite_t hc h
                  clear hc
                  refine dvg rfl rfl rfl (opv_fieldAddr_lp fi24_1 rfl) ?_
                  refine dvg rfl rfl rfl (opv_load1 ti22 rfl (.lp _ _ _ rfl) rfl) ?_
                  refine dvg rfl rfl rfl (opv_mv rfl) ?_
                  obtain ⟨u21, hu21, h⟩ := bind_eq h
                  refine dvg rfl rfl rfl (opv_ix (f := eGR19Op) si22 (fun _ => rfl) rfl rfl rfl rfl hu21) ?_
                  refine dvg rfl rfl rfl (opv_fieldAddr_cp fi63_4 rfl) ?_
                  refine dvg rfl rfl rfl (opv_load1 ti42 rfl (.cp _) rfl) ?_
                  refine dvg rfl rfl rfl (opv_bs (l := u21.Key) Try.underlying42 Try.underlying5 Try.underlying9 rfl rfl rfl) ?_
                  refine dvg rfl rfl rfl (opv_mv rfl) ?_
                  refine dvg rfl rfl rfl (opv_mv rfl) ?_
                  obtain ⟨u22, hu22, h⟩ := bind_eq h
                  refine dvg rfl rfl rfl (opv_ix (f := eGApiKV) si25 (fun _ => rfl) rfl rfl rfl rfl hu22) ?_
                  refine dvg rfl rfl rfl (opv_fieldAddr_cp fi65_0 rfl) ?_
                  refine dvg rfl rfl rfl (opv_load1 ti42 rfl (.cp _) rfl) ?_
                  refine dvg rfl rfl rfl (opv_bs (l := u22.Key) Try.underlying42 Try.underlying5 Try.underlying9 rfl rfl rfl) ?_
                  refine dvg rfl rfl rfl (opv_seql' rfl rfl) ?_
                  refine dvg rfl rfl rfl (opv_pick_t rfl rfl) ?_
                  refine dv rfl (opv_pick_f rfl rfl) ?_
                  refine dv rfl (opv_as rfl) ?_
                  refine dnil ?_
                  refine block_normal ?_
                  refine then_normal ?_
                  refine cregion ?_
                  refine sv rfl (opv_mv rfl) ?_
                  refine sv rfl (opv_add rfl rfl) ?_
                  refine sv rfl (opv_as rfl) ?_
                  refine snil ?_
                  obtain rfl := Option.some.inj h
                  exact ⟨(n16, ((u21.Key == u22.Key), (wI (s16.2 + 1)))), _, hk16, ⟨rfl, rfl, rfl, rfl, rfl, rfl, rfl, trivial⟩, rfl, Nat.lt_succ_self _⟩
                · replace h := ite_f hc h
                  clear hc
                  refine doff rfl rfl rfl rfl ?_
                  refine doff rfl rfl rfl rfl ?_
                  refine doff rfl rfl rfl rfl ?_
                  refine doff rfl rfl rfl rfl ?_
                  refine doff rfl rfl rfl rfl ?_
                  refine doff rfl rfl rfl rfl ?_
                  refine doff rfl rfl rfl rfl ?_
                  refine doff rfl rfl rfl rfl ?_
                  refine doff rfl rfl rfl rfl ?_
                  refine doff rfl rfl rfl rfl ?_
                  refine doff rfl rfl rfl rfl ?_
                  refine doff rfl rfl rfl rfl ?_
                  refine doff rfl rfl rfl rfl ?_
                  refine doff rfl rfl rfl rfl ?_
                  refine dvg rfl rfl rfl (opv_pick_f rfl rfl) ?_
                  refine dv rfl (opv_pick_f rfl rfl) ?_
                  refine dv rfl (opv_as rfl) ?_
                  refine dnil ?_
                  refine block_normal ?_
                  refine then_normal ?_
                  refine cregion ?_
                  refine sv rfl (opv_mv rfl) ?_
                  refine sv rfl (opv_add rfl rfl) ?_
                  refine sv rfl (opv_as rfl) ?_
                  refine snil ?_
                  obtain rfl := Option.some.inj h
                  exact ⟨(n16, (false, (wI (s16.2 + 1)))), _, hk16, ⟨rfl, rfl, rfl, rfl, rfl, rfl, rfl, trivial⟩, rfl, Nat.lt_succ_self _⟩
          · replace h := ite_f hc h
            clear hc
            refine cexit ?_
            refine then_exit ?_
            refine then_exit ?_
            refine block_hit ?_
            refine then_normal ?_
            obtain rfl := Option.some.inj h
            obtain rfl : _ = x16 := hk16
            exact ⟨s16.1, _, ho16, ⟨rfl, rfl, rfl, rfl, rfl, rfl, trivial⟩, rfl⟩
      · replace h := ite_f hc h
        clear hc
        refine cexit ?_
        refine then_exit ?_
        refine then_exit ?_
        refine block_hit ?_
        refine then_normal ?_
        obtain rfl := Option.some.inj h
        obtain rfl : _ = x7 := hk7
        exact ⟨(), _, ho7, ⟨rfl, rfl, rfl, rfl, trivial⟩, rfl⟩
  · skip
    refine cregion ?_
    refine sv rfl (opv_loadN ti24 rfl (.lp _ _ _ rfl) (Nat.le_of_ble_eq_true rfl)) ?_
    obtain ⟨v25, hv25, h⟩ := bind_eq h
    refine scall1 rfl fn10 (opnds_cons rfl opnds_nil) (pubA_id rfl) (m10_r19_Few_c hv25) ?_
    refine sv rfl (opv_not rfl) ?_
    refine sv rfl (opv_mv rfl) ?_
    refine ssplit 17 rfl (fun hc => ?_) (fun hc => ?_)
    · replace h := ite_t hc h
      clear hc
      refine soff rfl rfl rfl rfl ?_
      refine soff rfl rfl rfl rfl ?_
      refine soff rfl rfl rfl rfl ?_
      refine sv rfl (opv_pick_t rfl rfl) ?_
      refine sv rfl (opv_mv rfl) ?_
      refine soff rfl rfl rfl rfl ?_
      refine soff rfl rfl rfl rfl ?_
      refine soff rfl rfl rfl rfl ?_
      refine sv rfl (opv_pick_t rfl rfl) ?_
      refine snil ?_
      refine ccond rfl (fun _ => ?_) (fun hx => Bool.noConfusion hx)
      refine cseq ?_
      refine cregion ?_
      refine sv rfl (opv_mv rfl) ?_
      refine sv rfl (opv_as rfl) ?_
      refine snil ?_
      refine cret ?_
      refine then_ret ?_
      obtain rfl := Option.some.inj h
      refine ⟨Or.inr rfl, _, _, _, (resVs_cons (ResV.tmp _ _ rfl) resVs_nil), (pubA_id rfl), ?_⟩
      rfl
    · replace h := ite_f hc h
      clear hc
      refine son rfl rfl rfl ?_
      refine sv rfl (opv_mv rfl) ?_
      refine son rfl rfl rfl ?_
      obtain ⟨v26, hv26, h⟩ := bind_eq h
      refine scall1 rfl fn11 (opnds_cons rfl opnds_nil) (pubA_id rfl) (m11_l19_short_c hv26) ?_
      refine son rfl rfl rfl ?_
      refine sv rfl (opv_not rfl) ?_
      refine sv rfl (opv_pick_f rfl rfl) ?_
      refine sv rfl (opv_mv rfl) ?_
      refine ssplit 22 rfl (fun hc => ?_) (fun hc => ?_)
      · replace h := ite_t hc h
        clear hc
        refine soff rfl rfl rfl rfl ?_
        refine soff rfl rfl rfl rfl ?_
        refine soff rfl rfl rfl rfl ?_
        refine sv rfl (opv_pick_t rfl rfl) ?_
        refine snil ?_
        refine ccond rfl (fun _ => ?_) (fun hx => Bool.noConfusion hx)
        refine cseq ?_
        refine cregion ?_
        refine sv rfl (opv_mv rfl) ?_
        refine sv rfl (opv_as rfl) ?_
        refine snil ?_
        refine cret ?_
        refine then_ret ?_
        obtain rfl := Option.some.inj h
        refine ⟨Or.inr rfl, _, _, _, (resVs_cons (ResV.tmp _ _ rfl) resVs_nil), (pubA_id rfl), ?_⟩
        rfl
      · replace h := ite_f hc h
        clear hc
        refine son rfl rfl rfl ?_
        refine sv rfl (opv_mv rfl) ?_
        refine son rfl rfl rfl ?_
        obtain ⟨v27, hv27, h⟩ := bind_eq h
        refine scall1 rfl fn12 (opnds_cons rfl opnds_nil) (pubA_id rfl) (m12_r09_Rising_c hv27) ?_
        refine son rfl rfl rfl ?_
        refine sv rfl (opv_not rfl) ?_
        refine sv rfl (opv_pick_f rfl rfl) ?_
        refine snil ?_
        refine ccond rfl (fun hc => ?_) (fun hc => ?_)
        · replace h := ite_t hc h
          clear hc
          refine cseq ?_
          refine cregion ?_
          refine sv rfl (opv_mv rfl) ?_
          refine sv rfl (opv_as rfl) ?_
          refine snil ?_
          refine cret ?_
          refine then_ret ?_
          obtain rfl := Option.some.inj h
          refine ⟨Or.inr rfl, _, _, _, (resVs_cons (ResV.tmp _ _ rfl) resVs_nil), (pubA_id rfl), ?_⟩
          rfl
        · replace h := ite_f hc h
          clear hc
          refine cskip ?_
          refine then_normal ?_
          exact ⟨(), _, h, ⟨rfl, rfl, rfl, trivial⟩, rfl⟩

def m25_l19_asked (a0 : GMsgReq) : Option GR05Req :=
  some (GR05Req.mk a0.Kind a0.Seq a0.Token a0.Attempt a0.RO a0.Key a0.Val (GApiRange.mk a0.Rng.Lo a0.Rng.Hi a0.Rng.Open))

set_option maxRecDepth 100000 in
theorem m25_l19_asked_c {a0 : GMsgReq} {r : GR05Req} (h : m25_l19_asked a0 = some r) : CallsA Try.prog 25 [.agg a0] (· = .s (.agg r)) := by
  unfold m25_l19_asked at h
  refine callsA_of Try.func25 rfl (nt := 20) rfl (Nat.le_of_ble_eq_true rfl) ?_
  intro w0 S0
  refine cseq ?_
  refine cregion ?_
  refine sbox rfl rfl ?_
  refine salloc rfl zi67 ?_
  refine snil ?_
  refine cseq ?_
  refine cregion ?_
  refine sv rfl (opv_fieldAddr_lp fi46_0 rfl) ?_
  refine sv rfl (opv_load1 ti3 rfl (.lp _ _ _ rfl) rfl) ?_
  refine sv rfl (opv_fieldAddr_lp fi46_1 rfl) ?_
  refine sv rfl (opv_load1 ti3 rfl (.lp _ _ _ rfl) rfl) ?_
  refine sv rfl (opv_fieldAddr_lp fi46_2 rfl) ?_
  refine sv rfl (opv_load1 ti3 rfl (.lp _ _ _ rfl) rfl) ?_
  refine sv rfl (opv_fieldAddr_lp fi46_3 rfl) ?_
  refine sv rfl (opv_load1 ti3 rfl (.lp _ _ _ rfl) rfl) ?_
  refine sv rfl (opv_fieldAddr_lp fi46_4 rfl) ?_
  refine sv rfl (opv_load1 ti4 rfl (.lp _ _ _ rfl) rfl) ?_
  refine sv rfl (opv_fieldAddr_lp fi46_5 rfl) ?_
  refine sv rfl (opv_load1 ti42 rfl (.lp _ _ _ rfl) rfl) ?_
  refine sv rfl (opv_fieldAddr_lp fi46_6 rfl) ?_
  refine sv rfl (opv_load1 ti42 rfl (.lp _ _ _ rfl) rfl) ?_
  refine sv rfl (opv_fieldAddr_lp fi46_7 rfl) ?_
  refine sv rfl (opv_loadN ti44 rfl (.lp _ _ _ rfl) (Nat.le_of_ble_eq_true rfl)) ?_
  refine sv rfl (opv_build zi67 pi67 (parts_cons rfl (parts_cons rfl (parts_cons rfl (parts_cons rfl (parts_cons rfl (parts_cons rfl (parts_cons rfl (parts_cons rfl parts_nil)))))))) (bcons [.i .i64 a0.Kind, .i .i64 0, .i .i64 0, .i .i64 0, .b false, .raw (.slice none 0 0), .raw (.slice none 0 0), .raw (.slice none 0 0), .raw (.slice none 0 0), .b false] rfl rfl (Nat.le_of_ble_eq_true rfl) rfl (bcons [.i .i64 a0.Kind, .i .i64 a0.Seq, .i .i64 0, .i .i64 0, .b false, .raw (.slice none 0 0), .raw (.slice none 0 0), .raw (.slice none 0 0), .raw (.slice none 0 0), .b false] rfl rfl (Nat.le_of_ble_eq_true rfl) rfl (bcons [.i .i64 a0.Kind, .i .i64 a0.Seq, .i .i64 a0.Token, .i .i64 0, .b false, .raw (.slice none 0 0), .raw (.slice none 0 0), .raw (.slice none 0 0), .raw (.slice none 0 0), .b false] rfl rfl (Nat.le_of_ble_eq_true rfl) rfl (bcons [.i .i64 a0.Kind, .i .i64 a0.Seq, .i .i64 a0.Token, .i .i64 a0.Attempt, .b false, .raw (.slice none 0 0), .raw (.slice none 0 0), .raw (.slice none 0 0), .raw (.slice none 0 0), .b false] rfl rfl (Nat.le_of_ble_eq_true rfl) rfl (bcons [.i .i64 a0.Kind, .i .i64 a0.Seq, .i .i64 a0.Token, .i .i64 a0.Attempt, .b a0.RO, .raw (.slice none 0 0), .raw (.slice none 0 0), .raw (.slice none 0 0), .raw (.slice none 0 0), .b false] rfl rfl (Nat.le_of_ble_eq_true rfl) rfl (bcons [.i .i64 a0.Kind, .i .i64 a0.Seq, .i .i64 a0.Token, .i .i64 a0.Attempt, .b a0.RO, .sl a0.Key.length (a0.Key.flatMap eU8), .raw (.slice none 0 0), .raw (.slice none 0 0), .raw (.slice none 0 0), .b false] rfl rfl (Nat.le_of_ble_eq_true rfl) rfl (bcons [.i .i64 a0.Kind, .i .i64 a0.Seq, .i .i64 a0.Token, .i .i64 a0.Attempt, .b a0.RO, .sl a0.Key.length (a0.Key.flatMap eU8), .sl a0.Val.length (a0.Val.flatMap eU8), .raw (.slice none 0 0), .raw (.slice none 0 0), .b false] rfl rfl (Nat.le_of_ble_eq_true rfl) rfl (bcons [.i .i64 a0.Kind, .i .i64 a0.Seq, .i .i64 a0.Token, .i .i64 a0.Attempt, .b a0.RO, .sl a0.Key.length (a0.Key.flatMap eU8), .sl a0.Val.length (a0.Val.flatMap eU8), .sl a0.Rng.Lo.length (a0.Rng.Lo.flatMap eU8), .sl a0.Rng.Hi.length (a0.Rng.Hi.flatMap eU8), .b a0.Rng.Open] rfl rfl (Nat.le_of_ble_eq_true rfl) rfl (.nil _)))))))))) ?_
  refine sstore sz67 rfl rfl rfl rfl (Nat.le_of_ble_eq_true rfl) ?_
  refine smem [.box a0, .box a0] rfl ?_
  refine snil ?_
  refine cret ?_
  obtain rfl := Option.some.inj h
  refine ⟨Or.inr rfl, _, _, _, (resVs_cons (ResV.agg _ _ _ _ _ ti67 rfl (.lp _ _ _ rfl) (Nat.le_of_ble_eq_true rfl)) resVs_nil), (pubA_id rfl), ?_⟩
  rfl

def m24_r05_SameReq (a0 : GR05Req) (a1 : GR05Req) : Option Bool :=
  if (decide (a0.Kind = a1.Kind)) then (if (decide (a0.Seq = a1.Seq)) then (if (decide (a0.Token = a1.Token)) then (if (decide (a0.Attempt = a1.Attempt)) then (if (a0.RO == a1.RO) then (if (a0.Key == a1.Key) then (if (a0.Val == a1.Val) then (if (a0.Rng.Lo == a1.Rng.Lo) then (if (a0.Rng.Hi == a1.Rng.Hi) then (some (a0.Rng.Open == a1.Rng.Open)) else (some false)) else (some false)) else (some false)) else (some false)) else (some false)) else (some false)) else (some false)) else (some false)) else (some false)

set_option maxRecDepth 100000 in
theorem m24_r05_SameReq_c {a0 : GR05Req} {a1 : GR05Req} {r : Bool} (h : m24_r05_SameReq a0 a1 = some r) : CallsA Try.prog 24 [.agg a0, .agg a1] (· = .s (.one (.b r))) := by
  unfold m24_r05_SameReq at h
  refine callsA_of Try.func24 rfl (nt := 87) rfl (Nat.le_of_ble_eq_true rfl) ?_
  intro w0 S0
  refine cseq ?_
  refine cregion ?_
  refine sbox rfl rfl ?_
  refine sbox rfl rfl ?_
  refine sv rfl (opv_as rfl) ?_
  refine snil ?_
  refine cseq ?_
  refine cregion ?_
  refine sv rfl (opv_fieldAddr_lp fi67_0 rfl) ?_
  refine sv rfl (opv_load1 ti3 rfl (.lp _ _ _ rfl) rfl) ?_
  refine sv rfl (opv_fieldAddr_lp fi67_0 rfl) ?_
  refine sv rfl (opv_load1 ti3 rfl (.lp _ _ _ rfl) rfl) ?_
  refine sv rfl (opv_ieql rfl rfl) ?_
  refine sv rfl (opv_mv rfl) ?_
  refine ssplit 10 rfl (fun hc => ?_) (fun hc => ?_)
  · replace h := ite_t hc h
    clear hc
    refine son rfl rfl rfl ?_
    refine sv rfl (opv_fieldAddr_lp fi67_1 rfl) ?_
    refine son rfl rfl rfl ?_
    refine sv rfl (opv_load1 ti3 rfl (.lp _ _ _ rfl) rfl) ?_
    refine son rfl rfl rfl ?_
    refine sv rfl (opv_fieldAddr_lp fi67_1 rfl) ?_
    refine son rfl rfl rfl ?_
    refine sv rfl (opv_load1 ti3 rfl (.lp _ _ _ rfl) rfl) ?_
    refine son rfl rfl rfl ?_
    refine sv rfl (opv_ieql rfl rfl) ?_
    refine sv rfl (opv_pick_t rfl rfl) ?_
    refine sv rfl (opv_mv rfl) ?_
    refine ssplit 17 rfl (fun hc => ?_) (fun hc => ?_)
    · replace h := ite_t hc h
      clear hc
      refine son rfl rfl rfl ?_
      refine sv rfl (opv_fieldAddr_lp fi67_2 rfl) ?_
      refine son rfl rfl rfl ?_
      refine sv rfl (opv_load1 ti3 rfl (.lp _ _ _ rfl) rfl) ?_
      refine son rfl rfl rfl ?_
      refine sv rfl (opv_fieldAddr_lp fi67_2 rfl) ?_
      refine son rfl rfl rfl ?_
      refine sv rfl (opv_load1 ti3 rfl (.lp _ _ _ rfl) rfl) ?_
      refine son rfl rfl rfl ?_
      refine sv rfl (opv_ieql rfl rfl) ?_
      refine sv rfl (opv_pick_t rfl rfl) ?_
      refine sv rfl (opv_mv rfl) ?_
      refine ssplit 24 rfl (fun hc => ?_) (fun hc => ?_)
      · replace h := ite_t hc h
        clear hc
        refine son rfl rfl rfl ?_
        refine sv rfl (opv_fieldAddr_lp fi67_3 rfl) ?_
        refine son rfl rfl rfl ?_
        refine sv rfl (opv_load1 ti3 rfl (.lp _ _ _ rfl) rfl) ?_
        refine son rfl rfl rfl ?_
        refine sv rfl (opv_fieldAddr_lp fi67_3 rfl) ?_
        refine son rfl rfl rfl ?_
        refine sv rfl (opv_load1 ti3 rfl (.lp _ _ _ rfl) rfl) ?_
        refine son rfl rfl rfl ?_
        refine sv rfl (opv_ieql rfl rfl) ?_
        refine sv rfl (opv_pick_t rfl rfl) ?_
        refine sv rfl (opv_mv rfl) ?_
        refine ssplit 31 rfl (fun hc => ?_) (fun hc => ?_)
        · replace h := ite_t hc h
          clear hc
          refine son rfl rfl rfl ?_
          refine sv rfl (opv_fieldAddr_lp fi67_4 rfl) ?_
          refine son rfl rfl rfl ?_
          refine sv rfl (opv_load1 ti4 rfl (.lp _ _ _ rfl) rfl) ?_
          refine son rfl rfl rfl ?_
          refine sv rfl (opv_fieldAddr_lp fi67_4 rfl) ?_
          refine son rfl rfl rfl ?_
          refine sv rfl (opv_load1 ti4 rfl (.lp _ _ _ rfl) rfl) ?_
          refine son rfl rfl rfl ?_
          refine sv rfl (opv_beql Try.underlying4 rfl rfl) ?_
          refine sv rfl (opv_pick_t rfl rfl) ?_
          refine sv rfl (opv_mv rfl) ?_
          refine ssplit 38 rfl (fun hc => ?_) (fun hc => ?_)
          · replace h := ite_t hc h
            clear hc
            refine son rfl rfl rfl ?_
            refine sv rfl (opv_fieldAddr_lp fi67_5 rfl) ?_
            refine son rfl rfl rfl ?_
            refine sv rfl (opv_load1 ti42 rfl (.lp _ _ _ rfl) rfl) ?_
            refine son rfl rfl rfl ?_
            refine sv rfl (opv_bs (l := a0.Key) Try.underlying42 Try.underlying5 Try.underlying9 rfl rfl rfl) ?_
            refine son rfl rfl rfl ?_
            refine sv rfl (opv_fieldAddr_lp fi67_5 rfl) ?_
            refine son rfl rfl rfl ?_
            refine sv rfl (opv_load1 ti42 rfl (.lp _ _ _ rfl) rfl) ?_
            refine son rfl rfl rfl ?_
            refine sv rfl (opv_bs (l := a1.Key) Try.underlying42 Try.underlying5 Try.underlying9 rfl rfl rfl) ?_
            refine son rfl rfl rfl ?_
            refine sv rfl (opv_seql' rfl rfl) ?_
            refine sv rfl (opv_pick_t rfl rfl) ?_
            refine sv rfl (opv_mv rfl) ?_
            refine ssplit 47 rfl (fun hc => ?_) (fun hc => ?_)
            · replace h := ite_t hc h
              clear hc
              refine son rfl rfl rfl ?_
              refine sv rfl (opv_fieldAddr_lp fi67_6 rfl) ?_
              refine son rfl rfl rfl ?_
              refine sv rfl (opv_load1 ti42 rfl (.lp _ _ _ rfl) rfl) ?_
              refine son rfl rfl rfl ?_
              refine sv rfl (opv_bs (l := a0.Val) Try.underlying42 Try.underlying5 Try.underlying9 rfl rfl rfl) ?_
              refine son rfl rfl rfl ?_
              refine sv rfl (opv_fieldAddr_lp fi67_6 rfl) ?_
              refine son rfl rfl rfl ?_
              refine sv rfl (opv_load1 ti42 rfl (.lp _ _ _ rfl) rfl) ?_
              refine son rfl rfl rfl ?_
              refine sv rfl (opv_bs (l := a1.Val) Try.underlying42 Try.underlying5 Try.underlying9 rfl rfl rfl) ?_
              refine son rfl rfl rfl ?_
              refine sv rfl (opv_seql' rfl rfl) ?_
              refine sv rfl (opv_pick_t rfl rfl) ?_
              refine sv rfl (opv_mv rfl) ?_
              refine ssplit 56 rfl (fun hc => ?_) (fun hc => ?_)
              · replace h := ite_t hc h
                clear hc
                refine son rfl rfl rfl ?_
                refine sv rfl (opv_fieldAddr_lp fi67_7 rfl) ?_
                refine son rfl rfl rfl ?_
                refine sv rfl (opv_fieldAddr_lp fi44_0 rfl) ?_
                refine son rfl rfl rfl ?_
                refine sv rfl (opv_load1 ti42 rfl (.lp _ _ _ rfl) rfl) ?_
                refine son rfl rfl rfl ?_
                refine sv rfl (opv_bs (l := a0.Rng.Lo) Try.underlying42 Try.underlying5 Try.underlying9 rfl rfl rfl) ?_
                refine son rfl rfl rfl ?_
                refine sv rfl (opv_fieldAddr_lp fi67_7 rfl) ?_
                refine son rfl rfl rfl ?_
                refine sv rfl (opv_fieldAddr_lp fi44_0 rfl) ?_
                refine son rfl rfl rfl ?_
                refine sv rfl (opv_load1 ti42 rfl (.lp _ _ _ rfl) rfl) ?_
                refine son rfl rfl rfl ?_
                refine sv rfl (opv_bs (l := a1.Rng.Lo) Try.underlying42 Try.underlying5 Try.underlying9 rfl rfl rfl) ?_
                refine son rfl rfl rfl ?_
                refine sv rfl (opv_seql' rfl rfl) ?_
                refine sv rfl (opv_pick_t rfl rfl) ?_
                refine sv rfl (opv_mv rfl) ?_
                refine ssplit 67 rfl (fun hc => ?_) (fun hc => ?_)
                · replace h := ite_t hc h
                  clear hc
                  refine son rfl rfl rfl ?_
                  refine sv rfl (opv_fieldAddr_lp fi67_7 rfl) ?_
                  refine son rfl rfl rfl ?_
                  refine sv rfl (opv_fieldAddr_lp fi44_1 rfl) ?_
                  refine son rfl rfl rfl ?_
                  refine sv rfl (opv_load1 ti42 rfl (.lp _ _ _ rfl) rfl) ?_
                  refine son rfl rfl rfl ?_
                  refine sv rfl (opv_bs (l := a0.Rng.Hi) Try.underlying42 Try.underlying5 Try.underlying9 rfl rfl rfl) ?_
                  refine son rfl rfl rfl ?_
                  refine sv rfl (opv_fieldAddr_lp fi67_7 rfl) ?_
                  refine son rfl rfl rfl ?_
                  refine sv rfl (opv_fieldAddr_lp fi44_1 rfl) ?_
                  refine son rfl rfl rfl ?_
                  refine sv rfl (opv_load1 ti42 rfl (.lp _ _ _ rfl) rfl) ?_
                  refine son rfl rfl rfl ?_
                  refine sv rfl (opv_bs (l := a1.Rng.Hi) Try.underlying42 Try.underlying5 Try.underlying9 rfl rfl rfl) ?_
                  refine son rfl rfl rfl ?_
                  refine sv rfl (opv_seql' rfl rfl) ?_
                  refine sv rfl (opv_pick_t rfl rfl) ?_
                  refine sv rfl (opv_mv rfl) ?_
                  refine ssplit 78 rfl (fun hc => ?_) (fun hc => ?_)
                  · replace h := ite_t hc h
                    clear hc
                    refine son rfl rfl rfl ?_
                    refine sv rfl (opv_fieldAddr_lp fi67_7 rfl) ?_
                    refine son rfl rfl rfl ?_
                    refine sv rfl (opv_fieldAddr_lp fi44_2 rfl) ?_
                    refine son rfl rfl rfl ?_
                    refine sv rfl (opv_load1 ti4 rfl (.lp _ _ _ rfl) rfl) ?_
                    refine son rfl rfl rfl ?_
                    refine sv rfl (opv_fieldAddr_lp fi67_7 rfl) ?_
                    refine son rfl rfl rfl ?_
                    refine sv rfl (opv_fieldAddr_lp fi44_2 rfl) ?_
                    refine son rfl rfl rfl ?_
                    refine sv rfl (opv_load1 ti4 rfl (.lp _ _ _ rfl) rfl) ?_
                    refine son rfl rfl rfl ?_
                    refine sv rfl (opv_beql Try.underlying4 rfl rfl) ?_
                    refine sv rfl (opv_pick_t rfl rfl) ?_
                    refine sv rfl (opv_as rfl) ?_
                    refine snil ?_
                    refine cret ?_
                    obtain rfl := Option.some.inj h
                    refine ⟨Or.inr rfl, _, _, _, (resVs_cons (ResV.tmp _ _ rfl) resVs_nil), (pubA_id rfl), ?_⟩
                    rfl
                  · replace h := ite_f hc h
                    clear hc
                    refine soff rfl rfl rfl rfl ?_
                    refine soff rfl rfl rfl rfl ?_
                    refine soff rfl rfl rfl rfl ?_
                    refine soff rfl rfl rfl rfl ?_
                    refine soff rfl rfl rfl rfl ?_
                    refine soff rfl rfl rfl rfl ?_
                    refine soff rfl rfl rfl rfl ?_
                    refine sv rfl (opv_pick_f rfl rfl) ?_
                    refine sv rfl (opv_as rfl) ?_
                    refine snil ?_
                    refine cret ?_
                    obtain rfl := Option.some.inj h
                    refine ⟨Or.inr rfl, _, _, _, (resVs_cons (ResV.tmp _ _ rfl) resVs_nil), (pubA_id rfl), ?_⟩
                    rfl
                · replace h := ite_f hc h
                  clear hc
                  refine soff rfl rfl rfl rfl ?_
                  refine soff rfl rfl rfl rfl ?_
                  refine soff rfl rfl rfl rfl ?_
                  refine soff rfl rfl rfl rfl ?_
                  refine soff rfl rfl rfl rfl ?_
                  refine soff rfl rfl rfl rfl ?_
                  refine soff rfl rfl rfl rfl ?_
                  refine soff rfl rfl rfl rfl ?_
                  refine soff rfl rfl rfl rfl ?_
                  refine sv rfl (opv_pick_f rfl rfl) ?_
                  refine sv rfl (opv_mv rfl) ?_
                  refine soff rfl rfl rfl rfl ?_
                  refine soff rfl rfl rfl rfl ?_
                  refine soff rfl rfl rfl rfl ?_
                  refine soff rfl rfl rfl rfl ?_
                  refine soff rfl rfl rfl rfl ?_
                  refine soff rfl rfl rfl rfl ?_
                  refine soff rfl rfl rfl rfl ?_
                  refine sv rfl (opv_pick_f rfl rfl) ?_
                  refine sv rfl (opv_as rfl) ?_
                  refine snil ?_
                  refine cret ?_
                  obtain rfl := Option.some.inj h
                  refine ⟨Or.inr rfl, _, _, _, (resVs_cons (ResV.tmp _ _ rfl) resVs_nil), (pubA_id rfl), ?_⟩
                  rfl
              · replace h := ite_f hc h
                clear hc
                refine soff rfl rfl rfl rfl ?_
                refine soff rfl rfl rfl rfl ?_
                refine soff rfl rfl rfl rfl ?_
                refine soff rfl rfl rfl rfl ?_
                refine soff rfl rfl rfl rfl ?_
                refine soff rfl rfl rfl rfl ?_
                refine soff rfl rfl rfl rfl ?_
                refine soff rfl rfl rfl rfl ?_
                refine soff rfl rfl rfl rfl ?_
                refine sv rfl (opv_pick_f rfl rfl) ?_
                refine sv rfl (opv_mv rfl) ?_
                refine soff rfl rfl rfl rfl ?_
                refine soff rfl rfl rfl rfl ?_
                refine soff rfl rfl rfl rfl ?_
                refine soff rfl rfl rfl rfl ?_
                refine soff rfl rfl rfl rfl ?_
                refine soff rfl rfl rfl rfl ?_
                refine soff rfl rfl rfl rfl ?_
                refine soff rfl rfl rfl rfl ?_
                refine soff rfl rfl rfl rfl ?_
                refine sv rfl (opv_pick_f rfl rfl) ?_
                refine sv rfl (opv_mv rfl) ?_
                refine soff rfl rfl rfl rfl ?_
                refine soff rfl rfl rfl rfl ?_
                refine soff rfl rfl rfl rfl ?_
                refine soff rfl rfl rfl rfl ?_
                refine soff rfl rfl rfl rfl ?_
                refine soff rfl rfl rfl rfl ?_
                refine soff rfl rfl rfl rfl ?_
                refine sv rfl (opv_pick_f rfl rfl) ?_
                refine sv rfl (opv_as rfl) ?_
                refine snil ?_
                refine cret ?_
                obtain rfl := Option.some.inj h
                refine ⟨Or.inr rfl, _, _, _, (resVs_cons (ResV.tmp _ _ rfl) resVs_nil), (pubA_id rfl), ?_⟩
                rfl
            · replace h := ite_f hc h
              clear hc
              refine soff rfl rfl rfl rfl ?_
              refine soff rfl rfl rfl rfl ?_
              refine soff rfl rfl rfl rfl ?_
              refine soff rfl rfl rfl rfl ?_
              refine soff rfl rfl rfl rfl ?_
              refine soff rfl rfl rfl rfl ?_
              refine soff rfl rfl rfl rfl ?_
              refine sv rfl (opv_pick_f rfl rfl) ?_
              refine sv rfl (opv_mv rfl) ?_
              refine soff rfl rfl rfl rfl ?_
              refine soff rfl rfl rfl rfl ?_
              refine soff rfl rfl rfl rfl ?_
              refine soff rfl rfl rfl rfl ?_
              refine soff rfl rfl rfl rfl ?_
              refine soff rfl rfl rfl rfl ?_
              refine soff rfl rfl rfl rfl ?_
              refine soff rfl rfl rfl rfl ?_
              refine soff rfl rfl rfl rfl ?_
              refine sv rfl (opv_pick_f rfl rfl) ?_
              refine sv rfl (opv_mv rfl) ?_
              refine soff rfl rfl rfl rfl ?_
              refine soff rfl rfl rfl rfl ?_
              refine soff rfl rfl rfl rfl ?_
              refine soff rfl rfl rfl rfl ?_
              refine soff rfl rfl rfl rfl ?_
              refine soff rfl rfl rfl rfl ?_
              refine soff rfl rfl rfl rfl ?_
              refine soff rfl rfl rfl rfl ?_
              refine soff rfl rfl rfl rfl ?_
              refine sv rfl (opv_pick_f rfl rfl) ?_
              refine sv rfl (opv_mv rfl) ?_
              refine soff rfl rfl rfl rfl ?_
              refine soff rfl rfl rfl rfl ?_
              refine soff rfl rfl rfl rfl ?_
              refine soff rfl rfl rfl rfl ?_
              refine soff rfl rfl rfl rfl ?_
              refine soff rfl rfl rfl rfl ?_
              refine soff rfl rfl rfl rfl ?_
              refine sv rfl (opv_pick_f rfl rfl) ?_
              refine sv rfl (opv_as rfl) ?_
              refine snil ?_
              refine cret ?_
              obtain rfl := Option.some.inj h
              refine ⟨Or.inr rfl, _, _, _, (resVs_cons (ResV.tmp _ _ rfl) resVs_nil), (pubA_id rfl), ?_⟩
              rfl
          · replace h := ite_f hc h
            clear hc
            refine soff rfl rfl rfl rfl ?_
            refine soff rfl rfl rfl rfl ?_
            refine soff rfl rfl rfl rfl ?_
            refine soff rfl rfl rfl rfl ?_
            refine soff rfl rfl rfl rfl ?_
            refine soff rfl rfl rfl rfl ?_
            refine soff rfl rfl rfl rfl ?_
            refine sv rfl (opv_pick_f rfl rfl) ?_
            refine sv rfl (opv_mv rfl) ?_
            refine soff rfl rfl rfl rfl ?_
            refine soff rfl rfl rfl rfl ?_
            refine soff rfl rfl rfl rfl ?_
            refine soff rfl rfl rfl rfl ?_
            refine soff rfl rfl rfl rfl ?_
            refine soff rfl rfl rfl rfl ?_
            refine soff rfl rfl rfl rfl ?_
            refine sv rfl (opv_pick_f rfl rfl) ?_
            refine sv rfl (opv_mv rfl) ?_
            refine soff rfl rfl rfl rfl ?_
            refine soff rfl rfl rfl rfl ?_
            refine soff rfl rfl rfl rfl ?_
            refine soff rfl rfl rfl rfl ?_
            refine soff rfl rfl rfl rfl ?_
            refine soff rfl rfl rfl rfl ?_
            refine soff rfl rfl rfl rfl ?_
            refine soff rfl rfl rfl rfl ?_
            refine soff rfl rfl rfl rfl ?_
            refine sv rfl (opv_pick_f rfl rfl) ?_
            refine sv rfl (opv_mv rfl) ?_
            refine soff rfl rfl rfl rfl ?_
            refine soff rfl rfl rfl rfl ?_
            refine soff rfl rfl rfl rfl ?_
            refine soff rfl rfl rfl rfl ?_
            refine soff rfl rfl rfl rfl ?_
            refine soff rfl rfl rfl rfl ?_
            refine soff rfl rfl rfl rfl ?_
            refine soff rfl rfl rfl rfl ?_
            refine soff rfl rfl rfl rfl ?_
            refine sv rfl (opv_pick_f rfl rfl) ?_
            refine sv rfl (opv_mv rfl) ?_
            refine soff rfl rfl rfl rfl ?_
            refine soff rfl rfl rfl rfl ?_
            refine soff rfl rfl rfl rfl ?_
            refine soff rfl rfl rfl rfl ?_
            refine soff rfl rfl rfl rfl ?_
            refine soff rfl rfl rfl rfl ?_
            refine soff rfl rfl rfl rfl ?_
            refine sv rfl (opv_pick_f rfl rfl) ?_
            refine sv rfl (opv_as rfl) ?_
            refine snil ?_
            refine cret ?_
            obtain rfl := Option.some.inj h
            refine ⟨Or.inr rfl, _, _, _, (resVs_cons (ResV.tmp _ _ rfl) resVs_nil), (pubA_id rfl), ?_⟩
            rfl
        · replace h := ite_f hc h
          clear hc
          refine soff rfl rfl rfl rfl ?_
          refine soff rfl rfl rfl rfl ?_
          refine soff rfl rfl rfl rfl ?_
          refine soff rfl rfl rfl rfl ?_
          refine soff rfl rfl rfl rfl ?_
          refine sv rfl (opv_pick_f rfl rfl) ?_
          refine sv rfl (opv_mv rfl) ?_
          refine soff rfl rfl rfl rfl ?_
          refine soff rfl rfl rfl rfl ?_
          refine soff rfl rfl rfl rfl ?_
          refine soff rfl rfl rfl rfl ?_
          refine soff rfl rfl rfl rfl ?_
          refine soff rfl rfl rfl rfl ?_
          refine soff rfl rfl rfl rfl ?_
          refine sv rfl (opv_pick_f rfl rfl) ?_
          refine sv rfl (opv_mv rfl) ?_
          refine soff rfl rfl rfl rfl ?_
          refine soff rfl rfl rfl rfl ?_
          refine soff rfl rfl rfl rfl ?_
          refine soff rfl rfl rfl rfl ?_
          refine soff rfl rfl rfl rfl ?_
          refine soff rfl rfl rfl rfl ?_
          refine soff rfl rfl rfl rfl ?_
          refine sv rfl (opv_pick_f rfl rfl) ?_
          refine sv rfl (opv_mv rfl) ?_
          refine soff rfl rfl rfl rfl ?_
          refine soff rfl rfl rfl rfl ?_
          refine soff rfl rfl rfl rfl ?_
          refine soff rfl rfl rfl rfl ?_
          refine soff rfl rfl rfl rfl ?_
          refine soff rfl rfl rfl rfl ?_
          refine soff rfl rfl rfl rfl ?_
          refine soff rfl rfl rfl rfl ?_
          refine soff rfl rfl rfl rfl ?_
          refine sv rfl (opv_pick_f rfl rfl) ?_
          refine sv rfl (opv_mv rfl) ?_
          refine soff rfl rfl rfl rfl ?_
          refine soff rfl rfl rfl rfl ?_
          refine soff rfl rfl rfl rfl ?_
          refine soff rfl rfl rfl rfl ?_
          refine soff rfl rfl rfl rfl ?_
          refine soff rfl rfl rfl rfl ?_
          refine soff rfl rfl rfl rfl ?_
          refine soff rfl rfl rfl rfl ?_
          refine soff rfl rfl rfl rfl ?_
          refine sv rfl (opv_pick_f rfl rfl) ?_
          refine sv rfl (opv_mv rfl) ?_
          refine soff rfl rfl rfl rfl ?_
          refine soff rfl rfl rfl rfl ?_
          refine soff rfl rfl rfl rfl ?_
          refine soff rfl rfl rfl rfl ?_
          refine soff rfl rfl rfl rfl ?_
          refine soff rfl rfl rfl rfl ?_
          refine soff rfl rfl rfl rfl ?_
          refine sv rfl (opv_pick_f rfl rfl) ?_
          refine sv rfl (opv_as rfl) ?_
          refine snil ?_
          refine cret ?_
          obtain rfl := Option.some.inj h
          refine ⟨Or.inr rfl, _, _, _, (resVs_cons (ResV.tmp _ _ rfl) resVs_nil), (pubA_id rfl), ?_⟩
          rfl
      · replace h := ite_f hc h
        clear hc
        refine soff rfl rfl rfl rfl ?_
        refine soff rfl rfl rfl rfl ?_
        refine soff rfl rfl rfl rfl ?_
        refine soff rfl rfl rfl rfl ?_
        refine soff rfl rfl rfl rfl ?_
        refine sv rfl (opv_pick_f rfl rfl) ?_
        refine sv rfl (opv_mv rfl) ?_
        refine soff rfl rfl rfl rfl ?_
        refine soff rfl rfl rfl rfl ?_
        refine soff rfl rfl rfl rfl ?_
        refine soff rfl rfl rfl rfl ?_
        refine soff rfl rfl rfl rfl ?_
        refine sv rfl (opv_pick_f rfl rfl) ?_
        refine sv rfl (opv_mv rfl) ?_
        refine soff rfl rfl rfl rfl ?_
        refine soff rfl rfl rfl rfl ?_
        refine soff rfl rfl rfl rfl ?_
        refine soff rfl rfl rfl rfl ?_
        refine soff rfl rfl rfl rfl ?_
        refine soff rfl rfl rfl rfl ?_
        refine soff rfl rfl rfl rfl ?_
        refine sv rfl (opv_pick_f rfl rfl) ?_
        refine sv rfl (opv_mv rfl) ?_
        refine soff rfl rfl rfl rfl ?_
        refine soff rfl rfl rfl rfl ?_
        refine soff rfl rfl rfl rfl ?_
        refine soff rfl rfl rfl rfl ?_
        refine soff rfl rfl rfl rfl ?_
        refine soff rfl rfl rfl rfl ?_
        refine soff rfl rfl rfl rfl ?_
        refine sv rfl (opv_pick_f rfl rfl) ?_
        refine sv rfl (opv_mv rfl) ?_
        refine soff rfl rfl rfl rfl ?_
        refine soff rfl rfl rfl rfl ?_
        refine soff rfl rfl rfl rfl ?_
        refine soff rfl rfl rfl rfl ?_
        refine soff rfl rfl rfl rfl ?_
        refine soff rfl rfl rfl rfl ?_
        refine soff rfl rfl rfl rfl ?_
        refine soff rfl rfl rfl rfl ?_
        refine soff rfl rfl rfl rfl ?_
        refine sv rfl (opv_pick_f rfl rfl) ?_
        refine sv rfl (opv_mv rfl) ?_
        refine soff rfl rfl rfl rfl ?_
        refine soff rfl rfl rfl rfl ?_
        refine soff rfl rfl rfl rfl ?_
        refine soff rfl rfl rfl rfl ?_
        refine soff rfl rfl rfl rfl ?_
        refine soff rfl rfl rfl rfl ?_
        refine soff rfl rfl rfl rfl ?_
        refine soff rfl rfl rfl rfl ?_
        refine soff rfl rfl rfl rfl ?_
        refine sv rfl (opv_pick_f rfl rfl) ?_
        refine sv rfl (opv_mv rfl) ?_
        refine soff rfl rfl rfl rfl ?_
        refine soff rfl rfl rfl rfl ?_
        refine soff rfl rfl rfl rfl ?_
        refine soff rfl rfl rfl rfl ?_
        refine soff rfl rfl rfl rfl ?_
        refine soff rfl rfl rfl rfl ?_
        refine soff rfl rfl rfl rfl ?_
        refine sv rfl (opv_pick_f rfl rfl) ?_
        refine sv rfl (opv_as rfl) ?_
        refine snil ?_
        refine cret ?_
        obtain rfl := Option.some.inj h
        refine ⟨Or.inr rfl, _, _, _, (resVs_cons (ResV.tmp _ _ rfl) resVs_nil), (pubA_id rfl), ?_⟩
        rfl
    · replace h := ite_f hc h
      clear hc
      refine soff rfl rfl rfl rfl ?_
      refine soff rfl rfl rfl rfl ?_
      refine soff rfl rfl rfl rfl ?_
      refine soff rfl rfl rfl rfl ?_
      refine soff rfl rfl rfl rfl ?_
      refine sv rfl (opv_pick_f rfl rfl) ?_
      refine sv rfl (opv_mv rfl) ?_
      refine soff rfl rfl rfl rfl ?_
      refine soff rfl rfl rfl rfl ?_
      refine soff rfl rfl rfl rfl ?_
      refine soff rfl rfl rfl rfl ?_
      refine soff rfl rfl rfl rfl ?_
      refine sv rfl (opv_pick_f rfl rfl) ?_
      refine sv rfl (opv_mv rfl) ?_
      refine soff rfl rfl rfl rfl ?_
      refine soff rfl rfl rfl rfl ?_
      refine soff rfl rfl rfl rfl ?_
      refine soff rfl rfl rfl rfl ?_
      refine soff rfl rfl rfl rfl ?_
      refine sv rfl (opv_pick_f rfl rfl) ?_
      refine sv rfl (opv_mv rfl) ?_
      refine soff rfl rfl rfl rfl ?_
      refine soff rfl rfl rfl rfl ?_
      refine soff rfl rfl rfl rfl ?_
      refine soff rfl rfl rfl rfl ?_
      refine soff rfl rfl rfl rfl ?_
      refine soff rfl rfl rfl rfl ?_
      refine soff rfl rfl rfl rfl ?_
      refine sv rfl (opv_pick_f rfl rfl) ?_
      refine sv rfl (opv_mv rfl) ?_
      refine soff rfl rfl rfl rfl ?_
      refine soff rfl rfl rfl rfl ?_
      refine soff rfl rfl rfl rfl ?_
      refine soff rfl rfl rfl rfl ?_
      refine soff rfl rfl rfl rfl ?_
      refine soff rfl rfl rfl rfl ?_
      refine soff rfl rfl rfl rfl ?_
      refine sv rfl (opv_pick_f rfl rfl) ?_
      refine sv rfl (opv_mv rfl) ?_
      refine soff rfl rfl rfl rfl ?_
      refine soff rfl rfl rfl rfl ?_
      refine soff rfl rfl rfl rfl ?_
      refine soff rfl rfl rfl rfl ?_
      refine soff rfl rfl rfl rfl ?_
      refine soff rfl rfl rfl rfl ?_
      refine soff rfl rfl rfl rfl ?_
      refine soff rfl rfl rfl rfl ?_
      refine soff rfl rfl rfl rfl ?_
      refine sv rfl (opv_pick_f rfl rfl) ?_
      refine sv rfl (opv_mv rfl) ?_
      refine soff rfl rfl rfl rfl ?_
      refine soff rfl rfl rfl rfl ?_
      refine soff rfl rfl rfl rfl ?_
      refine soff rfl rfl rfl rfl ?_
      refine soff rfl rfl rfl rfl ?_
      refine soff rfl rfl rfl rfl ?_
      refine soff rfl rfl rfl rfl ?_
      refine soff rfl rfl rfl rfl ?_
      refine soff rfl rfl rfl rfl ?_
      refine sv rfl (opv_pick_f rfl rfl) ?_
      refine sv rfl (opv_mv rfl) ?_
      refine soff rfl rfl rfl rfl ?_
      refine soff rfl rfl rfl rfl ?_
      refine soff rfl rfl rfl rfl ?_
      refine soff rfl rfl rfl rfl ?_
      refine soff rfl rfl rfl rfl ?_
      refine soff rfl rfl rfl rfl ?_
      refine soff rfl rfl rfl rfl ?_
      refine sv rfl (opv_pick_f rfl rfl) ?_
      refine sv rfl (opv_as rfl) ?_
      refine snil ?_
      refine cret ?_
      obtain rfl := Option.some.inj h
      refine ⟨Or.inr rfl, _, _, _, (resVs_cons (ResV.tmp _ _ rfl) resVs_nil), (pubA_id rfl), ?_⟩
      rfl
  · replace h := ite_f hc h
    clear hc
    refine soff rfl rfl rfl rfl ?_
    refine soff rfl rfl rfl rfl ?_
    refine soff rfl rfl rfl rfl ?_
    refine soff rfl rfl rfl rfl ?_
    refine soff rfl rfl rfl rfl ?_
    refine sv rfl (opv_pick_f rfl rfl) ?_
    refine sv rfl (opv_mv rfl) ?_
    refine soff rfl rfl rfl rfl ?_
    refine soff rfl rfl rfl rfl ?_
    refine soff rfl rfl rfl rfl ?_
    refine soff rfl rfl rfl rfl ?_
    refine soff rfl rfl rfl rfl ?_
    refine sv rfl (opv_pick_f rfl rfl) ?_
    refine sv rfl (opv_mv rfl) ?_
    refine soff rfl rfl rfl rfl ?_
    refine soff rfl rfl rfl rfl ?_
    refine soff rfl rfl rfl rfl ?_
    refine soff rfl rfl rfl rfl ?_
    refine soff rfl rfl rfl rfl ?_
    refine sv rfl (opv_pick_f rfl rfl) ?_
    refine sv rfl (opv_mv rfl) ?_
    refine soff rfl rfl rfl rfl ?_
    refine soff rfl rfl rfl rfl ?_
    refine soff rfl rfl rfl rfl ?_
    refine soff rfl rfl rfl rfl ?_
    refine soff rfl rfl rfl rfl ?_
    refine sv rfl (opv_pick_f rfl rfl) ?_
    refine sv rfl (opv_mv rfl) ?_
    refine soff rfl rfl rfl rfl ?_
    refine soff rfl rfl rfl rfl ?_
    refine soff rfl rfl rfl rfl ?_
    refine soff rfl rfl rfl rfl ?_
    refine soff rfl rfl rfl rfl ?_
    refine soff rfl rfl rfl rfl ?_
    refine soff rfl rfl rfl rfl ?_
    refine sv rfl (opv_pick_f rfl rfl) ?_
    refine sv rfl (opv_mv rfl) ?_
    refine soff rfl rfl rfl rfl ?_
    refine soff rfl rfl rfl rfl ?_
    refine soff rfl rfl rfl rfl ?_
    refine soff rfl rfl rfl rfl ?_
    refine soff rfl rfl rfl rfl ?_
    refine soff rfl rfl rfl rfl ?_
    refine soff rfl rfl rfl rfl ?_
    refine sv rfl (opv_pick_f rfl rfl) ?_
    refine sv rfl (opv_mv rfl) ?_
    refine soff rfl rfl rfl rfl ?_
    refine soff rfl rfl rfl rfl ?_
    refine soff rfl rfl rfl rfl ?_
    refine soff rfl rfl rfl rfl ?_
    refine soff rfl rfl rfl rfl ?_
    refine soff rfl rfl rfl rfl ?_
    refine soff rfl rfl rfl rfl ?_
    refine soff rfl rfl rfl rfl ?_
    refine soff rfl rfl rfl rfl ?_
    refine sv rfl (opv_pick_f rfl rfl) ?_
    refine sv rfl (opv_mv rfl) ?_
    refine soff rfl rfl rfl rfl ?_
    refine soff rfl rfl rfl rfl ?_
    refine soff rfl rfl rfl rfl ?_
    refine soff rfl rfl rfl rfl ?_
    refine soff rfl rfl rfl rfl ?_
    refine soff rfl rfl rfl rfl ?_
    refine soff rfl rfl rfl rfl ?_
    refine soff rfl rfl rfl rfl ?_
    refine soff rfl rfl rfl rfl ?_
    refine sv rfl (opv_pick_f rfl rfl) ?_
    refine sv rfl (opv_mv rfl) ?_
    refine soff rfl rfl rfl rfl ?_
    refine soff rfl rfl rfl rfl ?_
    refine soff rfl rfl rfl rfl ?_
    refine soff rfl rfl rfl rfl ?_
    refine soff rfl rfl rfl rfl ?_
    refine soff rfl rfl rfl rfl ?_
    refine soff rfl rfl rfl rfl ?_
    refine sv rfl (opv_pick_f rfl rfl) ?_
    refine sv rfl (opv_as rfl) ?_
    refine snil ?_
    refine cret ?_
    obtain rfl := Option.some.inj h
    refine ⟨Or.inr rfl, _, _, _, (resVs_cons (ResV.tmp _ _ rfl) resVs_nil), (pubA_id rfl), ?_⟩
    rfl

def m7_l19_ProgStops_k6 (a0 : GR19Prog) (a1 : GR19State) (v1 : Bool) (v3 : GProgProg) (v5 : GMsgReq × GProgState × Bool) (b6 : Unit) : Option Bool :=
  if v5.2.2 then (if v1 then (if (decide (0 ≤ v5.2.1.PC)) then (if (decide (v5.2.1.PC < (a0.Ops.length : Int))) then ((idx a0.Ops v5.2.1.PC).bind fun u7 => if (decide (u7.What ≤ 4)) then (if (!a1.Stopped) then (if (decide (a1.PC ≤ v5.2.1.PC)) then ((idx a0.Ops v5.2.1.PC).bind fun u8 => some (decide (v5.1.Kind = (wI (u8.What + 2))))) else (some false)) else (some false)) else (some false)) else (some false)) else (some false)) else (some false)) else ((m18_prog_Next v3 (GProgState.mk v5.2.1.PC (GAnon33.mk v5.2.1.Regs.R0 v5.2.1.Regs.R1 v5.2.1.Regs.R2 v5.2.1.Regs.R3 v5.2.1.Regs.R4 v5.2.1.Regs.R5 v5.2.1.Regs.R6 v5.2.1.Regs.R7) v5.2.1.Stopped)).bind fun v9 => if v1 then (if (!v9.2.2) then ((m17_l19_stated (GProgState.mk v9.2.1.PC (GAnon33.mk v9.2.1.Regs.R0 v9.2.1.Regs.R1 v9.2.1.Regs.R2 v9.2.1.Regs.R3 v9.2.1.Regs.R4 v9.2.1.Regs.R5 v9.2.1.Regs.R6 v9.2.1.Regs.R7) v9.2.1.Stopped)).bind fun v10 => (m17_l19_stated (GProgState.mk v5.2.1.PC (GAnon33.mk v5.2.1.Regs.R0 v5.2.1.Regs.R1 v5.2.1.Regs.R2 v5.2.1.Regs.R3 v5.2.1.Regs.R4 v5.2.1.Regs.R5 v5.2.1.Regs.R6 v5.2.1.Regs.R7) v5.2.1.Stopped)).bind fun v11 => if ((decide (v10.PC = v11.PC)) && ((decide (v10.Regs.R0 = v11.Regs.R0)) && ((decide (v10.Regs.R1 = v11.Regs.R1)) && ((decide (v10.Regs.R2 = v11.Regs.R2)) && ((decide (v10.Regs.R3 = v11.Regs.R3)) && ((decide (v10.Regs.R4 = v11.Regs.R4)) && ((decide (v10.Regs.R5 = v11.Regs.R5)) && ((decide (v10.Regs.R6 = v11.Regs.R6)) && ((decide (v10.Regs.R7 = v11.Regs.R7)) && ((v10.Stopped == v11.Stopped) && true)))))))))) then (if v5.2.1.Stopped then ((m25_l19_asked (GMsgReq.mk v5.1.Kind v5.1.Seq v5.1.Token v5.1.Attempt v5.1.RO v5.1.Key v5.1.Val (GApiRange.mk v5.1.Rng.Lo v5.1.Rng.Hi v5.1.Rng.Open))).bind fun v12 => (m24_r05_SameReq (GR05Req.mk v12.Kind v12.Seq v12.Token v12.Attempt v12.RO v12.Key v12.Val (GApiRange.mk v12.Rng.Lo v12.Rng.Hi v12.Rng.Open)) (GR05Req.mk 0 0 0 0 false ([] : List UInt8) ([] : List UInt8) (GApiRange.mk ([] : List UInt8) ([] : List UInt8) false))).bind fun v13 => some v13) else (if (decide (v5.2.1.PC = (a0.Ops.length : Int))) then ((m25_l19_asked (GMsgReq.mk v5.1.Kind v5.1.Seq v5.1.Token v5.1.Attempt v5.1.RO v5.1.Key v5.1.Val (GApiRange.mk v5.1.Rng.Lo v5.1.Rng.Hi v5.1.Rng.Open))).bind fun v14 => (m24_r05_SameReq (GR05Req.mk v14.Kind v14.Seq v14.Token v14.Attempt v14.RO v14.Key v14.Val (GApiRange.mk v14.Rng.Lo v14.Rng.Hi v14.Rng.Open)) (GR05Req.mk 0 0 0 0 false ([] : List UInt8) ([] : List UInt8) (GApiRange.mk ([] : List UInt8) ([] : List UInt8) false))).bind fun v15 => some v15) else (some false))) else (some false)) else (some false)) else (some false))
def m7_l19_ProgStops (a0 : GR19Prog) (a1 : GR19State) : Option Bool :=
  (m9_l19_awake).bind fun v1 => (m10_r19_Few a0).bind fun v2 => if (!v2) then (some v1) else ((m13_l19_program a0).bind fun v3 => (m21_l19_state (GR19State.mk a1.PC (GAnon33.mk a1.Regs.R0 a1.Regs.R1 a1.Regs.R2 a1.Regs.R3 a1.Regs.R4 a1.Regs.R5 a1.Regs.R6 a1.Regs.R7) a1.Stopped)).bind fun v4 => (m18_prog_Next v3 (GProgState.mk v4.PC (GAnon33.mk v4.Regs.R0 v4.Regs.R1 v4.Regs.R2 v4.Regs.R3 v4.Regs.R4 v4.Regs.R5 v4.Regs.R6 v4.Regs.R7) v4.Stopped)).bind fun v5 => (m15_prog_Sane v3).bind fun v16 => if (!v16) then (if v1 then (if (!v5.2.2) then ((m17_l19_stated (GProgState.mk v5.2.1.PC (GAnon33.mk v5.2.1.Regs.R0 v5.2.1.Regs.R1 v5.2.1.Regs.R2 v5.2.1.Regs.R3 v5.2.1.Regs.R4 v5.2.1.Regs.R5 v5.2.1.Regs.R6 v5.2.1.Regs.R7) v5.2.1.Stopped)).bind fun v17 => some ((decide (v17.PC = a1.PC)) && ((decide (v17.Regs.R0 = a1.Regs.R0)) && ((decide (v17.Regs.R1 = a1.Regs.R1)) && ((decide (v17.Regs.R2 = a1.Regs.R2)) && ((decide (v17.Regs.R3 = a1.Regs.R3)) && ((decide (v17.Regs.R4 = a1.Regs.R4)) && ((decide (v17.Regs.R5 = a1.Regs.R5)) && ((decide (v17.Regs.R6 = a1.Regs.R6)) && ((decide (v17.Regs.R7 = a1.Regs.R7)) && ((v17.Stopped == a1.Stopped) && true))))))))))) else (some false)) else (some false)) else (if (decide (a1.PC < 0)) then (if v1 then (if (!v5.2.2) then ((m17_l19_stated (GProgState.mk v5.2.1.PC (GAnon33.mk v5.2.1.Regs.R0 v5.2.1.Regs.R1 v5.2.1.Regs.R2 v5.2.1.Regs.R3 v5.2.1.Regs.R4 v5.2.1.Regs.R5 v5.2.1.Regs.R6 v5.2.1.Regs.R7) v5.2.1.Stopped)).bind fun v18 => some ((decide (v18.PC = a1.PC)) && ((decide (v18.Regs.R0 = a1.Regs.R0)) && ((decide (v18.Regs.R1 = a1.Regs.R1)) && ((decide (v18.Regs.R2 = a1.Regs.R2)) && ((decide (v18.Regs.R3 = a1.Regs.R3)) && ((decide (v18.Regs.R4 = a1.Regs.R4)) && ((decide (v18.Regs.R5 = a1.Regs.R5)) && ((decide (v18.Regs.R6 = a1.Regs.R6)) && ((decide (v18.Regs.R7 = a1.Regs.R7)) && ((v18.Stopped == a1.Stopped) && true))))))))))) else (some false)) else (some false)) else (m7_l19_ProgStops_k6 a0 a1 v1 v3 v5 ())))

set_option maxRecDepth 100000 in
theorem m7_l19_ProgStops_c {a0 : GR19Prog} {a1 : GR19State} {r : Bool} (h : m7_l19_ProgStops a0 a1 = some r) : CallsA Try.prog 7 [.agg a0, .agg a1] (· = .s (.one (.b r))) := by
  unfold m7_l19_ProgStops at h
  refine callsA_of Try.func7 rfl (nt := 134) rfl (Nat.le_of_ble_eq_true rfl) ?_
  intro w0 S0
  refine cseq ?_
  refine cregion ?_
  refine sbox rfl rfl ?_
  refine sbox rfl rfl ?_
  refine sv rfl (opv_as rfl) ?_
  refine snil ?_
  refine cseq ?_
  refine cregion ?_
  obtain ⟨v1, hv1, h⟩ := bind_eq h
  refine scall1 rfl fn9 opnds_nil (pubA_id rfl) (m9_l19_awake_c hv1) ?_
  refine sv rfl (opv_as rfl) ?_
  refine snil ?_
  refine cseq ?_
  refine cseq ?_
  refine cregion ?_
  refine sv rfl (opv_loadN ti24 rfl (.lp _ _ _ rfl) (Nat.le_of_ble_eq_true rfl)) ?_
  obtain ⟨v2, hv2, h⟩ := bind_eq h
  refine scall1 rfl fn10 (opnds_cons rfl opnds_nil) (pubA_id rfl) (m10_r19_Few_c hv2) ?_
  refine sv rfl (opv_not rfl) ?_
  refine snil ?_
  refine ccond rfl (fun hc => ?_) (fun hc => ?_)
  · replace h := ite_t hc h
    clear hc
    refine cseq ?_
    refine cregion ?_
    refine sv rfl (opv_mv rfl) ?_
    refine sv rfl (opv_as rfl) ?_
    refine snil ?_
    refine cret ?_
    refine then_ret ?_
    obtain rfl := Option.some.inj h
    refine ⟨Or.inr rfl, _, _, _, (resVs_cons (ResV.tmp _ _ rfl) resVs_nil), (pubA_id rfl), ?_⟩
    rfl
  · replace h := ite_f hc h
    clear hc
    refine cskip ?_
    refine then_normal ?_
    refine cseq ?_
    refine cregion ?_
    refine sv rfl (opv_loadN ti24 rfl (.lp _ _ _ rfl) (Nat.le_of_ble_eq_true rfl)) ?_
    obtain ⟨v3, hv3, h⟩ := bind_eq h
    refine scall1 rfl fn13 (opnds_cons rfl opnds_nil) (pubA_id rfl) (m13_l19_program_c hv3) ?_
    refine salloc rfl zi31 ?_
    refine sstore sz31 rfl rfl rfl rfl (Nat.le_of_ble_eq_true rfl) ?_
    refine smem [.box a0, .box a1, .box v3] rfl ?_
    refine snil ?_
    refine cseq ?_
    refine chole ?_
    refine chole ?_
    obtain ⟨v4, hv4, h⟩ := bind_eq h
    obtain ⟨v5, hv5, h⟩ := bind_eq h
    refine cdraw_m [8, 9, 10, 11] [0, 0, 2, 7, 15, 31, 31, 31, 0, 0, 831, 1919, 4095] [([false, false, false, false], [.box a0, .box a1, .box v3, .hole, .hole]), ([false, true, false, false], [.box a0, .box a1, .box v3, .hole, .box [.i .i64 0, .i .i64 0, .i .i64 0, .i .i64 0, .i .i64 0, .i .i64 0, .i .i64 0, .i .i64 0, .i .i64 0, .b false]]), ([true, false, false, false], [.box a0, .box a1, .box v3, .box [.i .i64 0, .i .i64 0, .i .i64 0, .i .i64 0, .b false, .raw (.slice none 0 0), .raw (.slice none 0 0), .raw (.slice none 0 0), .raw (.slice none 0 0), .b false], .hole]), ([true, true, false, false], [.box a0, .box a1, .box v3, .box [.i .i64 0, .i .i64 0, .i .i64 0, .i .i64 0, .b false, .raw (.slice none 0 0), .raw (.slice none 0 0), .raw (.slice none 0 0), .raw (.slice none 0 0), .b false], .box [.i .i64 0, .i .i64 0, .i .i64 0, .i .i64 0, .i .i64 0, .i .i64 0, .i .i64 0, .i .i64 0, .i .i64 0, .b false]]), ([true, true, true, false], [.box a0, .box a1, .box v3, .box v5.1, .box [.i .i64 0, .i .i64 0, .i .i64 0, .i .i64 0, .i .i64 0, .i .i64 0, .i .i64 0, .i .i64 0, .i .i64 0, .b false]]), ([true, true, true, true], [.box a0, .box a1, .box v3, .box v5.1, .box v5.2.1])] (by kernel_rfl) mixed (by kernel_rfl) (by decide) rfl (by kernel_rfl) rfl rfl ?_
    refine mev (md := [.box a0, .box a1, .box v3, .dead, .dead]) (alle_t rfl ⟨rfl, ⟨rfl, ⟨rfl, ⟨trivial, ⟨trivial, trivial⟩⟩⟩⟩⟩ (alle_t rfl ⟨rfl, ⟨rfl, ⟨rfl, ⟨trivial, ⟨trivial, trivial⟩⟩⟩⟩⟩ (alle_t rfl ⟨rfl, ⟨rfl, ⟨rfl, ⟨trivial, ⟨trivial, trivial⟩⟩⟩⟩⟩ (alle_t rfl ⟨rfl, ⟨rfl, ⟨rfl, ⟨trivial, ⟨trivial, trivial⟩⟩⟩⟩⟩ (alle_f rfl (alle_f rfl alle_nil)))))) rfl rfl (opv_loadN ti31 rfl (.lp _ _ _ rfl) (Nat.le_of_ble_eq_true rfl)) ?_
    refine mev (md := [.box a0, .box a1, .box v3, .dead, .dead]) (alle_t rfl ⟨rfl, ⟨rfl, ⟨rfl, ⟨trivial, ⟨trivial, trivial⟩⟩⟩⟩⟩ (alle_t rfl ⟨rfl, ⟨rfl, ⟨rfl, ⟨trivial, ⟨trivial, trivial⟩⟩⟩⟩⟩ (alle_t rfl ⟨rfl, ⟨rfl, ⟨rfl, ⟨trivial, ⟨trivial, trivial⟩⟩⟩⟩⟩ (alle_t rfl ⟨rfl, ⟨rfl, ⟨rfl, ⟨trivial, ⟨trivial, trivial⟩⟩⟩⟩⟩ (alle_f rfl (alle_f rfl alle_nil)))))) rfl rfl (opv_loadN ti40 rfl (.lp _ _ _ rfl) (Nat.le_of_ble_eq_true rfl)) ?_
    refine med (md := [.box a0, .box a1, .box v3, .dead, .dead]) (alle_t rfl ⟨rfl, ⟨rfl, ⟨rfl, ⟨trivial, ⟨trivial, trivial⟩⟩⟩⟩⟩ (alle_t rfl ⟨rfl, ⟨rfl, ⟨rfl, ⟨trivial, ⟨trivial, trivial⟩⟩⟩⟩⟩ (alle_t rfl ⟨rfl, ⟨rfl, ⟨rfl, ⟨trivial, ⟨trivial, trivial⟩⟩⟩⟩⟩ (alle_t rfl ⟨rfl, ⟨rfl, ⟨rfl, ⟨trivial, ⟨trivial, trivial⟩⟩⟩⟩⟩ (alle_f rfl (alle_f rfl alle_nil)))))) rfl rfl (opD_call fn21 (opnds_cons rfl opnds_nil) rfl (m21_l19_state_c hv4)) ?_
    refine med (md := [.box a0, .box a1, .box v3, .dead, .dead]) (alle_t rfl ⟨rfl, ⟨rfl, ⟨rfl, ⟨trivial, ⟨trivial, trivial⟩⟩⟩⟩⟩ (alle_t rfl ⟨rfl, ⟨rfl, ⟨rfl, ⟨trivial, ⟨trivial, trivial⟩⟩⟩⟩⟩ (alle_t rfl ⟨rfl, ⟨rfl, ⟨rfl, ⟨trivial, ⟨trivial, trivial⟩⟩⟩⟩⟩ (alle_t rfl ⟨rfl, ⟨rfl, ⟨rfl, ⟨trivial, ⟨trivial, trivial⟩⟩⟩⟩⟩ (alle_f rfl (alle_f rfl alle_nil)))))) rfl rfl (opD_call fn18 (opnds_cons rfl (opnds_cons rfl opnds_nil)) rfl (m18_prog_Next_c hv5)) ?_
    refine mem2 rfl rfl (fun _ => opv_mvt rfl) ?_
    refine mev (md := [.box a0, .box a1, .box v3, .dead, .dead]) (alle_t rfl ⟨rfl, ⟨rfl, ⟨rfl, ⟨trivial, ⟨trivial, trivial⟩⟩⟩⟩⟩ (alle_t rfl ⟨rfl, ⟨rfl, ⟨rfl, ⟨trivial, ⟨trivial, trivial⟩⟩⟩⟩⟩ (alle_t rfl ⟨rfl, ⟨rfl, ⟨rfl, ⟨trivial, ⟨trivial, trivial⟩⟩⟩⟩⟩ (alle_t rfl ⟨rfl, ⟨rfl, ⟨rfl, ⟨trivial, ⟨trivial, trivial⟩⟩⟩⟩⟩ (alle_f rfl (alle_f rfl alle_nil)))))) rfl rfl (opv_extract rfl rfl) ?_
    refine mev (md := [.box a0, .box a1, .box v3, .dead, .dead]) (alle_t rfl ⟨rfl, ⟨rfl, ⟨rfl, ⟨trivial, ⟨trivial, trivial⟩⟩⟩⟩⟩ (alle_t rfl ⟨rfl, ⟨rfl, ⟨rfl, ⟨trivial, ⟨trivial, trivial⟩⟩⟩⟩⟩ (alle_t rfl ⟨rfl, ⟨rfl, ⟨rfl, ⟨trivial, ⟨trivial, trivial⟩⟩⟩⟩⟩ (alle_t rfl ⟨rfl, ⟨rfl, ⟨rfl, ⟨trivial, ⟨trivial, trivial⟩⟩⟩⟩⟩ (alle_t rfl ⟨rfl, ⟨rfl, ⟨rfl, ⟨trivial, ⟨trivial, trivial⟩⟩⟩⟩⟩ (alle_f rfl alle_nil)))))) rfl rfl (opv_extract rfl rfl) ?_
    refine mev (md := [.box a0, .box a1, .box v3, .dead, .dead]) (alle_t rfl ⟨rfl, ⟨rfl, ⟨rfl, ⟨trivial, ⟨trivial, trivial⟩⟩⟩⟩⟩ (alle_t rfl ⟨rfl, ⟨rfl, ⟨rfl, ⟨trivial, ⟨trivial, trivial⟩⟩⟩⟩⟩ (alle_t rfl ⟨rfl, ⟨rfl, ⟨rfl, ⟨trivial, ⟨trivial, trivial⟩⟩⟩⟩⟩ (alle_t rfl ⟨rfl, ⟨rfl, ⟨rfl, ⟨trivial, ⟨trivial, trivial⟩⟩⟩⟩⟩ (alle_t rfl ⟨rfl, ⟨rfl, ⟨rfl, ⟨trivial, ⟨trivial, trivial⟩⟩⟩⟩⟩ (alle_t rfl ⟨rfl, ⟨rfl, ⟨rfl, ⟨trivial, ⟨trivial, trivial⟩⟩⟩⟩⟩ alle_nil)))))) rfl rfl (opv_extract rfl rfl) ?_
    refine mee (x := .s (.one (.lp 3 0))) 0 rfl rfl ?_ ?_
    · refine alle_t rfl ⟨_, rfl, fun ζ => ?_⟩ ?_
      · refine salloc_at 3 rfl zi46 rfl ?_
        exact eend
      refine alle_t rfl ⟨_, rfl, fun ζ => ?_⟩ ?_
      · refine salloc_at 3 rfl zi46 rfl ?_
        exact eend
      refine alle_f rfl ?_
      refine alle_f rfl ?_
      refine alle_f rfl ?_
      refine alle_f rfl ?_
      exact alle_nil
    refine mee (x := .s (.one (.lp 4 0))) 1 rfl rfl ?_ ?_
    · refine alle_t rfl ⟨_, rfl, fun ζ => ?_⟩ ?_
      · refine salloc_at 4 rfl zi35 rfl ?_
        exact eend
      refine alle_f rfl ?_
      refine alle_t rfl ⟨_, rfl, fun ζ => ?_⟩ ?_
      · refine salloc_at 4 rfl zi35 rfl ?_
        exact eend
      refine alle_f rfl ?_
      refine alle_f rfl ?_
      refine alle_f rfl ?_
      exact alle_nil
    refine mee0 2 rfl ?_ ?_
    · refine alle_f rfl ?_
      refine alle_f rfl ?_
      refine alle_f rfl ?_
      refine alle_t rfl ⟨_, rfl, fun ζ => ?_⟩ ?_
      · refine sstore sz46 rfl rfl rfl rfl (Nat.le_of_ble_eq_true rfl) ?_
        refine smem [.box a0, .box a1, .box v3, .box v5.1, .box [.i .i64 0, .i .i64 0, .i .i64 0, .i .i64 0, .i .i64 0, .i .i64 0, .i .i64 0, .i .i64 0, .i .i64 0, .b false]] rfl ?_
        exact eend
      refine alle_f rfl ?_
      refine alle_f rfl ?_
      exact alle_nil
    refine mee0 3 rfl ?_ ?_
    · refine alle_f rfl ?_
      refine alle_f rfl ?_
      refine alle_f rfl ?_
      refine alle_f rfl ?_
      refine alle_t rfl ⟨_, rfl, fun ζ => ?_⟩ ?_
      · refine sstore sz35 rfl rfl rfl rfl (Nat.le_of_ble_eq_true rfl) ?_
        refine smem [.box a0, .box a1, .box v3, .box v5.1, .box v5.2.1] rfl ?_
        exact eend
      refine alle_f rfl ?_
      exact alle_nil
    refine mem2 rfl rfl (fun _ => opv_as rfl) ?_
    refine mnil2 ?_
    refine then_normal ?_
    refine cseq ?_
    refine cseq ?_
    refine cjoin3 (Unit) (fun b6 => [(2, .s (.one (.lp 0 0))), (3, .s (.one (.lp 1 0))), (5, .s (.one (.b v1))), (6, .s (.one (.lp 2 0))), (7, .s (.one (.lp 3 0))), (8, .s (.one (.lp 4 0))), (9, .s (.one (.b v5.2.2)))]) (fun b6 => [.box a0, .box a1, .box v3, .box v5.1, .box v5.2.1]) (fun b6 => m7_l19_ProgStops_k6 a0 a1 v1 v3 v5 b6 = some r) (fun _ _ => inbL_of rfl) (fun _ _ => blkinb_of rfl) (fun _ _ => Nat.le_of_ble_eq_true rfl) (fun b6 h => ?_) ?_
    · unfold m7_l19_ProgStops_k6 at h
      refine cseq ?_
      refine cseq ?_
      refine cregion ?_
      refine sv rfl (opv_mv rfl) ?_
      refine snil ?_
      refine ccond rfl (fun hc => ?_) (fun hc => ?_)
      · replace h := ite_t hc h
        clear hc
        refine cseq ?_
        refine cdraw mixed (by kernel_rfl) ?_
        refine dv rfl (opv_mv rfl) ?_
        refine dv rfl (opv_mv rfl) ?_
        refine dsplit 49 rfl (fun hc => ?_) (fun hc => ?_)
        · replace h := ite_t hc h
          clear hc
          refine dvg rfl rfl rfl (opv_fieldAddr_lp fi35_0 rfl) ?_
          refine dvg rfl rfl rfl (opv_load1 ti3 rfl (.lp _ _ _ rfl) rfl) ?_
          refine dvg rfl rfl rfl (opv_geq rfl rfl) ?_
          refine dv rfl (opv_pick_t rfl rfl) ?_
          refine dv rfl (opv_mv rfl) ?_
          refine dsplit 54 rfl (fun hc => ?_) (fun hc => ?_)
          · replace h := ite_t hc h
            clear hc
            refine dvg rfl rfl rfl (opv_fieldAddr_lp fi35_0 rfl) ?_
            refine dvg rfl rfl rfl (opv_load1 ti3 rfl (.lp _ _ _ rfl) rfl) ?_
            refine dvg rfl rfl rfl (opv_fieldAddr_lp fi24_1 rfl) ?_
            refine dvg rfl rfl rfl (opv_load1 ti22 rfl (.lp _ _ _ rfl) rfl) ?_
            refine dvg rfl rfl rfl (opv_len_sl si22 rfl) ?_
            refine dvg rfl rfl rfl (opv_lss rfl rfl) ?_
            refine dv rfl (opv_pick_t rfl rfl) ?_
            refine dv rfl (opv_mv rfl) ?_
            refine dsplit 62 rfl (fun hc => ?_) (fun hc => ?_)
            · replace h := ite_t hc h
              clear hc
              refine dvg rfl rfl rfl (opv_fieldAddr_lp fi24_1 rfl) ?_
              refine dvg rfl rfl rfl (opv_load1 ti22 rfl (.lp _ _ _ rfl) rfl) ?_
              refine dvg rfl rfl rfl (opv_fieldAddr_lp fi35_0 rfl) ?_
              refine dvg rfl rfl rfl (opv_load1 ti3 rfl (.lp _ _ _ rfl) rfl) ?_
              obtain ⟨u7, hu7, h⟩ := bind_eq h
              refine dvg rfl rfl rfl (opv_ix (f := eGR19Op) si22 (fun _ => rfl) rfl rfl rfl rfl hu7) ?_
              refine dvg rfl rfl rfl (opv_fieldAddr_cp fi63_0 rfl) ?_
              refine dvg rfl rfl rfl (opv_load1 ti3 rfl (.cp _) rfl) ?_
              refine dvg rfl rfl rfl (opv_leq rfl rfl) ?_
              refine dv rfl (opv_pick_t rfl rfl) ?_
              refine dv rfl (opv_mv rfl) ?_
              refine dsplit 72 rfl (fun hc => ?_) (fun hc => ?_)
              · replace h := ite_t hc h
                clear hc
                refine dvg rfl rfl rfl (opv_fieldAddr_lp fi40_2 rfl) ?_
                refine dvg rfl rfl rfl (opv_load1 ti4 rfl (.lp _ _ _ rfl) rfl) ?_
                refine dvg rfl rfl rfl (opv_not rfl) ?_
                refine dv rfl (opv_pick_t rfl rfl) ?_
                refine dv rfl (opv_mv rfl) ?_
                refine dsplit 77 rfl (fun hc => ?_) (fun hc => ?_)
                · replace h := ite_t hc h
                  clear hc
                  refine dvg rfl rfl rfl (opv_fieldAddr_lp fi35_0 rfl) ?_
                  refine dvg rfl rfl rfl (opv_load1 ti3 rfl (.lp _ _ _ rfl) rfl) ?_
                  refine dvg rfl rfl rfl (opv_fieldAddr_lp fi40_0 rfl) ?_
                  refine dvg rfl rfl rfl (opv_load1 ti3 rfl (.lp _ _ _ rfl) rfl) ?_
                  refine dvg rfl rfl rfl (opv_geq rfl rfl) ?_
                  refine dv rfl (opv_pick_t rfl rfl) ?_
                  refine dv rfl (opv_mv rfl) ?_
                  refine dsplit 84 rfl (fun hc => ?_) (fun hc => ?_)
                  · replace h := ite_t hc h
                    clear hc
                    refine dvg rfl rfl rfl (opv_fieldAddr_lp fi46_0 rfl) ?_
                    refine dvg rfl rfl rfl (opv_load1 ti3 rfl (.lp _ _ _ rfl) rfl) ?_
                    refine dvg rfl rfl rfl (opv_fieldAddr_lp fi24_1 rfl) ?_
                    refine dvg rfl rfl rfl (opv_load1 ti22 rfl (.lp _ _ _ rfl) rfl) ?_
                    refine dvg rfl rfl rfl (opv_fieldAddr_lp fi35_0 rfl) ?_
                    refine dvg rfl rfl rfl (opv_load1 ti3 rfl (.lp _ _ _ rfl) rfl) ?_
                    obtain ⟨u8, hu8, h⟩ := bind_eq h
                    refine dvg rfl rfl rfl (opv_ix (f := eGR19Op) si22 (fun _ => rfl) rfl rfl rfl rfl hu8) ?_
                    refine dvg rfl rfl rfl (opv_fieldAddr_cp fi63_0 rfl) ?_
                    refine dvg rfl rfl rfl (opv_load1 ti3 rfl (.cp _) rfl) ?_
                    refine dvg rfl rfl rfl (opv_add rfl rfl) ?_
                    refine dvg rfl rfl rfl (opv_ieql rfl rfl) ?_
                    refine dv rfl (opv_pick_t rfl rfl) ?_
                    refine dv rfl (opv_as rfl) ?_
                    refine dnil ?_
                    refine then_normal ?_
                    refine cret ?_
                    refine then_ret ?_
                    obtain rfl := Option.some.inj h
                    refine ⟨Or.inr rfl, _, _, _, (resVs_cons (ResV.tmp _ _ rfl) resVs_nil), (pubA_id rfl), ?_⟩
                    rfl
                  · replace h := ite_f hc h
                    clear hc
                    refine doff rfl rfl rfl rfl ?_
                    refine doff rfl rfl rfl rfl ?_
                    refine doff rfl rfl rfl rfl ?_
                    refine doff rfl rfl rfl rfl ?_
                    refine doff rfl rfl rfl rfl ?_
                    refine doff rfl rfl rfl rfl ?_
                    refine doff rfl rfl rfl rfl ?_
                    refine doff rfl rfl rfl rfl ?_
                    refine doff rfl rfl rfl rfl ?_
                    refine doff rfl rfl rfl rfl ?_
                    refine doff rfl rfl rfl rfl ?_
                    refine dv rfl (opv_pick_f rfl rfl) ?_
                    refine dv rfl (opv_as rfl) ?_
                    refine dnil ?_
                    refine then_normal ?_
                    refine cret ?_
                    refine then_ret ?_
                    obtain rfl := Option.some.inj h
                    refine ⟨Or.inr rfl, _, _, _, (resVs_cons (ResV.tmp _ _ rfl) resVs_nil), (pubA_id rfl), ?_⟩
                    rfl
                · replace h := ite_f hc h
                  clear hc
                  refine doff rfl rfl rfl rfl ?_
                  refine doff rfl rfl rfl rfl ?_
                  refine doff rfl rfl rfl rfl ?_
                  refine doff rfl rfl rfl rfl ?_
                  refine doff rfl rfl rfl rfl ?_
                  refine dv rfl (opv_pick_f rfl rfl) ?_
                  refine dv rfl (opv_mv rfl) ?_
                  refine doff rfl rfl rfl rfl ?_
                  refine doff rfl rfl rfl rfl ?_
                  refine doff rfl rfl rfl rfl ?_
                  refine doff rfl rfl rfl rfl ?_
                  refine doff rfl rfl rfl rfl ?_
                  refine doff rfl rfl rfl rfl ?_
                  refine doff rfl rfl rfl rfl ?_
                  refine doff rfl rfl rfl rfl ?_
                  refine doff rfl rfl rfl rfl ?_
                  refine doff rfl rfl rfl rfl ?_
                  refine doff rfl rfl rfl rfl ?_
                  refine dv rfl (opv_pick_f rfl rfl) ?_
                  refine dv rfl (opv_as rfl) ?_
                  refine dnil ?_
                  refine then_normal ?_
                  refine cret ?_
                  refine then_ret ?_
                  obtain rfl := Option.some.inj h
                  refine ⟨Or.inr rfl, _, _, _, (resVs_cons (ResV.tmp _ _ rfl) resVs_nil), (pubA_id rfl), ?_⟩
                  rfl
              · replace h := ite_f hc h
                clear hc
                refine doff rfl rfl rfl rfl ?_
                refine doff rfl rfl rfl rfl ?_
                refine doff rfl rfl rfl rfl ?_
                refine dv rfl (opv_pick_f rfl rfl) ?_
                refine dv rfl (opv_mv rfl) ?_
                refine doff rfl rfl rfl rfl ?_
                refine doff rfl rfl rfl rfl ?_
                refine doff rfl rfl rfl rfl ?_
                refine doff rfl rfl rfl rfl ?_
                refine doff rfl rfl rfl rfl ?_
                refine dv rfl (opv_pick_f rfl rfl) ?_
                refine dv rfl (opv_mv rfl) ?_
                refine doff rfl rfl rfl rfl ?_
                refine doff rfl rfl rfl rfl ?_
                refine doff rfl rfl rfl rfl ?_
                refine doff rfl rfl rfl rfl ?_
                refine doff rfl rfl rfl rfl ?_
                refine doff rfl rfl rfl rfl ?_
                refine doff rfl rfl rfl rfl ?_
                refine doff rfl rfl rfl rfl ?_
                refine doff rfl rfl rfl rfl ?_
                refine doff rfl rfl rfl rfl ?_
                refine doff rfl rfl rfl rfl ?_
                refine dv rfl (opv_pick_f rfl rfl) ?_
                refine dv rfl (opv_as rfl) ?_
                refine dnil ?_
                refine then_normal ?_
                refine cret ?_
                refine then_ret ?_
                obtain rfl := Option.some.inj h
                refine ⟨Or.inr rfl, _, _, _, (resVs_cons (ResV.tmp _ _ rfl) resVs_nil), (pubA_id rfl), ?_⟩
                rfl
            · replace h := ite_f hc h
              clear hc
              refine doff rfl rfl rfl rfl ?_
              refine doff rfl rfl rfl rfl ?_
              refine doff rfl rfl rfl rfl ?_
              refine doff rfl rfl rfl rfl ?_
              refine doff rfl rfl rfl rfl ?_
              refine doff rfl rfl rfl rfl ?_
              refine doff rfl rfl rfl rfl ?_
              refine doff rfl rfl rfl rfl ?_
              refine dv rfl (opv_pick_f rfl rfl) ?_
              refine dv rfl (opv_mv rfl) ?_
              refine doff rfl rfl rfl rfl ?_
              refine doff rfl rfl rfl rfl ?_
              refine doff rfl rfl rfl rfl ?_
              refine dv rfl (opv_pick_f rfl rfl) ?_
              refine dv rfl (opv_mv rfl) ?_
              refine doff rfl rfl rfl rfl ?_
              refine doff rfl rfl rfl rfl ?_
              refine doff rfl rfl rfl rfl ?_
              refine doff rfl rfl rfl rfl ?_
              refine doff rfl rfl rfl rfl ?_
              refine dv rfl (opv_pick_f rfl rfl) ?_
              refine dv rfl (opv_mv rfl) ?_
              refine doff rfl rfl rfl rfl ?_
              refine doff rfl rfl rfl rfl ?_
              refine doff rfl rfl rfl rfl ?_
              refine doff rfl rfl rfl rfl ?_
              refine doff rfl rfl rfl rfl ?_
              refine doff rfl rfl rfl rfl ?_
              refine doff rfl rfl rfl rfl ?_
              refine doff rfl rfl rfl rfl ?_
              refine doff rfl rfl rfl rfl ?_
              refine doff rfl rfl rfl rfl ?_
              refine doff rfl rfl rfl rfl ?_
              refine dv rfl (opv_pick_f rfl rfl) ?_
              refine dv rfl (opv_as rfl) ?_
              refine dnil ?_
              refine then_normal ?_
              refine cret ?_
              refine then_ret ?_
              obtain rfl := Option.some.inj h
              refine ⟨Or.inr rfl, _, _, _, (resVs_cons (ResV.tmp _ _ rfl) resVs_nil), (pubA_id rfl), ?_⟩
              rfl
          · replace h := ite_f hc h
            clear hc
            refine doff rfl rfl rfl rfl ?_
            refine doff rfl rfl rfl rfl ?_
            refine doff rfl rfl rfl rfl ?_
            refine doff rfl rfl rfl rfl ?_
            refine doff rfl rfl rfl rfl ?_
            refine doff rfl rfl rfl rfl ?_
            refine dv rfl (opv_pick_f rfl rfl) ?_
            refine dv rfl (opv_mv rfl) ?_
            refine doff rfl rfl rfl rfl ?_
            refine doff rfl rfl rfl rfl ?_
            refine doff rfl rfl rfl rfl ?_
            refine doff rfl rfl rfl rfl ?_
            refine doff rfl rfl rfl rfl ?_
            refine doff rfl rfl rfl rfl ?_
            refine doff rfl rfl rfl rfl ?_
            refine doff rfl rfl rfl rfl ?_
            refine dv rfl (opv_pick_f rfl rfl) ?_
            refine dv rfl (opv_mv rfl) ?_
            refine doff rfl rfl rfl rfl ?_
            refine doff rfl rfl rfl rfl ?_
            refine doff rfl rfl rfl rfl ?_
            refine dv rfl (opv_pick_f rfl rfl) ?_
            refine dv rfl (opv_mv rfl) ?_
            refine doff rfl rfl rfl rfl ?_
            refine doff rfl rfl rfl rfl ?_
            refine doff rfl rfl rfl rfl ?_
            refine doff rfl rfl rfl rfl ?_
            refine doff rfl rfl rfl rfl ?_
            refine dv rfl (opv_pick_f rfl rfl) ?_
            refine dv rfl (opv_mv rfl) ?_
            refine doff rfl rfl rfl rfl ?_
            refine doff rfl rfl rfl rfl ?_
            refine doff rfl rfl rfl rfl ?_
            refine doff rfl rfl rfl rfl ?_
            refine doff rfl rfl rfl rfl ?_
            refine doff rfl rfl rfl rfl ?_
            refine doff rfl rfl rfl rfl ?_
            refine doff rfl rfl rfl rfl ?_
            refine doff rfl rfl rfl rfl ?_
            refine doff rfl rfl rfl rfl ?_
            refine doff rfl rfl rfl rfl ?_
            refine dv rfl (opv_pick_f rfl rfl) ?_
            refine dv rfl (opv_as rfl) ?_
            refine dnil ?_
            refine then_normal ?_
            refine cret ?_
            refine then_ret ?_
            obtain rfl := Option.some.inj h
            refine ⟨Or.inr rfl, _, _, _, (resVs_cons (ResV.tmp _ _ rfl) resVs_nil), (pubA_id rfl), ?_⟩
            rfl
        · replace h := ite_f hc h
          clear hc
          refine doff rfl rfl rfl rfl ?_
          refine doff rfl rfl rfl rfl ?_
          refine doff rfl rfl rfl rfl ?_
          refine dv rfl (opv_pick_f rfl rfl) ?_
          refine dv rfl (opv_mv rfl) ?_
          refine doff rfl rfl rfl rfl ?_
          refine doff rfl rfl rfl rfl ?_
          refine doff rfl rfl rfl rfl ?_
          refine doff rfl rfl rfl rfl ?_
          refine doff rfl rfl rfl rfl ?_
          refine doff rfl rfl rfl rfl ?_
          refine dv rfl (opv_pick_f rfl rfl) ?_
          refine dv rfl (opv_mv rfl) ?_
          refine doff rfl rfl rfl rfl ?_
          refine doff rfl rfl rfl rfl ?_
          refine doff rfl rfl rfl rfl ?_
          refine doff rfl rfl rfl rfl ?_
          refine doff rfl rfl rfl rfl ?_
          refine doff rfl rfl rfl rfl ?_
          refine doff rfl rfl rfl rfl ?_
          refine doff rfl rfl rfl rfl ?_
          refine dv rfl (opv_pick_f rfl rfl) ?_
          refine dv rfl (opv_mv rfl) ?_
          refine doff rfl rfl rfl rfl ?_
          refine doff rfl rfl rfl rfl ?_
          refine doff rfl rfl rfl rfl ?_
          refine dv rfl (opv_pick_f rfl rfl) ?_
          refine dv rfl (opv_mv rfl) ?_
          refine doff rfl rfl rfl rfl ?_
          refine doff rfl rfl rfl rfl ?_
          refine doff rfl rfl rfl rfl ?_
          refine doff rfl rfl rfl rfl ?_
          refine doff rfl rfl rfl rfl ?_
          refine dv rfl (opv_pick_f rfl rfl) ?_
          refine dv rfl (opv_mv rfl) ?_
          refine doff rfl rfl rfl rfl ?_
          refine doff rfl rfl rfl rfl ?_
          refine doff rfl rfl rfl rfl ?_
          refine doff rfl rfl rfl rfl ?_
          refine doff rfl rfl rfl rfl ?_
          refine doff rfl rfl rfl rfl ?_
          refine doff rfl rfl rfl rfl ?_
          refine doff rfl rfl rfl rfl ?_
          refine doff rfl rfl rfl rfl ?_
          refine doff rfl rfl rfl rfl ?_
          refine doff rfl rfl rfl rfl ?_
          refine dv rfl (opv_pick_f rfl rfl) ?_
          refine dv rfl (opv_as rfl) ?_
          refine dnil ?_
          refine then_normal ?_
          refine cret ?_
          refine then_ret ?_
          obtain rfl := Option.some.inj h
          refine ⟨Or.inr rfl, _, _, _, (resVs_cons (ResV.tmp _ _ rfl) resVs_nil), (pubA_id rfl), ?_⟩
          rfl
      · replace h := ite_f hc h
        clear hc
        refine cskip ?_
        refine then_normal ?_
        refine cseq ?_
        refine cregion ?_
        refine sv rfl (opv_loadN ti31 rfl (.lp _ _ _ rfl) (Nat.le_of_ble_eq_true rfl)) ?_
        refine sv rfl (opv_loadN ti35 rfl (.lp _ _ _ rfl) (Nat.le_of_ble_eq_true rfl)) ?_
        obtain ⟨v9, hv9, h⟩ := bind_eq h
        refine scall1 rfl fn18 (opnds_cons rfl (opnds_cons rfl opnds_nil)) (pubA_id rfl) (m18_prog_Next_c hv9) ?_
        refine sv rfl (opv_mvt rfl) ?_
        refine sv rfl (opv_extract rfl rfl) ?_
        refine sv rfl (opv_extract rfl rfl) ?_
        refine sv rfl (opv_extract rfl rfl) ?_
        refine salloc rfl zi46 ?_
        refine salloc rfl zi35 ?_
        refine sstore sz46 rfl rfl rfl rfl (Nat.le_of_ble_eq_true rfl) ?_
        refine smem [.box a0, .box a1, .box v3, .box v5.1, .box v5.2.1, .box v9.1, .box [.i .i64 0, .i .i64 0, .i .i64 0, .i .i64 0, .i .i64 0, .i .i64 0, .i .i64 0, .i .i64 0, .i .i64 0, .b false]] rfl ?_
        refine sstore sz35 rfl rfl rfl rfl (Nat.le_of_ble_eq_true rfl) ?_
        refine smem [.box a0, .box a1, .box v3, .box v5.1, .box v5.2.1, .box v9.1, .box v9.2.1] rfl ?_
        refine sv rfl (opv_as rfl) ?_
        refine snil ?_
        refine cseq ?_
        refine cdraw mixed (by kernel_rfl) ?_
        refine dv rfl (opv_mv rfl) ?_
        refine dv rfl (opv_mv rfl) ?_
        refine dsplit 105 rfl (fun hc => ?_) (fun hc => ?_)
        · replace h := ite_t hc h
          clear hc
          refine dvg rfl rfl rfl (opv_mv rfl) ?_
          refine dvg rfl rfl rfl (opv_not rfl) ?_
          refine dv rfl (opv_pick_t rfl rfl) ?_
          refine dv rfl (opv_mv rfl) ?_
          refine dsplit 109 rfl (fun hc => ?_) (fun hc => ?_)
          · replace h := ite_t hc h
            clear hc
            refine dvg rfl rfl rfl (opv_loadN ti35 rfl (.lp _ _ _ rfl) (Nat.le_of_ble_eq_true rfl)) ?_
            obtain ⟨v10, hv10, h⟩ := bind_eq h
            refine ddg rfl rfl rfl (opD_call fn17 (opnds_cons rfl opnds_nil) rfl (m17_l19_stated_c hv10)) ?_
            refine dvg rfl rfl rfl (opv_loadN ti35 rfl (.lp _ _ _ rfl) (Nat.le_of_ble_eq_true rfl)) ?_
            obtain ⟨v11, hv11, h⟩ := bind_eq h
            refine ddg rfl rfl rfl (opD_call fn17 (opnds_cons rfl opnds_nil) rfl (m17_l19_stated_c hv11)) ?_
            refine dvg rfl rfl rfl (opv_deql ed40 rfl rfl rfl rfl rfl) ?_
            refine dv rfl (opv_pick_t rfl rfl) ?_
            refine dv rfl (opv_mv rfl) ?_
            refine dsplit 116 rfl (fun hc => ?_) (fun hc => ?_)
            · replace h := ite_t hc h
              clear hc
              refine dvg rfl rfl rfl (opv_fieldAddr_lp fi35_2 rfl) ?_
              refine dvg rfl rfl rfl (opv_load1 ti4 rfl (.lp _ _ _ rfl) rfl) ?_
              refine dvg rfl rfl rfl (opv_mv rfl) ?_
              refine dsplit 119 rfl (fun hc => ?_) (fun hc => ?_)
              · replace h := ite_t hc h
                clear hc
                refine doff rfl rfl rfl rfl ?_
                refine doff rfl rfl rfl rfl ?_
                refine doff rfl rfl rfl rfl ?_
                refine doff rfl rfl rfl rfl ?_
                refine doff rfl rfl rfl rfl ?_
                refine doff rfl rfl rfl rfl ?_
                refine dvg rfl rfl rfl (opv_pick_t rfl rfl) ?_
                refine dv rfl (opv_pick_t rfl rfl) ?_
                refine dv rfl (opv_mv rfl) ?_
                refine dvg rfl rfl rfl (opv_loadN ti46 rfl (.lp _ _ _ rfl) (Nat.le_of_ble_eq_true rfl)) ?_
                obtain ⟨v12, hv12, h⟩ := bind_eq h
                refine ddg rfl rfl rfl (opD_call fn25 (opnds_cons rfl opnds_nil) rfl (m25_l19_asked_c hv12)) ?_
                refine dvg rfl rfl rfl (opv_build zi67 pi67 parts_nil (.nil _)) ?_
                obtain ⟨v13, hv13, h⟩ := bind_eq h
                refine ddg rfl rfl rfl (opD_callN fn24 (opnds_cons rfl (opnds_cons rfl opnds_nil)) rfl (m24_r05_SameReq_c hv13)) ?_
                refine dv rfl (opv_pick_t rfl rfl) ?_
                refine dv rfl (opv_as rfl) ?_
                refine dnil ?_
                refine then_normal ?_
                refine cret ?_
                obtain rfl := Option.some.inj h
                refine ⟨Or.inr rfl, _, _, _, (resVs_cons (ResV.tmp _ _ rfl) resVs_nil), (pubA_id rfl), ?_⟩
                rfl
              · replace h := ite_f hc h
                clear hc
                refine dvg rfl rfl rfl (opv_fieldAddr_lp fi35_0 rfl) ?_
                refine dvg rfl rfl rfl (opv_load1 ti3 rfl (.lp _ _ _ rfl) rfl) ?_
                refine dvg rfl rfl rfl (opv_fieldAddr_lp fi24_1 rfl) ?_
                refine dvg rfl rfl rfl (opv_load1 ti22 rfl (.lp _ _ _ rfl) rfl) ?_
                refine dvg rfl rfl rfl (opv_len_sl si22 rfl) ?_
                refine dvg rfl rfl rfl (opv_ieql rfl rfl) ?_
                refine dvg rfl rfl rfl (opv_pick_f rfl rfl) ?_
                refine dv rfl (opv_pick_t rfl rfl) ?_
                refine dv rfl (opv_mv rfl) ?_
                refine dsplit 128 rfl (fun hc => ?_) (fun hc => ?_)
                · replace h := ite_t hc h
                  clear hc
                  refine dvg rfl rfl rfl (opv_loadN ti46 rfl (.lp _ _ _ rfl) (Nat.le_of_ble_eq_true rfl)) ?_
                  obtain ⟨v14, hv14, h⟩ := bind_eq h
                  refine ddg rfl rfl rfl (opD_call fn25 (opnds_cons rfl opnds_nil) rfl (m25_l19_asked_c hv14)) ?_
                  refine dvg rfl rfl rfl (opv_build zi67 pi67 parts_nil (.nil _)) ?_
                  obtain ⟨v15, hv15, h⟩ := bind_eq h
                  refine ddg rfl rfl rfl (opD_callN fn24 (opnds_cons rfl (opnds_cons rfl opnds_nil)) rfl (m24_r05_SameReq_c hv15)) ?_
                  refine dv rfl (opv_pick_t rfl rfl) ?_
                  refine dv rfl (opv_as rfl) ?_
                  refine dnil ?_
                  refine then_normal ?_
                  refine cret ?_
                  obtain rfl := Option.some.inj h
                  refine ⟨Or.inr rfl, _, _, _, (resVs_cons (ResV.tmp _ _ rfl) resVs_nil), (pubA_id rfl), ?_⟩
                  rfl
                · replace h := ite_f hc h
                  clear hc
                  refine doff rfl rfl rfl rfl ?_
                  refine doff rfl rfl rfl rfl ?_
                  refine doff rfl rfl rfl rfl ?_
                  refine doff rfl rfl rfl rfl ?_
                  refine dv rfl (opv_pick_f rfl rfl) ?_
                  refine dv rfl (opv_as rfl) ?_
                  refine dnil ?_
                  refine then_normal ?_
                  refine cret ?_
                  obtain rfl := Option.some.inj h
                  refine ⟨Or.inr rfl, _, _, _, (resVs_cons (ResV.tmp _ _ rfl) resVs_nil), (pubA_id rfl), ?_⟩
                  rfl
            · replace h := ite_f hc h
              clear hc
              refine doff rfl rfl rfl rfl ?_
              refine doff rfl rfl rfl rfl ?_
              refine doff rfl rfl rfl rfl ?_
              refine doffu rfl rfl rfl ?_
              refine doffu rfl rfl rfl ?_
              refine doffu rfl rfl rfl ?_
              refine doffu rfl rfl rfl ?_
              refine doffu rfl rfl rfl ?_
              refine doffu rfl rfl rfl ?_
              refine doff rfl rfl rfl rfl ?_
              refine dv rfl (opv_pick_f rfl rfl) ?_
              refine dv rfl (opv_mv rfl) ?_
              refine doff rfl rfl rfl rfl ?_
              refine doff rfl rfl rfl rfl ?_
              refine doff rfl rfl rfl rfl ?_
              refine doff rfl rfl rfl rfl ?_
              refine dv rfl (opv_pick_f rfl rfl) ?_
              refine dv rfl (opv_as rfl) ?_
              refine dnil ?_
              refine then_normal ?_
              refine cret ?_
              obtain rfl := Option.some.inj h
              refine ⟨Or.inr rfl, _, _, _, (resVs_cons (ResV.tmp _ _ rfl) resVs_nil), (pubA_id rfl), ?_⟩
              rfl
          · replace h := ite_f hc h
            clear hc
            refine doff rfl rfl rfl rfl ?_
            refine doff rfl rfl rfl rfl ?_
            refine doff rfl rfl rfl rfl ?_
            refine doff rfl rfl rfl rfl ?_
            refine doff rfl rfl rfl rfl ?_
            refine dv rfl (opv_pick_f rfl rfl) ?_
            refine dv rfl (opv_mv rfl) ?_
            refine doff rfl rfl rfl rfl ?_
            refine doff rfl rfl rfl rfl ?_
            refine doff rfl rfl rfl rfl ?_
            refine doffu rfl rfl rfl ?_
            refine doffu rfl rfl rfl ?_
            refine doffu rfl rfl rfl ?_
            refine doffu rfl rfl rfl ?_
            refine doffu rfl rfl rfl ?_
            refine doffu rfl rfl rfl ?_
            refine doff rfl rfl rfl rfl ?_
            refine dv rfl (opv_pick_f rfl rfl) ?_
            refine dv rfl (opv_mv rfl) ?_
            refine doff rfl rfl rfl rfl ?_
            refine doff rfl rfl rfl rfl ?_
            refine doff rfl rfl rfl rfl ?_
            refine doff rfl rfl rfl rfl ?_
            refine dv rfl (opv_pick_f rfl rfl) ?_
            refine dv rfl (opv_as rfl) ?_
            refine dnil ?_
            refine then_normal ?_
            refine cret ?_
            obtain rfl := Option.some.inj h
            refine ⟨Or.inr rfl, _, _, _, (resVs_cons (ResV.tmp _ _ rfl) resVs_nil), (pubA_id rfl), ?_⟩
            rfl
        · replace h := ite_f hc h
          clear hc
          refine doff rfl rfl rfl rfl ?_
          refine doff rfl rfl rfl rfl ?_
          refine dv rfl (opv_pick_f rfl rfl) ?_
          refine dv rfl (opv_mv rfl) ?_
          refine doff rfl rfl rfl rfl ?_
          refine doff rfl rfl rfl rfl ?_
          refine doff rfl rfl rfl rfl ?_
          refine doff rfl rfl rfl rfl ?_
          refine doff rfl rfl rfl rfl ?_
          refine dv rfl (opv_pick_f rfl rfl) ?_
          refine dv rfl (opv_mv rfl) ?_
          refine doff rfl rfl rfl rfl ?_
          refine doff rfl rfl rfl rfl ?_
          refine doff rfl rfl rfl rfl ?_
          refine doffu rfl rfl rfl ?_
          refine doffu rfl rfl rfl ?_
          refine doffu rfl rfl rfl ?_
          refine doffu rfl rfl rfl ?_
          refine doffu rfl rfl rfl ?_
          refine doffu rfl rfl rfl ?_
          refine doff rfl rfl rfl rfl ?_
          refine dv rfl (opv_pick_f rfl rfl) ?_
          refine dv rfl (opv_mv rfl) ?_
          refine doff rfl rfl rfl rfl ?_
          refine doff rfl rfl rfl rfl ?_
          refine doff rfl rfl rfl rfl ?_
          refine doff rfl rfl rfl rfl ?_
          refine dv rfl (opv_pick_f rfl rfl) ?_
          refine dv rfl (opv_as rfl) ?_
          refine dnil ?_
          refine then_normal ?_
          refine cret ?_
          obtain rfl := Option.some.inj h
          refine ⟨Or.inr rfl, _, _, _, (resVs_cons (ResV.tmp _ _ rfl) resVs_nil), (pubA_id rfl), ?_⟩
          rfl
    · skip
      refine cregion ?_
      refine sv rfl (opv_loadN ti31 rfl (.lp _ _ _ rfl) (Nat.le_of_ble_eq_true rfl)) ?_
      obtain ⟨v16, hv16, h⟩ := bind_eq h
      refine scall1 rfl fn15 (opnds_cons rfl opnds_nil) (pubA_id rfl) (m15_prog_Sane_c hv16) ?_
      refine sv rfl (opv_not rfl) ?_
      refine sv rfl (opv_mv rfl) ?_
      refine ssplit 31 rfl (fun hc => ?_) (fun hc => ?_)
      · replace h := ite_t hc h
        clear hc
        refine soff rfl rfl rfl rfl ?_
        refine soff rfl rfl rfl rfl ?_
        refine soff rfl rfl rfl rfl ?_
        refine sv rfl (opv_pick_t rfl rfl) ?_
        refine snil ?_
        refine ccond rfl (fun _ => ?_) (fun hx => Bool.noConfusion hx)
        refine cseq ?_
        refine cdraw mixed (by kernel_rfl) ?_
        refine dv rfl (opv_mv rfl) ?_
        refine dv rfl (opv_mv rfl) ?_
        refine dsplit 37 rfl (fun hc => ?_) (fun hc => ?_)
        · replace h := ite_t hc h
          clear hc
          refine dvg rfl rfl rfl (opv_mv rfl) ?_
          refine dvg rfl rfl rfl (opv_not rfl) ?_
          refine dv rfl (opv_pick_t rfl rfl) ?_
          refine dv rfl (opv_mv rfl) ?_
          refine dsplit 41 rfl (fun hc => ?_) (fun hc => ?_)
          · replace h := ite_t hc h
            clear hc
            refine dvg rfl rfl rfl (opv_loadN ti35 rfl (.lp _ _ _ rfl) (Nat.le_of_ble_eq_true rfl)) ?_
            obtain ⟨v17, hv17, h⟩ := bind_eq h
            refine ddg rfl rfl rfl (opD_call fn17 (opnds_cons rfl opnds_nil) rfl (m17_l19_stated_c hv17)) ?_
            refine dvg rfl rfl rfl (opv_loadN ti40 rfl (.lp _ _ _ rfl) (Nat.le_of_ble_eq_true rfl)) ?_
            refine dvg rfl rfl rfl (opv_deql ed40 rfl rfl rfl rfl rfl) ?_
            refine dv rfl (opv_pick_t rfl rfl) ?_
            refine dv rfl (opv_as rfl) ?_
            refine dnil ?_
            refine then_normal ?_
            refine cret ?_
            refine then_ret ?_
            obtain rfl := Option.some.inj h
            refine ⟨Or.inr rfl, _, _, _, (resVs_cons (ResV.tmp _ _ rfl) resVs_nil), (pubA_id rfl), ?_⟩
            rfl
          · replace h := ite_f hc h
            clear hc
            refine doff rfl rfl rfl rfl ?_
            refine doff rfl rfl rfl rfl ?_
            refine doff rfl rfl rfl rfl ?_
            refine doff rfl rfl rfl rfl ?_
            refine dv rfl (opv_pick_f rfl rfl) ?_
            refine dv rfl (opv_as rfl) ?_
            refine dnil ?_
            refine then_normal ?_
            refine cret ?_
            refine then_ret ?_
            obtain rfl := Option.some.inj h
            refine ⟨Or.inr rfl, _, _, _, (resVs_cons (ResV.tmp _ _ rfl) resVs_nil), (pubA_id rfl), ?_⟩
            rfl
        · replace h := ite_f hc h
          clear hc
          refine doff rfl rfl rfl rfl ?_
          refine doff rfl rfl rfl rfl ?_
          refine dv rfl (opv_pick_f rfl rfl) ?_
          refine dv rfl (opv_mv rfl) ?_
          refine doff rfl rfl rfl rfl ?_
          refine doff rfl rfl rfl rfl ?_
          refine doff rfl rfl rfl rfl ?_
          refine doff rfl rfl rfl rfl ?_
          refine dv rfl (opv_pick_f rfl rfl) ?_
          refine dv rfl (opv_as rfl) ?_
          refine dnil ?_
          refine then_normal ?_
          refine cret ?_
          refine then_ret ?_
          obtain rfl := Option.some.inj h
          refine ⟨Or.inr rfl, _, _, _, (resVs_cons (ResV.tmp _ _ rfl) resVs_nil), (pubA_id rfl), ?_⟩
          rfl
      · replace h := ite_f hc h
        clear hc
        refine son rfl rfl rfl ?_
        refine sv rfl (opv_fieldAddr_lp fi40_0 rfl) ?_
        refine son rfl rfl rfl ?_
        refine sv rfl (opv_load1 ti3 rfl (.lp _ _ _ rfl) rfl) ?_
        refine son rfl rfl rfl ?_
        refine sv rfl (opv_lss rfl rfl) ?_
        refine sv rfl (opv_pick_f rfl rfl) ?_
        refine snil ?_
        refine ccond rfl (fun hc => ?_) (fun hc => ?_)
        · replace h := ite_t hc h
          clear hc
          refine cseq ?_
          refine cdraw mixed (by kernel_rfl) ?_
          refine dv rfl (opv_mv rfl) ?_
          refine dv rfl (opv_mv rfl) ?_
          refine dsplit 37 rfl (fun hc => ?_) (fun hc => ?_)
          · replace h := ite_t hc h
            clear hc
            refine dvg rfl rfl rfl (opv_mv rfl) ?_
            refine dvg rfl rfl rfl (opv_not rfl) ?_
            refine dv rfl (opv_pick_t rfl rfl) ?_
            refine dv rfl (opv_mv rfl) ?_
            refine dsplit 41 rfl (fun hc => ?_) (fun hc => ?_)
            · replace h := ite_t hc h
              clear hc
              refine dvg rfl rfl rfl (opv_loadN ti35 rfl (.lp _ _ _ rfl) (Nat.le_of_ble_eq_true rfl)) ?_
              obtain ⟨v18, hv18, h⟩ := bind_eq h
              refine ddg rfl rfl rfl (opD_call fn17 (opnds_cons rfl opnds_nil) rfl (m17_l19_stated_c hv18)) ?_
              refine dvg rfl rfl rfl (opv_loadN ti40 rfl (.lp _ _ _ rfl) (Nat.le_of_ble_eq_true rfl)) ?_
              refine dvg rfl rfl rfl (opv_deql ed40 rfl rfl rfl rfl rfl) ?_
              refine dv rfl (opv_pick_t rfl rfl) ?_
              refine dv rfl (opv_as rfl) ?_
              refine dnil ?_
              refine then_normal ?_
              refine cret ?_
              refine then_ret ?_
              obtain rfl := Option.some.inj h
              refine ⟨Or.inr rfl, _, _, _, (resVs_cons (ResV.tmp _ _ rfl) resVs_nil), (pubA_id rfl), ?_⟩
              rfl
            · replace h := ite_f hc h
              clear hc
              refine doff rfl rfl rfl rfl ?_
              refine doff rfl rfl rfl rfl ?_
              refine doff rfl rfl rfl rfl ?_
              refine doff rfl rfl rfl rfl ?_
              refine dv rfl (opv_pick_f rfl rfl) ?_
              refine dv rfl (opv_as rfl) ?_
              refine dnil ?_
              refine then_normal ?_
              refine cret ?_
              refine then_ret ?_
              obtain rfl := Option.some.inj h
              refine ⟨Or.inr rfl, _, _, _, (resVs_cons (ResV.tmp _ _ rfl) resVs_nil), (pubA_id rfl), ?_⟩
              rfl
          · replace h := ite_f hc h
            clear hc
            refine doff rfl rfl rfl rfl ?_
            refine doff rfl rfl rfl rfl ?_
            refine dv rfl (opv_pick_f rfl rfl) ?_
            refine dv rfl (opv_mv rfl) ?_
            refine doff rfl rfl rfl rfl ?_
            refine doff rfl rfl rfl rfl ?_
            refine doff rfl rfl rfl rfl ?_
            refine doff rfl rfl rfl rfl ?_
            refine dv rfl (opv_pick_f rfl rfl) ?_
            refine dv rfl (opv_as rfl) ?_
            refine dnil ?_
            refine then_normal ?_
            refine cret ?_
            refine then_ret ?_
            obtain rfl := Option.some.inj h
            refine ⟨Or.inr rfl, _, _, _, (resVs_cons (ResV.tmp _ _ rfl) resVs_nil), (pubA_id rfl), ?_⟩
            rfl
        · replace h := ite_f hc h
          clear hc
          refine cskip ?_
          refine then_normal ?_
          exact ⟨(), _, h, ⟨rfl, rfl, rfl, rfl, rfl, rfl, rfl, trivial⟩, rfl⟩

def m8_l19_ProgChains_k2 (a0 : GR19Prog) (a1 : GR19Prog) (a2 : List GApiKV) (v1 : Bool) (b2 : Unit) : Option Bool :=
  (m13_l19_program a0).bind fun v3 => (m14_prog_Run v3 a2).bind fun v4 => (m13_l19_program a1).bind fun v5 => (m14_prog_Run v5 v4.1).bind fun v6 => (m13_l19_program a1).bind fun v7 => (m14_prog_Run v7 v4.1).bind fun v8 => (m14_prog_Run (GProgProg.mk false ([] : List GProgOp)) v6.1).bind fun v9 => if v1 then ((m16_r05_KVs v6.1 v8.1).bind fun v10 => if v10 then ((m17_l19_stated (GProgState.mk v6.2.PC (GAnon33.mk v6.2.Regs.R0 v6.2.Regs.R1 v6.2.Regs.R2 v6.2.Regs.R3 v6.2.Regs.R4 v6.2.Regs.R5 v6.2.Regs.R6 v6.2.Regs.R7) v6.2.Stopped)).bind fun v11 => (m17_l19_stated (GProgState.mk v8.2.PC (GAnon33.mk v8.2.Regs.R0 v8.2.Regs.R1 v8.2.Regs.R2 v8.2.Regs.R3 v8.2.Regs.R4 v8.2.Regs.R5 v8.2.Regs.R6 v8.2.Regs.R7) v8.2.Stopped)).bind fun v12 => if ((decide (v11.PC = v12.PC)) && ((decide (v11.Regs.R0 = v12.Regs.R0)) && ((decide (v11.Regs.R1 = v12.Regs.R1)) && ((decide (v11.Regs.R2 = v12.Regs.R2)) && ((decide (v11.Regs.R3 = v12.Regs.R3)) && ((decide (v11.Regs.R4 = v12.Regs.R4)) && ((decide (v11.Regs.R5 = v12.Regs.R5)) && ((decide (v11.Regs.R6 = v12.Regs.R6)) && ((decide (v11.Regs.R7 = v12.Regs.R7)) && ((v11.Stopped == v12.Stopped) && true)))))))))) then ((m16_r05_KVs v9.1 v6.1).bind fun v13 => if v13 then (if (decide (v9.2.PC = 0)) then ((m12_r09_Rising v6.1).bind fun v14 => some v14) else (some false)) else (some false)) else (some false)) else (some false)) else (some false)
def m8_l19_ProgChains (a0 : GR19Prog) (a1 : GR19Prog) (a2 : List GApiKV) : Option Bool :=
  (m9_l19_awake).bind fun v1 => (m10_r19_Few a0).bind fun v15 => if (!v15) then (some v1) else ((m10_r19_Few a1).bind fun v16 => if (!v16) then (some v1) else ((m11_l19_short a2).bind fun v17 => if (!v17) then (some v1) else ((m12_r09_Rising a2).bind fun v18 => if (!v18) then (some v1) else (m8_l19_ProgChains_k2 a0 a1 a2 v1 ()))))

set_option maxRecDepth 100000 in
theorem m8_l19_ProgChains_c {a0 : GR19Prog} {a1 : GR19Prog} {a2 : List GApiKV} {r : Bool} (h : m8_l19_ProgChains a0 a1 a2 = some r) : CallsA Try.prog 8 [.agg a0, .agg a1, .one (.sl a2.length (a2.flatMap eGApiKV))] (· = .s (.one (.b r))) := by
  unfold m8_l19_ProgChains at h
  refine callsA_of Try.func8 rfl (nt := 90) rfl (Nat.le_of_ble_eq_true rfl) ?_
  intro w0 S0
  refine cseq ?_
  refine cregion ?_
  refine sbox rfl rfl ?_
  refine sbox rfl rfl ?_
  refine sv rfl (opv_as rfl) ?_
  refine snil ?_
  refine cseq ?_
  refine cregion ?_
  obtain ⟨v1, hv1, h⟩ := bind_eq h
  refine scall1 rfl fn9 opnds_nil (pubA_id rfl) (m9_l19_awake_c hv1) ?_
  refine sv rfl (opv_as rfl) ?_
  refine snil ?_
  refine cseq ?_
  refine cseq ?_
  refine cjoin3 (Unit) (fun b2 => [(2, .s (.one (.sl a2.length (a2.flatMap eGApiKV)))), (3, .s (.one (.lp 0 0))), (4, .s (.one (.lp 1 0))), (7, .s (.one (.b v1)))]) (fun b2 => [.box a0, .box a1]) (fun b2 => m8_l19_ProgChains_k2 a0 a1 a2 v1 b2 = some r) (fun _ _ => inbL_of rfl) (fun _ _ => blkinb_of rfl) (fun _ _ => Nat.le_of_ble_eq_true rfl) (fun b2 h => ?_) ?_
  · unfold m8_l19_ProgChains_k2 at h
    refine cseq ?_
    refine cregion ?_
    refine sv rfl (opv_loadN ti24 rfl (.lp _ _ _ rfl) (Nat.le_of_ble_eq_true rfl)) ?_
    obtain ⟨v3, hv3, h⟩ := bind_eq h
    refine scall1 rfl fn13 (opnds_cons rfl opnds_nil) (pubA_id rfl) (m13_l19_program_c hv3) ?_
    refine sv rfl (opv_mv rfl) ?_
    obtain ⟨v4, hv4, h⟩ := bind_eq h
    refine scall1 rfl fn14 (opnds_cons rfl (opnds_cons rfl opnds_nil)) (pubA_id rfl) (m14_prog_Run_c hv4) ?_
    refine sv rfl (opv_mvt rfl) ?_
    refine sv rfl (opv_extract rfl rfl) ?_
    refine sv rfl (opv_extract rfl rfl) ?_
    refine salloc rfl zi35 ?_
    refine sv rfl (opv_as rfl) ?_
    refine sstore sz35 rfl rfl rfl rfl (Nat.le_of_ble_eq_true rfl) ?_
    refine smem [.box a0, .box a1, .box v4.2] rfl ?_
    refine snil ?_
    refine cseq ?_
    refine cregion ?_
    refine sv rfl (opv_loadN ti24 rfl (.lp _ _ _ rfl) (Nat.le_of_ble_eq_true rfl)) ?_
    obtain ⟨v5, hv5, h⟩ := bind_eq h
    refine scall1 rfl fn13 (opnds_cons rfl opnds_nil) (pubA_id rfl) (m13_l19_program_c hv5) ?_
    refine sv rfl (opv_mv rfl) ?_
    obtain ⟨v6, hv6, h⟩ := bind_eq h
    refine scall1 rfl fn14 (opnds_cons rfl (opnds_cons rfl opnds_nil)) (pubA_id rfl) (m14_prog_Run_c hv6) ?_
    refine sv rfl (opv_mvt rfl) ?_
    refine sv rfl (opv_extract rfl rfl) ?_
    refine sv rfl (opv_extract rfl rfl) ?_
    refine salloc rfl zi35 ?_
    refine sv rfl (opv_as rfl) ?_
    refine sstore sz35 rfl rfl rfl rfl (Nat.le_of_ble_eq_true rfl) ?_
    refine smem [.box a0, .box a1, .box v4.2, .box v6.2] rfl ?_
    refine snil ?_
    refine cseq ?_
    refine cregion ?_
    refine sv rfl (opv_loadN ti24 rfl (.lp _ _ _ rfl) (Nat.le_of_ble_eq_true rfl)) ?_
    obtain ⟨v7, hv7, h⟩ := bind_eq h
    refine scall1 rfl fn13 (opnds_cons rfl opnds_nil) (pubA_id rfl) (m13_l19_program_c hv7) ?_
    refine sv rfl (opv_mv rfl) ?_
    obtain ⟨v8, hv8, h⟩ := bind_eq h
    refine scall1 rfl fn14 (opnds_cons rfl (opnds_cons rfl opnds_nil)) (pubA_id rfl) (m14_prog_Run_c hv8) ?_
    refine sv rfl (opv_mvt rfl) ?_
    refine sv rfl (opv_extract rfl rfl) ?_
    refine sv rfl (opv_extract rfl rfl) ?_
    refine salloc rfl zi35 ?_
    refine sv rfl (opv_as rfl) ?_
    refine sstore sz35 rfl rfl rfl rfl (Nat.le_of_ble_eq_true rfl) ?_
    refine smem [.box a0, .box a1, .box v4.2, .box v6.2, .box v8.2] rfl ?_
    refine snil ?_
    refine cseq ?_
    refine cregion ?_
    refine sv rfl (opv_build zi31 pi31 parts_nil (.nil _)) ?_
    refine sv rfl (opv_mv rfl) ?_
    obtain ⟨v9, hv9, h⟩ := bind_eq h
    refine scall1 rfl fn14 (opnds_cons rfl (opnds_cons rfl opnds_nil)) (pubC rfl) (m14_prog_Run_c hv9) ?_
    refine sv rfl (opv_mvt rfl) ?_
    refine sv rfl (opv_extract rfl rfl) ?_
    refine sv rfl (opv_extract rfl rfl) ?_
    refine salloc rfl zi35 ?_
    refine sv rfl (opv_as rfl) ?_
    refine sstore sz35 rfl rfl rfl rfl (Nat.le_of_ble_eq_true rfl) ?_
    refine smem [.box a0, .box a1, .box v4.2, .box v6.2, .box v8.2, .box v9.2] rfl ?_
    refine snil ?_
    refine cseq ?_
    refine cdraw mixed (by kernel_rfl) ?_
    refine dv rfl (opv_mv rfl) ?_
    refine dv rfl (opv_mv rfl) ?_
    refine dsplit 64 rfl (fun hc => ?_) (fun hc => ?_)
    · replace h := ite_t hc h
      clear hc
      refine dvg rfl rfl rfl (opv_mv rfl) ?_
      refine dvg rfl rfl rfl (opv_mv rfl) ?_
      obtain ⟨v10, hv10, h⟩ := bind_eq h
      refine ddg rfl rfl rfl (opD_call fn16 (opnds_cons rfl (opnds_cons rfl opnds_nil)) rfl (m16_r05_KVs_c hv10)) ?_
      refine dv rfl (opv_pick_t rfl rfl) ?_
      refine dv rfl (opv_mv rfl) ?_
      refine dsplit 69 rfl (fun hc => ?_) (fun hc => ?_)
      · replace h := ite_t hc h
        clear hc
        refine dvg rfl rfl rfl (opv_loadN ti35 rfl (.lp _ _ _ rfl) (Nat.le_of_ble_eq_true rfl)) ?_
        obtain ⟨v11, hv11, h⟩ := bind_eq h
        refine ddg rfl rfl rfl (opD_call fn17 (opnds_cons rfl opnds_nil) rfl (m17_l19_stated_c hv11)) ?_
        refine dvg rfl rfl rfl (opv_loadN ti35 rfl (.lp _ _ _ rfl) (Nat.le_of_ble_eq_true rfl)) ?_
        obtain ⟨v12, hv12, h⟩ := bind_eq h
        refine ddg rfl rfl rfl (opD_call fn17 (opnds_cons rfl opnds_nil) rfl (m17_l19_stated_c hv12)) ?_
        refine dvg rfl rfl rfl (opv_deql ed40 rfl rfl rfl rfl rfl) ?_
        refine dv rfl (opv_pick_t rfl rfl) ?_
        refine dv rfl (opv_mv rfl) ?_
        refine dsplit 76 rfl (fun hc => ?_) (fun hc => ?_)
        · replace h := ite_t hc h
          clear hc
          refine dvg rfl rfl rfl (opv_mv rfl) ?_
          refine dvg rfl rfl rfl (opv_mv rfl) ?_
          obtain ⟨v13, hv13, h⟩ := bind_eq h
          refine ddg rfl rfl rfl (opD_call fn16 (opnds_cons rfl (opnds_cons rfl opnds_nil)) rfl (m16_r05_KVs_c hv13)) ?_
          refine dv rfl (opv_pick_t rfl rfl) ?_
          refine dv rfl (opv_mv rfl) ?_
          refine dsplit 81 rfl (fun hc => ?_) (fun hc => ?_)
          · replace h := ite_t hc h
            clear hc
            refine dvg rfl rfl rfl (opv_fieldAddr_lp fi35_0 rfl) ?_
            refine dvg rfl rfl rfl (opv_load1 ti3 rfl (.lp _ _ _ rfl) rfl) ?_
            refine dvg rfl rfl rfl (opv_ieql rfl rfl) ?_
            refine dv rfl (opv_pick_t rfl rfl) ?_
            refine dv rfl (opv_mv rfl) ?_
            refine dsplit 86 rfl (fun hc => ?_) (fun hc => ?_)
            · replace h := ite_t hc h
              clear hc
              refine dvg rfl rfl rfl (opv_mv rfl) ?_
              obtain ⟨v14, hv14, h⟩ := bind_eq h
              refine ddg rfl rfl rfl (opD_call fn12 (opnds_cons rfl opnds_nil) rfl (m12_r09_Rising_c hv14)) ?_
              refine dv rfl (opv_pick_t rfl rfl) ?_
              refine dv rfl (opv_as rfl) ?_
              refine dnil ?_
              refine then_normal ?_
              refine cret ?_
              obtain rfl := Option.some.inj h
              refine ⟨Or.inr rfl, _, _, _, (resVs_cons (ResV.tmp _ _ rfl) resVs_nil), (pubA_id rfl), ?_⟩
              rfl
            · replace h := ite_f hc h
              clear hc
              refine doff rfl rfl rfl rfl ?_
              refine doff rfl rfl rfl rfl ?_
              refine dv rfl (opv_pick_f rfl rfl) ?_
              refine dv rfl (opv_as rfl) ?_
              refine dnil ?_
              refine then_normal ?_
              refine cret ?_
              obtain rfl := Option.some.inj h
              refine ⟨Or.inr rfl, _, _, _, (resVs_cons (ResV.tmp _ _ rfl) resVs_nil), (pubA_id rfl), ?_⟩
              rfl
          · replace h := ite_f hc h
            clear hc
            refine doff rfl rfl rfl rfl ?_
            refine doff rfl rfl rfl rfl ?_
            refine doff rfl rfl rfl rfl ?_
            refine dv rfl (opv_pick_f rfl rfl) ?_
            refine dv rfl (opv_mv rfl) ?_
            refine doff rfl rfl rfl rfl ?_
            refine doff rfl rfl rfl rfl ?_
            refine dv rfl (opv_pick_f rfl rfl) ?_
            refine dv rfl (opv_as rfl) ?_
            refine dnil ?_
            refine then_normal ?_
            refine cret ?_
            obtain rfl := Option.some.inj h
            refine ⟨Or.inr rfl, _, _, _, (resVs_cons (ResV.tmp _ _ rfl) resVs_nil), (pubA_id rfl), ?_⟩
            rfl
        · replace h := ite_f hc h
          clear hc
          refine doff rfl rfl rfl rfl ?_
          refine doff rfl rfl rfl rfl ?_
          refine doff rfl rfl rfl rfl ?_
          refine dv rfl (opv_pick_f rfl rfl) ?_
          refine dv rfl (opv_mv rfl) ?_
          refine doff rfl rfl rfl rfl ?_
          refine doff rfl rfl rfl rfl ?_
          refine doff rfl rfl rfl rfl ?_
          refine dv rfl (opv_pick_f rfl rfl) ?_
          refine dv rfl (opv_mv rfl) ?_
          refine doff rfl rfl rfl rfl ?_
          refine doff rfl rfl rfl rfl ?_
          refine dv rfl (opv_pick_f rfl rfl) ?_
          refine dv rfl (opv_as rfl) ?_
          refine dnil ?_
          refine then_normal ?_
          refine cret ?_
          obtain rfl := Option.some.inj h
          refine ⟨Or.inr rfl, _, _, _, (resVs_cons (ResV.tmp _ _ rfl) resVs_nil), (pubA_id rfl), ?_⟩
          rfl
      · replace h := ite_f hc h
        clear hc
        refine doff rfl rfl rfl rfl ?_
        refine doff rfl rfl rfl rfl ?_
        refine doff rfl rfl rfl rfl ?_
        refine doff rfl rfl rfl rfl ?_
        refine doff rfl rfl rfl rfl ?_
        refine dv rfl (opv_pick_f rfl rfl) ?_
        refine dv rfl (opv_mv rfl) ?_
        refine doff rfl rfl rfl rfl ?_
        refine doff rfl rfl rfl rfl ?_
        refine doff rfl rfl rfl rfl ?_
        refine dv rfl (opv_pick_f rfl rfl) ?_
        refine dv rfl (opv_mv rfl) ?_
        refine doff rfl rfl rfl rfl ?_
        refine doff rfl rfl rfl rfl ?_
        refine doff rfl rfl rfl rfl ?_
        refine dv rfl (opv_pick_f rfl rfl) ?_
        refine dv rfl (opv_mv rfl) ?_
        refine doff rfl rfl rfl rfl ?_
        refine doff rfl rfl rfl rfl ?_
        refine dv rfl (opv_pick_f rfl rfl) ?_
        refine dv rfl (opv_as rfl) ?_
        refine dnil ?_
        refine then_normal ?_
        refine cret ?_
        obtain rfl := Option.some.inj h
        refine ⟨Or.inr rfl, _, _, _, (resVs_cons (ResV.tmp _ _ rfl) resVs_nil), (pubA_id rfl), ?_⟩
        rfl
    · replace h := ite_f hc h
      clear hc
      refine doff rfl rfl rfl rfl ?_
      refine doff rfl rfl rfl rfl ?_
      refine doff rfl rfl rfl rfl ?_
      refine dv rfl (opv_pick_f rfl rfl) ?_
      refine dv rfl (opv_mv rfl) ?_
      refine doff rfl rfl rfl rfl ?_
      refine doff rfl rfl rfl rfl ?_
      refine doff rfl rfl rfl rfl ?_
      refine doff rfl rfl rfl rfl ?_
      refine doff rfl rfl rfl rfl ?_
      refine dv rfl (opv_pick_f rfl rfl) ?_
      refine dv rfl (opv_mv rfl) ?_
      refine doff rfl rfl rfl rfl ?_
      refine doff rfl rfl rfl rfl ?_
      refine doff rfl rfl rfl rfl ?_
      refine dv rfl (opv_pick_f rfl rfl) ?_
      refine dv rfl (opv_mv rfl) ?_
      refine doff rfl rfl rfl rfl ?_
      refine doff rfl rfl rfl rfl ?_
      refine doff rfl rfl rfl rfl ?_
      refine dv rfl (opv_pick_f rfl rfl) ?_
      refine dv rfl (opv_mv rfl) ?_
      refine doff rfl rfl rfl rfl ?_
      refine doff rfl rfl rfl rfl ?_
      refine dv rfl (opv_pick_f rfl rfl) ?_
      refine dv rfl (opv_as rfl) ?_
      refine dnil ?_
      refine then_normal ?_
      refine cret ?_
      obtain rfl := Option.some.inj h
      refine ⟨Or.inr rfl, _, _, _, (resVs_cons (ResV.tmp _ _ rfl) resVs_nil), (pubA_id rfl), ?_⟩
      rfl
  · skip
    refine cregion ?_
    refine sv rfl (opv_loadN ti24 rfl (.lp _ _ _ rfl) (Nat.le_of_ble_eq_true rfl)) ?_
    obtain ⟨v15, hv15, h⟩ := bind_eq h
    refine scall1 rfl fn10 (opnds_cons rfl opnds_nil) (pubA_id rfl) (m10_r19_Few_c hv15) ?_
    refine sv rfl (opv_not rfl) ?_
    refine sv rfl (opv_mv rfl) ?_
    refine ssplit 20 rfl (fun hc => ?_) (fun hc => ?_)
    · replace h := ite_t hc h
      clear hc
      refine soff rfl rfl rfl rfl ?_
      refine soff rfl rfl rfl rfl ?_
      refine soff rfl rfl rfl rfl ?_
      refine sv rfl (opv_pick_t rfl rfl) ?_
      refine sv rfl (opv_mv rfl) ?_
      refine soff rfl rfl rfl rfl ?_
      refine soff rfl rfl rfl rfl ?_
      refine soff rfl rfl rfl rfl ?_
      refine sv rfl (opv_pick_t rfl rfl) ?_
      refine sv rfl (opv_mv rfl) ?_
      refine soff rfl rfl rfl rfl ?_
      refine soff rfl rfl rfl rfl ?_
      refine soff rfl rfl rfl rfl ?_
      refine sv rfl (opv_pick_t rfl rfl) ?_
      refine snil ?_
      refine ccond rfl (fun _ => ?_) (fun hx => Bool.noConfusion hx)
      refine cseq ?_
      refine cregion ?_
      refine sv rfl (opv_mv rfl) ?_
      refine sv rfl (opv_as rfl) ?_
      refine snil ?_
      refine cret ?_
      refine then_ret ?_
      obtain rfl := Option.some.inj h
      refine ⟨Or.inr rfl, _, _, _, (resVs_cons (ResV.tmp _ _ rfl) resVs_nil), (pubA_id rfl), ?_⟩
      rfl
    · replace h := ite_f hc h
      clear hc
      refine son rfl rfl rfl ?_
      refine sv rfl (opv_loadN ti24 rfl (.lp _ _ _ rfl) (Nat.le_of_ble_eq_true rfl)) ?_
      refine son rfl rfl rfl ?_
      obtain ⟨v16, hv16, h⟩ := bind_eq h
      refine scall1 rfl fn10 (opnds_cons rfl opnds_nil) (pubA_id rfl) (m10_r19_Few_c hv16) ?_
      refine son rfl rfl rfl ?_
      refine sv rfl (opv_not rfl) ?_
      refine sv rfl (opv_pick_f rfl rfl) ?_
      refine sv rfl (opv_mv rfl) ?_
      refine ssplit 25 rfl (fun hc => ?_) (fun hc => ?_)
      · replace h := ite_t hc h
        clear hc
        refine soff rfl rfl rfl rfl ?_
        refine soff rfl rfl rfl rfl ?_
        refine soff rfl rfl rfl rfl ?_
        refine sv rfl (opv_pick_t rfl rfl) ?_
        refine sv rfl (opv_mv rfl) ?_
        refine soff rfl rfl rfl rfl ?_
        refine soff rfl rfl rfl rfl ?_
        refine soff rfl rfl rfl rfl ?_
        refine sv rfl (opv_pick_t rfl rfl) ?_
        refine snil ?_
        refine ccond rfl (fun _ => ?_) (fun hx => Bool.noConfusion hx)
        refine cseq ?_
        refine cregion ?_
        refine sv rfl (opv_mv rfl) ?_
        refine sv rfl (opv_as rfl) ?_
        refine snil ?_
        refine cret ?_
        refine then_ret ?_
        obtain rfl := Option.some.inj h
        refine ⟨Or.inr rfl, _, _, _, (resVs_cons (ResV.tmp _ _ rfl) resVs_nil), (pubA_id rfl), ?_⟩
        rfl
      · replace h := ite_f hc h
        clear hc
        refine son rfl rfl rfl ?_
        refine sv rfl (opv_mv rfl) ?_
        refine son rfl rfl rfl ?_
        obtain ⟨v17, hv17, h⟩ := bind_eq h
        refine scall1 rfl fn11 (opnds_cons rfl opnds_nil) (pubA_id rfl) (m11_l19_short_c hv17) ?_
        refine son rfl rfl rfl ?_
        refine sv rfl (opv_not rfl) ?_
        refine sv rfl (opv_pick_f rfl rfl) ?_
        refine sv rfl (opv_mv rfl) ?_
        refine ssplit 30 rfl (fun hc => ?_) (fun hc => ?_)
        · replace h := ite_t hc h
          clear hc
          refine soff rfl rfl rfl rfl ?_
          refine soff rfl rfl rfl rfl ?_
          refine soff rfl rfl rfl rfl ?_
          refine sv rfl (opv_pick_t rfl rfl) ?_
          refine snil ?_
          refine ccond rfl (fun _ => ?_) (fun hx => Bool.noConfusion hx)
          refine cseq ?_
          refine cregion ?_
          refine sv rfl (opv_mv rfl) ?_
          refine sv rfl (opv_as rfl) ?_
          refine snil ?_
          refine cret ?_
          refine then_ret ?_
          obtain rfl := Option.some.inj h
          refine ⟨Or.inr rfl, _, _, _, (resVs_cons (ResV.tmp _ _ rfl) resVs_nil), (pubA_id rfl), ?_⟩
          rfl
        · replace h := ite_f hc h
          clear hc
          refine son rfl rfl rfl ?_
          refine sv rfl (opv_mv rfl) ?_
          refine son rfl rfl rfl ?_
          obtain ⟨v18, hv18, h⟩ := bind_eq h
          refine scall1 rfl fn12 (opnds_cons rfl opnds_nil) (pubA_id rfl) (m12_r09_Rising_c hv18) ?_
          refine son rfl rfl rfl ?_
          refine sv rfl (opv_not rfl) ?_
          refine sv rfl (opv_pick_f rfl rfl) ?_
          refine snil ?_
          refine ccond rfl (fun hc => ?_) (fun hc => ?_)
          · replace h := ite_t hc h
            clear hc
            refine cseq ?_
            refine cregion ?_
            refine sv rfl (opv_mv rfl) ?_
            refine sv rfl (opv_as rfl) ?_
            refine snil ?_
            refine cret ?_
            refine then_ret ?_
            obtain rfl := Option.some.inj h
            refine ⟨Or.inr rfl, _, _, _, (resVs_cons (ResV.tmp _ _ rfl) resVs_nil), (pubA_id rfl), ?_⟩
            rfl
          · replace h := ite_f hc h
            clear hc
            refine cskip ?_
            refine then_normal ?_
            exact ⟨(), _, h, ⟨rfl, rfl, rfl, rfl, trivial⟩, rfl⟩

def m40_enc_New (a0 : List UInt8) : Option (Int × Int × (List UInt8)) :=
  some (0, 0, a0)

set_option maxRecDepth 100000 in
theorem m40_enc_New_c {a0 : List UInt8} {r : Int × Int × (List UInt8)} (h : m40_enc_New a0 = some r) : CallsB Try.prog 40 [] [.one (.sl a0.length (a0.flatMap eU8))] (fun y m' => y = .s (.one (.lp 0 0)) ∧ m' = [.box [.fn 53 [] [.lp 1 0, .lp 2 0], .i .i64 r.1], .box [.i .i64 r.2.1], .box [.sl r.2.2.length (r.2.2.flatMap eU8)]]) := by
  unfold m40_enc_New at h
  refine callsB_of Try.func40 rfl (nt := 7) rfl (Nat.le_of_ble_eq_true rfl) ?_
  intro w0 S0 X0 H0
  refine cseq ?_
  refine cregion ?_
  refine sbox rfl rfl ?_
  refine sv rfl (opv_as rfl) ?_
  refine snil ?_
  refine cseq ?_
  refine cregion ?_
  refine salloc rfl zi3 ?_
  refine sstore sz3 rfl rfl rfl rfl (Nat.le_of_ble_eq_true rfl) ?_
  refine smem [.box [.sl a0.length (a0.flatMap eU8)], .box [.i .i64 0]] rfl ?_
  refine snil ?_
  refine cseq ?_
  refine cregion ?_
  refine sv rfl (opv_makeFunc opnds1_nil (opnds1_cons rfl rfl (opnds1_cons rfl rfl opnds1_nil))) ?_
  refine sv rfl (opv_build zi113 pi113 (parts_cons rfl parts_nil) (.cons _ _ _ _ _ _ _ rfl rfl (Nat.le_of_ble_eq_true rfl) (.nil _))) ?_
  refine sbox rfl rfl ?_
  refine sv rfl (opv_as rfl) ?_
  refine snil ?_
  refine cret ?_
  obtain rfl := Option.some.inj h
  exact ⟨Or.inr rfl, _, [2, 1, 0], [.one (.lp 0 0)], [.box [.fn 53 [] [.lp 1 0, .lp 2 0], .i .i64 0], .box [.i .i64 0], .box [.sl a0.length (a0.flatMap eU8)]], (resVs_cons (ResV.tmp _ _ rfl) resVs_nil), rfl, rfl, ⟨by decide, rfl⟩, rfl, rfl, ⟨rfl, rfl⟩⟩

def m74_buffer_byKey (a0 : GApiKV) (a1 : GApiKV) : Option Int :=
  (m57_keys_Cmp a0.Key a1.Key).bind fun v1 => some v1

set_option maxRecDepth 100000 in
theorem m74_buffer_byKey_c {a0 : GApiKV} {a1 : GApiKV} {r : Int} (h : m74_buffer_byKey a0 a1 = some r) : CallsA Try.prog 74 [.agg a0, .agg a1] (· = .s (.one (.i .i64 r))) := by
  unfold m74_buffer_byKey at h
  refine callsA_of Try.func74 rfl (nt := 10) rfl (Nat.le_of_ble_eq_true rfl) ?_
  intro w0 S0
  refine cseq ?_
  refine cregion ?_
  refine sbox rfl rfl ?_
  refine sbox rfl rfl ?_
  refine sv rfl (opv_as rfl) ?_
  refine snil ?_
  refine cseq ?_
  refine cregion ?_
  refine sv rfl (opv_fieldAddr_lp fi65_0 rfl) ?_
  refine sv rfl (opv_load1 ti42 rfl (.lp _ _ _ rfl) rfl) ?_
  refine sv rfl (opv_fieldAddr_lp fi65_0 rfl) ?_
  refine sv rfl (opv_load1 ti42 rfl (.lp _ _ _ rfl) rfl) ?_
  obtain ⟨v1, hv1, h⟩ := bind_eq h
  refine scall1 rfl fn57 (opnds_cons rfl (opnds_cons rfl opnds_nil)) (pubA_id rfl) (m57_keys_Cmp_c hv1) ?_
  refine sv rfl (opv_as rfl) ?_
  refine snil ?_
  refine cret ?_
  obtain rfl := Option.some.inj h
  refine ⟨Or.inr rfl, _, _, _, (resVs_cons (ResV.tmp _ _ rfl) resVs_nil), (pubA_id rfl), ?_⟩
  rfl

def m76_keys_key_reached (a0 : List UInt8) (a1 : List UInt8) : Option Bool :=
  (m57_keys_Cmp a1 a0).bind fun v1 => some (decide (0 ≤ v1))

set_option maxRecDepth 100000 in
theorem m76_keys_key_reached_c {a0 : List UInt8} {a1 : List UInt8} {r : Bool} (h : m76_keys_key_reached a0 a1 = some r) : CallsA Try.prog 76 [.one (.sl a0.length (a0.flatMap eU8)), .one (.sl a1.length (a1.flatMap eU8))] (· = .s (.one (.b r))) := by
  unfold m76_keys_key_reached at h
  refine callsA_of Try.func76 rfl (nt := 9) rfl (Nat.le_of_ble_eq_true rfl) ?_
  intro w0 S0
  refine cseq ?_
  refine cregion ?_
  refine sv rfl (opv_as rfl) ?_
  refine snil ?_
  refine cseq ?_
  refine cregion ?_
  refine sv rfl (opv_mv rfl) ?_
  refine sv rfl (opv_mv rfl) ?_
  obtain ⟨v1, hv1, h⟩ := bind_eq h
  refine scall1 rfl fn57 (opnds_cons rfl (opnds_cons rfl opnds_nil)) (pubA_id rfl) (m57_keys_Cmp_c hv1) ?_
  refine sv rfl (opv_geq rfl rfl) ?_
  refine sv rfl (opv_as rfl) ?_
  refine snil ?_
  refine cret ?_
  obtain rfl := Option.some.inj h
  refine ⟨Or.inr rfl, _, _, _, (resVs_cons (ResV.tmp _ _ rfl) resVs_nil), (pubA_id rfl), ?_⟩
  rfl


end Go.Proofs.Ytdehclinlcnlhaa.Abs
