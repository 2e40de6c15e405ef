/-
  t
-/
import Derived.Test.YtdehclinlcnlhaaT19b
namespace Go.Proofs.Ytdehclinlcnlhaa.Abs
open Go.RowKit Go.Proofs
def m36_r09_Over (a0 : GR09Buf) (a1 : List GApiKV) (a2 : GApiRange) (a3 : Int) : Option (List GApiKV) :=
  (m51_r09_Sane (GR09Buf.mk a0.L)).bind fun v19 => if (!v19) then (some ([] : List GApiKV)) else ((m12_r09_Rising a1).bind fun v20 => if (!v20) then (some ([] : List GApiKV)) else (m36_r09_Over_k1 a0 a1 a2 a3 ()))

set_option maxRecDepth 100000 in
theorem m36_r09_Over_c {a0 : GR09Buf} {a1 : List GApiKV} {a2 : GApiRange} {a3 : Int} {r : (List GApiKV)} (h : m36_r09_Over a0 a1 a2 a3 = some r) : CallsA Try.prog 36 [.agg [.sl a0.L.length (a0.L.flatMap eGApiWrite)], .one (.sl a1.length (a1.flatMap eGApiKV)), .agg a2, .one (.i .i64 a3)] (· = .s (.one (.sl r.length (r.flatMap eGApiKV)))) := by
  unfold m36_r09_Over at h
  refine callsA_of Try.func36 rfl (nt := 109) rfl (Nat.le_of_ble_eq_true rfl) ?_
  intro w0 S0
  refine cseq ?_
  refine cregion ?_
  refine sbox rfl rfl ?_
  refine sbox rfl rfl ?_
  refine sv rfl (opv_as rfl) ?_
  refine snil ?_
  refine cseq ?_
  refine cregion ?_
  refine sv rfl (opv_as rfl) ?_
  refine snil ?_
  refine cseq ?_
  refine cseq ?_
  refine cjoin3 (Unit) (fun b1 => [(1, .s (.one (.sl a1.length (a1.flatMap eGApiKV)))), (3, .s (.one (.i .i64 a3))), (4, .s (.one (.lp 0 0))), (6, .s (.one (.lp 1 0))), (9, .s (.one (.raw (.slice none 0 0))))]) (fun b1 => [.box [.sl a0.L.length (a0.L.flatMap eGApiWrite)], .box a2]) (fun b1 => m36_r09_Over_k1 a0 a1 a2 a3 b1 = some r) (fun _ _ => inbL_of rfl) (fun _ _ => blkinb_of rfl) (fun _ _ => Nat.le_of_ble_eq_true rfl) (fun b1 h => ?_) ?_
  · unfold m36_r09_Over_k1 at h
    refine cseq ?_
    refine cregion ?_
    refine sv rfl (opv_as rfl) ?_
    refine snil ?_
    refine cseq ?_
    refine cregion ?_
    refine sv rfl (opv_as rfl) ?_
    refine snil ?_
    refine cseq ?_
    refine sadopt_c 65 2 9 (by decide) rfl ?_
    refine cjoin ((List GApiKV)) (fun b2 => [(9, .s (.one (.ls 2 b2.length)))]) (fun b2 => [.box [.sl a0.L.length (a0.L.flatMap eGApiWrite)], .box a2, .arr 65 2 0 (b2.flatMap eGApiKV)]) (fun b2 => m36_r09_Over_k2 b2 = some r) (fun _ _ => inbL_of rfl) (fun _ _ => blkinb_of rfl) (fun _ _ => Nat.le_of_ble_eq_true rfl) (fun b2 h => ?_) ?_
    · unfold m36_r09_Over_k2 at h
      refine cseq ?_
      refine cregion ?_
      refine sv rfl (opv_mv rfl) ?_
      refine sv rfl (opv_as rfl) ?_
      refine snil ?_
      refine cret ?_
      obtain rfl := Option.some.inj h
      refine ⟨Or.inr rfl, _, _, _, (resVs_cons (ResV.tmp _ _ rfl) resVs_nil), (by (repeat' first | exact PubA.nil _ | apply PubA.cons | apply PubV.one | apply PubV.agg | exact PubL.nil | exact PubL.ls _ _ _ _ _ _ rfl (flat_len (f := eGApiKV) (fun _ => rfl) _).symm | exact PubL.id _ rfl | exact PubLs.nil _ | apply PubLs.cons)), ?_⟩
      rfl
    · skip
      refine cblock ?_
      obtain ⟨x3, hx3, ho3⟩ := bind_eq h
      refine awc_loop (G := Nat × (Int × Int × (List GApiKV))) (fun g => [(1, .s (.one (.sl a1.length (a1.flatMap eGApiKV)))), (3, .s (.one (.i .i64 a3))), (4, .s (.one (.lp 0 0))), (6, .s (.one (.lp 1 0))), (9, .s (.one (.ls 2 g.2.2.2.length))), (10, .s (.one (.i .i64 g.2.1))), (11, .s (.one (.i .i64 g.2.2.1)))]) (fun g => [.box [.sl a0.L.length (a0.L.flatMap eGApiWrite)], .box a2, .arr 65 2 0 (g.2.2.2.flatMap eGApiKV)]) (fun g => iterB (m36_r09_Over_s3 a0 a1 a2 a3) g.1 g.2 = some x3) (fun g => g.1) (fuel, (0, 0, ([] : List GApiKV))) hx3 ⟨rfl, rfl, rfl, rfl, rfl, rfl, rfl, trivial⟩ [] rfl (fun _ _ => inbL_of rfl) (fun _ _ => blkinb_of rfl) (fun _ _ => Nat.le_of_ble_eq_true rfl) ?_
      clear hx3 h
      rintro ⟨n3, s3⟩ h
      obtain ⟨n3, y3, rfl, h, hk3⟩ := iterB_eq h
      unfold m36_r09_Over_s3 at h
      refine cseq ?_
      refine cseq ?_
      refine cjoin3 (Unit) (fun b4 => [(1, .s (.one (.sl a1.length (a1.flatMap eGApiKV)))), (3, .s (.one (.i .i64 a3))), (4, .s (.one (.lp 0 0))), (6, .s (.one (.lp 1 0))), (9, .s (.one (.ls 2 s3.2.2.length))), (10, .s (.one (.i .i64 s3.1))), (11, .s (.one (.i .i64 s3.2.1)))]) (fun b4 => [.box [.sl a0.L.length (a0.L.flatMap eGApiWrite)], .box a2, .arr 65 2 0 (s3.2.2.flatMap eGApiKV)]) (fun b4 => m36_r09_Over_k4 a0 a1 a2 s3 b4 = some y3) (fun _ _ => inbL_of rfl) (fun _ _ => blkinb_of rfl) (fun _ _ => Nat.le_of_ble_eq_true rfl) (fun b4 h => ?_) ?_
      · unfold m36_r09_Over_k4 at h
        refine cblock ?_
        refine cseq ?_
        refine cregion ?_
        refine sv rfl (opv_as rfl) ?_
        refine snil ?_
        refine cseq ?_
        refine cseq ?_
        refine cregion ?_
        refine sv rfl (opv_mv rfl) ?_
        refine sv rfl (opv_mv rfl) ?_
        refine sv rfl (opv_len_sl si25 rfl) ?_
        refine sv rfl (opv_geq rfl rfl) ?_
        refine snil ?_
        refine cjoin (Int) (fun b5 => [(1, .s (.one (.sl a1.length (a1.flatMap eGApiKV)))), (3, .s (.one (.i .i64 a3))), (4, .s (.one (.lp 0 0))), (6, .s (.one (.lp 1 0))), (9, .s (.one (.ls 2 s3.2.2.length))), (10, .s (.one (.i .i64 s3.1))), (11, .s (.one (.i .i64 s3.2.1))), (12, .s (.one (.i .i64 b5)))]) (fun b5 => [.box [.sl a0.L.length (a0.L.flatMap eGApiWrite)], .box a2, .arr 65 2 0 (s3.2.2.flatMap eGApiKV)]) (fun b5 => m36_r09_Over_k5 a0 a1 a2 s3 b5 = some y3) (fun _ _ => inbL_of rfl) (fun _ _ => blkinb_of rfl) (fun _ _ => Nat.le_of_ble_eq_true rfl) (fun b5 h => ?_) ?_
        · unfold m36_r09_Over_k5 at h
          refine cseq ?_
          refine cregion ?_
          refine sv rfl (opv_build zi65 pi65 parts_nil (.nil _)) ?_
          refine salloc rfl zi65 ?_
          refine sstore sz65 rfl rfl rfl rfl (Nat.le_of_ble_eq_true rfl) ?_
          refine smem [.box [.sl a0.L.length (a0.L.flatMap eGApiWrite)], .box a2, .arr 65 2 0 (s3.2.2.flatMap eGApiKV), .box [.raw (.slice none 0 0), .raw (.slice none 0 0)]] rfl ?_
          refine snil ?_
          refine cseq ?_
          refine cregion ?_
          refine sv rfl (opv_as rfl) ?_
          refine snil ?_
          refine cseq ?_
          refine cseq ?_
          refine cregion ?_
          refine sv rfl (opv_mv rfl) ?_
          refine sv rfl (opv_lss rfl rfl) ?_
          refine snil ?_
          refine cjoin (Bool × (List UInt8) × (List UInt8)) (fun b6 => [(1, .s (.one (.sl a1.length (a1.flatMap eGApiKV)))), (3, .s (.one (.i .i64 a3))), (4, .s (.one (.lp 0 0))), (6, .s (.one (.lp 1 0))), (9, .s (.one (.ls 2 s3.2.2.length))), (10, .s (.one (.i .i64 s3.1))), (11, .s (.one (.i .i64 s3.2.1))), (12, .s (.one (.i .i64 b5))), (13, .s (.one (.lp 3 0))), (14, .s (.one (.b b6.1)))]) (fun b6 => [.box [.sl a0.L.length (a0.L.flatMap eGApiWrite)], .box a2, .arr 65 2 0 (s3.2.2.flatMap eGApiKV), .box [.sl b6.2.1.length (b6.2.1.flatMap eU8), .sl b6.2.2.length (b6.2.2.flatMap eU8)]]) (fun b6 => m36_r09_Over_k6 a2 s3 b5 b6 = some y3) (fun _ _ => inbL_of rfl) (fun _ _ => blkinb_of rfl) (fun _ _ => Nat.le_of_ble_eq_true rfl) (fun b6 h => ?_) ?_
          · unfold m36_r09_Over_k6 at h
            refine cseq ?_
            refine cseq ?_
            refine cregion ?_
            refine sv rfl (opv_mv rfl) ?_
            refine sv rfl (opv_leq rfl rfl) ?_
            refine snil ?_
            refine cjoin (Int) (fun b7 => [(1, .s (.one (.sl a1.length (a1.flatMap eGApiKV)))), (3, .s (.one (.i .i64 a3))), (4, .s (.one (.lp 0 0))), (6, .s (.one (.lp 1 0))), (9, .s (.one (.ls 2 s3.2.2.length))), (10, .s (.one (.i .i64 b7))), (11, .s (.one (.i .i64 s3.2.1))), (12, .s (.one (.i .i64 b5))), (13, .s (.one (.lp 3 0))), (14, .s (.one (.b b6.1)))]) (fun b7 => [.box [.sl a0.L.length (a0.L.flatMap eGApiWrite)], .box a2, .arr 65 2 0 (s3.2.2.flatMap eGApiKV), .box [.sl b6.2.1.length (b6.2.1.flatMap eU8), .sl b6.2.2.length (b6.2.2.flatMap eU8)]]) (fun b7 => m36_r09_Over_k7 a2 s3 b5 b6 b7 = some y3) (fun _ _ => inbL_of rfl) (fun _ _ => blkinb_of rfl) (fun _ _ => Nat.le_of_ble_eq_true rfl) (fun b7 h => ?_) ?_
            · unfold m36_r09_Over_k7 at h
              refine cseq ?_
              refine cseq ?_
              refine cregion ?_
              refine sv rfl (opv_mv rfl) ?_
              refine sv rfl (opv_geq rfl rfl) ?_
              refine snil ?_
              refine cjoin (Int) (fun b8 => [(1, .s (.one (.sl a1.length (a1.flatMap eGApiKV)))), (3, .s (.one (.i .i64 a3))), (4, .s (.one (.lp 0 0))), (6, .s (.one (.lp 1 0))), (9, .s (.one (.ls 2 s3.2.2.length))), (10, .s (.one (.i .i64 b7))), (11, .s (.one (.i .i64 b8))), (13, .s (.one (.lp 3 0))), (14, .s (.one (.b b6.1)))]) (fun b8 => [.box [.sl a0.L.length (a0.L.flatMap eGApiWrite)], .box a2, .arr 65 2 0 (s3.2.2.flatMap eGApiKV), .box [.sl b6.2.1.length (b6.2.1.flatMap eU8), .sl b6.2.2.length (b6.2.2.flatMap eU8)]]) (fun b8 => m36_r09_Over_k8 a2 s3 b6 b7 b8 = some y3) (fun _ _ => inbL_of rfl) (fun _ _ => blkinb_of rfl) (fun _ _ => Nat.le_of_ble_eq_true rfl) (fun b8 h => ?_) ?_
              · unfold m36_r09_Over_k8 at h
                refine cseq ?_
                refine cregion ?_
                refine sv rfl (opv_mv rfl) ?_
                refine sv rfl (opv_not rfl) ?_
                refine sv rfl (opv_mv rfl) ?_
                refine ssplit 98 rfl (fun hc => ?_) (fun hc => ?_)
                · replace h := ite_t hc h
                  clear hc
                  refine son rfl rfl rfl ?_
                  refine sv rfl (opv_loadN ti44 rfl (.lp _ _ _ rfl) (Nat.le_of_ble_eq_true rfl)) ?_
                  refine son rfl rfl rfl ?_
                  refine sv rfl (opv_fieldAddr_lp fi65_0 rfl) ?_
                  refine son rfl rfl rfl ?_
                  refine sv rfl (opv_load1 ti42 rfl (.lp _ _ _ rfl) rfl) ?_
                  refine son rfl rfl rfl ?_
                  obtain ⟨v9, hv9, h⟩ := bind_eq h
                  refine scall1 rfl fn35 (opnds_cons rfl (opnds_cons rfl opnds_nil)) (pubA_id rfl) (m35_r06_Has_c hv9) ?_
                  refine sv rfl (opv_pick_t rfl rfl) ?_
                  refine snil ?_
                  refine ccond rfl (fun hc => ?_) (fun hc => ?_)
                  · replace h := ite_t hc h
                    clear hc
                    refine cregion ?_
                    refine sv rfl (opv_mv rfl) ?_
                    refine sv rfl (opv_loadN ti65 rfl (.lp _ _ _ rfl) (Nat.le_of_ble_eq_true rfl)) ?_
                    refine sbuild1 rfl Try.underlying25 ei65 rfl rfl (List.all_eq_true.1 rfl) (by decide) ?_
                    refine smem [.box [.sl a0.L.length (a0.L.flatMap eGApiWrite)], .box a2, .arr 65 2 0 (s3.2.2.flatMap eGApiKV), .box [.sl b6.2.1.length (b6.2.1.flatMap eU8), .sl b6.2.2.length (b6.2.2.flatMap eU8)], .arr 65 2 0 ([(GApiKV.mk b6.2.1 b6.2.2)].flatMap eGApiKV)] rfl ?_
                    obtain ⟨hb10, h⟩ := chk_eq h
                    refine sapp (f := eGApiKV) (xs := s3.2.2) (us := [(GApiKV.mk b6.2.1 b6.2.2)]) rfl Try.underlying25 ei65 ni25 (fun _ => rfl) rfl rfl (.one _ _ _ _ (.ls _ _ _ _ _ _ rfl (flat_len (f := eGApiKV) (fun _ => rfl) [(GApiKV.mk b6.2.1 b6.2.2)]).symm)) rfl rfl rfl (.sl _ _ _ (flat_len (f := eGApiKV) (fun _ => rfl) _)) rfl rfl hb10 (by decide) ?_
                    refine sv rfl (opv_as rfl) ?_
                    refine snil0 ?_
                    refine block_normal ?_
                    refine then_normal ?_
                    obtain rfl := Option.some.inj h
                    exact ⟨(n3, (b7, b8, (s3.2.2 ++ [(GApiKV.mk b6.2.1 b6.2.2)]))), _, hk3, ⟨rfl, rfl, rfl, rfl, rfl, rfl, rfl, trivial⟩, rfl, Nat.lt_succ_self _⟩
                  · replace h := ite_f hc h
                    clear hc
                    refine cskip ?_
                    refine block_normal ?_
                    refine then_normal ?_
                    obtain rfl := Option.some.inj h
                    exact ⟨(n3, (b7, b8, s3.2.2)), _, hk3, ⟨rfl, rfl, rfl, rfl, rfl, rfl, rfl, trivial⟩, rfl, Nat.lt_succ_self _⟩
                · replace h := ite_f hc h
                  clear hc
                  refine soff rfl rfl rfl rfl ?_
                  refine soff rfl rfl rfl rfl ?_
                  refine soff rfl rfl rfl rfl ?_
                  refine soff rfl rfl rfl rfl ?_
                  refine sv rfl (opv_pick_f rfl rfl) ?_
                  refine snil ?_
                  refine ccond rfl (fun hx => Bool.noConfusion hx) (fun _ => ?_)
                  refine cskip ?_
                  refine block_normal ?_
                  refine then_normal ?_
                  obtain rfl := Option.some.inj h
                  exact ⟨(n3, (b7, b8, s3.2.2)), _, hk3, ⟨rfl, rfl, rfl, rfl, rfl, rfl, rfl, trivial⟩, rfl, Nat.lt_succ_self _⟩
              · skip
                refine ccond rfl (fun hc => ?_) (fun hc => ?_)
                · replace h := ite_t hc h
                  clear hc
                  refine cregion ?_
                  refine sv rfl (opv_mv rfl) ?_
                  refine sv rfl (opv_add rfl rfl) ?_
                  refine sv rfl (opv_as rfl) ?_
                  refine snil ?_
                  exact ⟨(wI (s3.2.1 + 1)), _, h, ⟨rfl, rfl, rfl, rfl, rfl, rfl, rfl, rfl, rfl, trivial⟩, rfl⟩
                · replace h := ite_f hc h
                  clear hc
                  refine cskip ?_
                  refine then_normal ?_
                  exact ⟨s3.2.1, _, h, ⟨rfl, rfl, rfl, rfl, rfl, rfl, rfl, rfl, rfl, trivial⟩, rfl⟩
            · skip
              refine ccond rfl (fun hc => ?_) (fun hc => ?_)
              · replace h := ite_t hc h
                clear hc
                refine cregion ?_
                refine sv rfl (opv_mv rfl) ?_
                refine sv rfl (opv_add rfl rfl) ?_
                refine sv rfl (opv_as rfl) ?_
                refine snil ?_
                exact ⟨(wI (s3.1 + 1)), _, h, ⟨rfl, rfl, rfl, rfl, rfl, rfl, rfl, rfl, rfl, rfl, trivial⟩, rfl⟩
              · replace h := ite_f hc h
                clear hc
                refine cskip ?_
                refine then_normal ?_
                exact ⟨s3.1, _, h, ⟨rfl, rfl, rfl, rfl, rfl, rfl, rfl, rfl, rfl, rfl, trivial⟩, rfl⟩
          · skip
            refine ccond rfl (fun hc => ?_) (fun hc => ?_)
            · replace h := ite_t hc h
              clear hc
              refine cregion ?_
              refine sv rfl (opv_mv rfl) ?_
              refine sv rfl (opv_mv rfl) ?_
              obtain ⟨u11, hu11, h⟩ := bind_eq h
              refine sv rfl (opv_ix (f := eGApiKV) si25 (fun _ => rfl) rfl rfl rfl rfl hu11) ?_
              refine sv rfl (opv_loadNe (ys := [.sl u11.Key.length (u11.Key.flatMap eU8), .sl u11.Val.length (u11.Val.flatMap eU8)]) ti65 rfl (.cp _) rfl rfl) ?_
              refine sstore sz65 rfl rfl rfl rfl (Nat.le_of_ble_eq_true rfl) ?_
              refine smem [.box [.sl a0.L.length (a0.L.flatMap eGApiWrite)], .box a2, .arr 65 2 0 (s3.2.2.flatMap eGApiKV), .box u11] rfl ?_
              refine snil ?_
              exact ⟨(false, u11.Key, u11.Val), _, h, ⟨rfl, rfl, rfl, rfl, rfl, rfl, rfl, rfl, rfl, rfl, trivial⟩, rfl⟩
            · replace h := ite_f hc h
              clear hc
              refine cseq ?_
              obtain ⟨u12, hu12, h⟩ := bind_eq h
              obtain ⟨u13, hu13, h⟩ := bind_eq h
              refine cdraw_e [13] [0, 1, 0, 7, 15, 31, 0, 64, 0, 448, 960, 1984, 4095, 8191] [[.box [.sl a0.L.length (a0.L.flatMap eGApiWrite)], .box a2, .arr 65 2 0 (s3.2.2.flatMap eGApiKV), .box [.raw (.slice none 0 0), .raw (.slice none 0 0)]], [.box [.sl a0.L.length (a0.L.flatMap eGApiWrite)], .box a2, .arr 65 2 0 (s3.2.2.flatMap eGApiKV), .box [.sl u12.Key.length (u12.Key.flatMap eU8), .sl u13.Val.length (u13.Val.flatMap eU8)]]] (by kernel_rfl) mixed (by kernel_rfl) (by decide) rfl rfl rfl rfl ?_
              refine ev (sees_at 0 rfl rfl) rfl rfl (opv_fieldAddr_lp fi89_0 rfl) ?_
              refine ev (sees_at 0 rfl rfl) rfl rfl (opv_load1 ti74 rfl (.lp _ _ _ rfl) rfl) ?_
              refine ev (sees_at 0 rfl rfl) rfl rfl (opv_mv rfl) ?_
              refine ev (sees_at 0 rfl rfl) rfl rfl (opv_ix (f := eGApiWrite) si74 (fun _ => rfl) rfl rfl rfl rfl hu12) ?_
              refine ev (sees_at 0 rfl rfl) rfl rfl (opv_fieldAddr_cp fi88_0 rfl) ?_
              refine ev (sees_at 0 rfl rfl) rfl rfl (opv_load1 ti42 rfl (.cp _) rfl) ?_
              refine ev (sees_at 0 rfl rfl) rfl rfl (opv_fieldAddr_lp fi89_0 rfl) ?_
              refine ev (sees_at 0 rfl rfl) rfl rfl (opv_load1 ti74 rfl (.lp _ _ _ rfl) rfl) ?_
              refine ev (sees_at 0 rfl rfl) rfl rfl (opv_mv rfl) ?_
              refine ev (sees_at 0 rfl rfl) rfl rfl (opv_ix (f := eGApiWrite) si74 (fun _ => rfl) rfl rfl rfl rfl hu13) ?_
              refine ev (sees_at 0 rfl rfl) rfl rfl (opv_fieldAddr_cp fi88_1 rfl) ?_
              refine ev (sees_at 0 rfl rfl) rfl rfl (opv_load1 ti42 rfl (.cp _) rfl) ?_
              refine ev (sees_at 0 rfl rfl) rfl rfl (opv_build zi65 pi65 (parts_cons rfl (parts_cons rfl parts_nil)) (.cons _ _ _ _ _ _ _ rfl rfl (Nat.le_of_ble_eq_true rfl) (.cons _ _ _ _ _ _ _ rfl rfl (Nat.le_of_ble_eq_true rfl) (.nil _)))) ?_
              refine ee0 0 rfl rfl rfl rfl (fun ζ => ?_) ?_
              · refine sstore sz65 rfl rfl rfl rfl (Nat.le_of_ble_eq_true rfl) ?_
                refine smem [.box [.sl a0.L.length (a0.L.flatMap eGApiWrite)], .box a2, .arr 65 2 0 (s3.2.2.flatMap eGApiKV), .box [.sl u12.Key.length (u12.Key.flatMap eU8), .sl u13.Val.length (u13.Val.flatMap eU8)]] rfl ?_
                exact eend
              refine enil ?_
              refine then_normal ?_
              refine cregion ?_
              refine sv rfl (opv_fieldAddr_lp fi89_0 rfl) ?_
              refine sv rfl (opv_load1 ti74 rfl (.lp _ _ _ rfl) rfl) ?_
              refine sv rfl (opv_mv rfl) ?_
              obtain ⟨u14, hu14, h⟩ := bind_eq h
              refine sv rfl (opv_ix (f := eGApiWrite) si74 (fun _ => rfl) rfl rfl rfl rfl hu14) ?_
              refine sv rfl (opv_fieldAddr_cp fi88_2 rfl) ?_
              refine sv rfl (opv_load1 ti4 rfl (.cp _) rfl) ?_
              refine sv rfl (opv_as rfl) ?_
              refine snil ?_
              exact ⟨(u14.Del, u12.Key, u13.Val), _, h, ⟨rfl, rfl, rfl, rfl, rfl, rfl, rfl, rfl, rfl, rfl, trivial⟩, rfl⟩
        · skip
          refine ccond rfl (fun hc => ?_) (fun hc => ?_)
          · replace h := ite_t hc h
            clear hc
            refine cregion ?_
            refine sv rfl (opv_as rfl) ?_
            refine snil ?_
            exact ⟨1, _, h, ⟨rfl, rfl, rfl, rfl, rfl, rfl, rfl, rfl, trivial⟩, rfl⟩
          · replace h := ite_f hc h
            clear hc
            refine cseq ?_
            refine cregion ?_
            refine sv rfl (opv_mv rfl) ?_
            refine sv rfl (opv_fieldAddr_lp fi89_0 rfl) ?_
            refine sv rfl (opv_load1 ti74 rfl (.lp _ _ _ rfl) rfl) ?_
            refine sv rfl (opv_len_sl si74 rfl) ?_
            refine sv rfl (opv_lss rfl rfl) ?_
            refine snil ?_
            refine ccond rfl (fun hc => ?_) (fun hc => ?_)
            · replace h := ite_t hc h
              clear hc
              refine cdraw mixed (by kernel_rfl) ?_
              refine dv rfl (opv_mv rfl) ?_
              refine dv rfl (opv_mv rfl) ?_
              obtain ⟨u15, hu15, h⟩ := bind_eq h
              refine dv rfl (opv_ix (f := eGApiKV) si25 (fun _ => rfl) rfl rfl rfl rfl hu15) ?_
              refine dv rfl (opv_fieldAddr_cp fi65_0 rfl) ?_
              refine dv rfl (opv_load1 ti42 rfl (.cp _) rfl) ?_
              refine dv rfl (opv_fieldAddr_lp fi89_0 rfl) ?_
              refine dv rfl (opv_load1 ti74 rfl (.lp _ _ _ rfl) rfl) ?_
              refine dv rfl (opv_mv rfl) ?_
              obtain ⟨u16, hu16, h⟩ := bind_eq h
              refine dv rfl (opv_ix (f := eGApiWrite) si74 (fun _ => rfl) rfl rfl rfl rfl hu16) ?_
              refine dv rfl (opv_fieldAddr_cp fi88_0 rfl) ?_
              refine dv rfl (opv_load1 ti42 rfl (.cp _) rfl) ?_
              obtain ⟨v17, hv17, h⟩ := bind_eq h
              refine dd rfl (opD_call fn27 (opnds_cons rfl (opnds_cons rfl opnds_nil)) rfl (m27_r06_Cmp_c hv17)) ?_
              refine dv rfl (opv_as rfl) ?_
              refine dnil ?_
              refine then_normal ?_
              exact ⟨v17, _, h, ⟨rfl, rfl, rfl, rfl, rfl, rfl, rfl, rfl, trivial⟩, rfl⟩
            · replace h := ite_f hc h
              clear hc
              refine cskip ?_
              refine then_normal ?_
              exact ⟨(-1), _, h, ⟨rfl, rfl, rfl, rfl, rfl, rfl, rfl, rfl, trivial⟩, rfl⟩
      · skip
        refine cregion ?_
        refine sv rfl (opv_mv rfl) ?_
        refine sv rfl (opv_mv rfl) ?_
        refine sv rfl (opv_len_sl si25 rfl) ?_
        refine sv rfl (opv_lss rfl rfl) ?_
        refine sv rfl (opv_mv rfl) ?_
        refine ssplit 28 rfl (fun hc => ?_) (fun hc => ?_)
        · replace h := ite_t hc h
          clear hc
          refine soff rfl rfl rfl rfl ?_
          refine soff rfl rfl rfl rfl ?_
          refine soff rfl rfl rfl rfl ?_
          refine soff rfl rfl rfl rfl ?_
          refine soff rfl rfl rfl rfl ?_
          refine sv rfl (opv_pick_t rfl rfl) ?_
          refine sv rfl (opv_mv rfl) ?_
          refine son rfl rfl rfl ?_
          refine sv rfl (opv_mv rfl) ?_
          refine son rfl rfl rfl ?_
          refine sv rfl (opv_len_ls si25 rfl rfl (flat_len (f := eGApiKV) (fun _ => rfl) _).symm) ?_
          refine son rfl rfl rfl ?_
          refine sv rfl (opv_mv rfl) ?_
          refine son rfl rfl rfl ?_
          refine sv rfl (opv_lss rfl rfl) ?_
          refine sv rfl (opv_pick_t rfl rfl) ?_
          refine snil ?_
          refine ccond rfl (fun hc => ?_) (fun hc => ?_)
          · replace h := ite_t hc h
            clear hc
            refine cskip ?_
            refine then_normal ?_
            exact ⟨(), _, h, ⟨rfl, rfl, rfl, rfl, rfl, rfl, rfl, trivial⟩, rfl⟩
          · replace h := ite_f hc h
            clear hc
            refine cexit ?_
            refine then_exit ?_
            refine then_exit ?_
            refine block_hit ?_
            refine then_normal ?_
            obtain rfl := Option.some.inj h
            obtain rfl : _ = x3 := hk3
            exact ⟨s3.2.2, _, ho3, ⟨rfl, trivial⟩, rfl⟩
        · replace h := ite_f hc h
          clear hc
          refine son rfl rfl rfl ?_
          refine sv rfl (opv_mv rfl) ?_
          refine son rfl rfl rfl ?_
          refine sv rfl (opv_fieldAddr_lp fi89_0 rfl) ?_
          refine son rfl rfl rfl ?_
          refine sv rfl (opv_load1 ti74 rfl (.lp _ _ _ rfl) rfl) ?_
          refine son rfl rfl rfl ?_
          refine sv rfl (opv_len_sl si74 rfl) ?_
          refine son rfl rfl rfl ?_
          refine sv rfl (opv_lss rfl rfl) ?_
          refine sv rfl (opv_pick_f rfl rfl) ?_
          refine sv rfl (opv_mv rfl) ?_
          refine ssplit 35 rfl (fun hc => ?_) (fun hc => ?_)
          · replace h := ite_t hc h
            clear hc
            refine son rfl rfl rfl ?_
            refine sv rfl (opv_mv rfl) ?_
            refine son rfl rfl rfl ?_
            refine sv rfl (opv_len_ls si25 rfl rfl (flat_len (f := eGApiKV) (fun _ => rfl) _).symm) ?_
            refine son rfl rfl rfl ?_
            refine sv rfl (opv_mv rfl) ?_
            refine son rfl rfl rfl ?_
            refine sv rfl (opv_lss rfl rfl) ?_
            refine sv rfl (opv_pick_t rfl rfl) ?_
            refine snil ?_
            refine ccond rfl (fun hc => ?_) (fun hc => ?_)
            · replace h := ite_t hc h
              clear hc
              refine cskip ?_
              refine then_normal ?_
              exact ⟨(), _, h, ⟨rfl, rfl, rfl, rfl, rfl, rfl, rfl, trivial⟩, rfl⟩
            · replace h := ite_f hc h
              clear hc
              refine cexit ?_
              refine then_exit ?_
              refine then_exit ?_
              refine block_hit ?_
              refine then_normal ?_
              obtain rfl := Option.some.inj h
              obtain rfl : _ = x3 := hk3
              exact ⟨s3.2.2, _, ho3, ⟨rfl, trivial⟩, rfl⟩
          · replace h := ite_f hc h
            clear hc
            refine soff rfl rfl rfl rfl ?_
            refine soff rfl rfl rfl rfl ?_
            refine soff rfl rfl rfl rfl ?_
            refine soff rfl rfl rfl rfl ?_
            refine sv rfl (opv_pick_f rfl rfl) ?_
            refine snil ?_
            refine ccond rfl (fun hx => Bool.noConfusion hx) (fun _ => ?_)
            refine cexit ?_
            refine then_exit ?_
            refine then_exit ?_
            refine block_hit ?_
            refine then_normal ?_
            obtain rfl := Option.some.inj h
            obtain rfl : _ = x3 := hk3
            exact ⟨s3.2.2, _, ho3, ⟨rfl, trivial⟩, rfl⟩
  · skip
    refine cregion ?_
    refine sv rfl (opv_loadN ti89 rfl (.lp _ _ _ rfl) (Nat.le_of_ble_eq_true rfl)) ?_
    obtain ⟨v19, hv19, h⟩ := bind_eq h
    refine scall1 rfl fn51 (opnds_cons rfl opnds_nil) (pubA_id rfl) (m51_r09_Sane_c hv19) ?_
    refine sv rfl (opv_not rfl) ?_
    refine sv rfl (opv_mv rfl) ?_
    refine ssplit 18 rfl (fun hc => ?_) (fun hc => ?_)
    · replace h := ite_t hc h
      clear hc
      refine soff rfl rfl rfl rfl ?_
      refine soff rfl rfl rfl rfl ?_
      refine soff rfl rfl rfl rfl ?_
      refine sv rfl (opv_pick_t rfl rfl) ?_
      refine snil ?_
      refine ccond rfl (fun _ => ?_) (fun hx => Bool.noConfusion hx)
      refine cseq ?_
      refine cregion ?_
      refine sv rfl (opv_mv rfl) ?_
      refine sv rfl (opv_as rfl) ?_
      refine snil ?_
      refine cret ?_
      refine then_ret ?_
      obtain rfl := Option.some.inj h
      refine ⟨Or.inr rfl, _, _, _, (resVs_cons (ResV.tmp _ _ rfl) resVs_nil), (pubC rfl), ?_⟩
      rfl
    · replace h := ite_f hc h
      clear hc
      refine son rfl rfl rfl ?_
      refine sv rfl (opv_mv rfl) ?_
      refine son rfl rfl rfl ?_
      obtain ⟨v20, hv20, h⟩ := bind_eq h
      refine scall1 rfl fn12 (opnds_cons rfl opnds_nil) (pubA_id rfl) (m12_r09_Rising_c hv20) ?_
      refine son rfl rfl rfl ?_
      refine sv rfl (opv_not rfl) ?_
      refine sv rfl (opv_pick_f rfl rfl) ?_
      refine snil ?_
      refine ccond rfl (fun hc => ?_) (fun hc => ?_)
      · replace h := ite_t hc h
        clear hc
        refine cseq ?_
        refine cregion ?_
        refine sv rfl (opv_mv rfl) ?_
        refine sv rfl (opv_as rfl) ?_
        refine snil ?_
        refine cret ?_
        refine then_ret ?_
        obtain rfl := Option.some.inj h
        refine ⟨Or.inr rfl, _, _, _, (resVs_cons (ResV.tmp _ _ rfl) resVs_nil), (pubC rfl), ?_⟩
        rfl
      · replace h := ite_f hc h
        clear hc
        refine cskip ?_
        refine then_normal ?_
        exact ⟨(), _, h, ⟨rfl, rfl, rfl, rfl, rfl, trivial⟩, rfl⟩

def m19_l19_told_k2 (a0 : GMsgReq) (a1 : List GApiKV) (b1 : Bool × (List UInt8) × (List GApiKV)) (b2 : Unit) : Option (GMsgReply × (List GApiKV)) :=
  (m36_r09_Over (GR09Buf.mk [(GApiWrite.mk a0.Key a0.Val (decide (a0.Kind = 5)))]) a1 (GApiRange.mk ([] : List UInt8) ([] : List UInt8) true) 1000).bind fun v3 => some ((GMsgReply.mk 0 0 0 0 b1.1 b1.2.1 b1.2.2), v3)

def m19_l19_told_k1 (a0 : GMsgReq) (a1 : List GApiKV) (b1 : Bool × (List UInt8) × (List GApiKV)) : Option (GMsgReply × (List GApiKV)) :=
  if (!decide (a0.Kind = 4)) then (if (!decide (a0.Kind = 5)) then (some ((GMsgReply.mk 0 0 0 0 b1.1 b1.2.1 b1.2.2), a1)) else (m19_l19_told_k2 a0 a1 b1 ())) else (m19_l19_told_k2 a0 a1 b1 ())

def m19_l19_told_k5 (a0 : GMsgReq) (a1 : List GApiKV) (s4 : Int × Bool × (List UInt8) × (List GApiKV)) (b5 : Bool × (List UInt8)) : Option (LB (Int × Bool × (List UInt8) × (List GApiKV)) (Bool × (List UInt8) × (List GApiKV))) :=
  if (decide (a0.Kind = 6)) then ((idx a1 s4.1).bind fun u6 => (m35_r06_Has (GApiRange.mk a0.Rng.Lo a0.Rng.Hi a0.Rng.Open) u6.Key).bind fun v7 => if v7 then (if (decide ((s4.2.2.2.length : Int) < 8)) then ((idx a1 s4.1).bind fun u8 => if (s4.2.2.2.length + ([u8] : List GApiKV).length) * 48 ≤ 140737488355328 then (some (.cont ((wI (s4.1 + 1)), b5.1, b5.2, (s4.2.2.2 ++ ([u8] : List GApiKV))))) else none) else (some (.cont ((wI (s4.1 + 1)), b5.1, b5.2, s4.2.2.2)))) else (some (.cont ((wI (s4.1 + 1)), b5.1, b5.2, s4.2.2.2)))) else (some (.cont ((wI (s4.1 + 1)), b5.1, b5.2, s4.2.2.2)))

def m19_l19_told_s4 (a0 : GMsgReq) (a1 : List GApiKV) (s4 : Int × Bool × (List UInt8) × (List GApiKV)) : Option (LB (Int × Bool × (List UInt8) × (List GApiKV)) (Bool × (List UInt8) × (List GApiKV))) :=
  if (decide (s4.1 < (a1.length : Int))) then (if (decide (a0.Kind = 3)) then ((idx a1 s4.1).bind fun u10 => if (u10.Key == a0.Key) then ((idx a1 s4.1).bind fun u11 => m19_l19_told_k5 a0 a1 s4 (true, u11.Val)) else (m19_l19_told_k5 a0 a1 s4 (s4.2.1, s4.2.2.1))) else (m19_l19_told_k5 a0 a1 s4 (s4.2.1, s4.2.2.1))) else (some (.brk (s4.2.1, s4.2.2.1, s4.2.2.2)))
def m19_l19_told (a0 : GMsgReq) (a1 : List GApiKV) : Option (GMsgReply × (List GApiKV)) :=
  (iterB (m19_l19_told_s4 a0 a1) fuel (0, false, ([] : List UInt8), ([] : List GApiKV))).bind fun e12 => m19_l19_told_k1 a0 a1 e12

set_option maxRecDepth 100000 in
theorem m19_l19_told_c {a0 : GMsgReq} {a1 : List GApiKV} {r : GMsgReply × (List GApiKV)} (h : m19_l19_told a0 a1 = some r) : CallsA Try.prog 19 [.agg a0, .one (.sl a1.length (a1.flatMap eGApiKV))] (· = .tup [.agg r.1, .one (.sl r.2.length (r.2.flatMap eGApiKV))]) := by
  unfold m19_l19_told at h
  refine callsA_of Try.func19 rfl (nt := 91) rfl (Nat.le_of_ble_eq_true rfl) ?_
  intro w0 S0
  refine cseq ?_
  refine cregion ?_
  refine sbox rfl rfl ?_
  refine salloc rfl zi51 ?_
  refine sv rfl (opv_as rfl) ?_
  refine snil ?_
  refine cseq ?_
  refine cregion ?_
  refine sv rfl (opv_build zi51 pi51 parts_nil (.nil _)) ?_
  refine salloc rfl zi51 ?_
  refine sstore sz51 rfl rfl rfl rfl (Nat.le_of_ble_eq_true rfl) ?_
  refine smem [.box a0, .box [.i .i64 0, .i .i64 0, .i .i64 0, .i .i64 0, .b false, .raw (.slice none 0 0), .raw (.slice none 0 0)], .box [.i .i64 0, .i .i64 0, .i .i64 0, .i .i64 0, .b false, .raw (.slice none 0 0), .raw (.slice none 0 0)]] rfl ?_
  refine snil ?_
  refine cseq ?_
  refine cseq ?_
  refine cregion ?_
  refine sv rfl (opv_as rfl) ?_
  refine snil ?_
  refine sadopt_box_c 65 2 2 6 (by decide) rfl rfl ?_
  refine cjoin (Bool × (List UInt8) × (List GApiKV)) (fun b1 => [(1, .s (.one (.sl a1.length (a1.flatMap eGApiKV)))), (2, .s (.one (.lp 0 0))), (4, .s (.one (.lp 1 0))), (6, .s (.one (.lp 2 0)))]) (fun b1 => [.box a0, .box [.i .i64 0, .i .i64 0, .i .i64 0, .i .i64 0, .b false, .raw (.slice none 0 0), .raw (.slice none 0 0)], .box [.i .i64 0, .i .i64 0, .i .i64 0, .i .i64 0, .b b1.1, .sl b1.2.1.length (b1.2.1.flatMap eU8), .ls 3 b1.2.2.length], .arr 65 2 0 (b1.2.2.flatMap eGApiKV)]) (fun b1 => m19_l19_told_k1 a0 a1 b1 = some r) (fun _ _ => inbL_of rfl) (fun _ _ => blkinb_of rfl) (fun _ _ => Nat.le_of_ble_eq_true rfl) (fun b1 h => ?_) ?_
  · unfold m19_l19_told_k1 at h
    refine cseq ?_
    refine cseq ?_
    refine cjoin3 (Unit) (fun b2 => [(1, .s (.one (.sl a1.length (a1.flatMap eGApiKV)))), (2, .s (.one (.lp 0 0))), (4, .s (.one (.lp 1 0))), (6, .s (.one (.lp 2 0)))]) (fun b2 => [.box a0, .box [.i .i64 0, .i .i64 0, .i .i64 0, .i .i64 0, .b false, .raw (.slice none 0 0), .raw (.slice none 0 0)], .box [.i .i64 0, .i .i64 0, .i .i64 0, .i .i64 0, .b b1.1, .sl b1.2.1.length (b1.2.1.flatMap eU8), .ls 3 b1.2.2.length], .arr 65 2 0 (b1.2.2.flatMap eGApiKV)]) (fun b2 => m19_l19_told_k2 a0 a1 b1 b2 = some r) (fun _ _ => inbL_of rfl) (fun _ _ => blkinb_of rfl) (fun _ _ => Nat.le_of_ble_eq_true rfl) (fun b2 h => ?_) ?_
    · unfold m19_l19_told_k2 at h
      refine cseq ?_
      refine cregion ?_
      refine sv rfl (opv_fieldAddr_lp fi46_5 rfl) ?_
      refine sv rfl (opv_load1 ti42 rfl (.lp _ _ _ rfl) rfl) ?_
      refine sv rfl (opv_fieldAddr_lp fi46_6 rfl) ?_
      refine sv rfl (opv_load1 ti42 rfl (.lp _ _ _ rfl) rfl) ?_
      refine sv rfl (opv_fieldAddr_lp fi46_0 rfl) ?_
      refine sv rfl (opv_load1 ti3 rfl (.lp _ _ _ rfl) rfl) ?_
      refine sv rfl (opv_ieql rfl rfl) ?_
      refine sv rfl (opv_build zi88 pi88 (parts_cons rfl (parts_cons rfl (parts_cons rfl parts_nil))) (.cons _ _ _ _ _ _ _ rfl rfl (Nat.le_of_ble_eq_true rfl) (.cons _ _ _ _ _ _ _ rfl rfl (Nat.le_of_ble_eq_true rfl) (.cons _ _ _ _ _ _ _ rfl rfl (Nat.le_of_ble_eq_true rfl) (.nil _))))) ?_
      refine sbuild1 rfl Try.underlying74 ei88 rfl rfl (List.all_eq_true.1 rfl) (by decide) ?_
      refine smem [.box a0, .box [.i .i64 0, .i .i64 0, .i .i64 0, .i .i64 0, .b false, .raw (.slice none 0 0), .raw (.slice none 0 0)], .box [.i .i64 0, .i .i64 0, .i .i64 0, .i .i64 0, .b b1.1, .sl b1.2.1.length (b1.2.1.flatMap eU8), .ls 3 b1.2.2.length], .arr 65 2 0 (b1.2.2.flatMap eGApiKV), .arr 88 3 0 ([(GApiWrite.mk a0.Key a0.Val (decide (a0.Kind = 5)))].flatMap eGApiWrite)] rfl ?_
      refine sv rfl (opv_build zi89 pi89 (parts_cons rfl parts_nil) (.cons _ _ _ _ _ _ _ rfl rfl (Nat.le_of_ble_eq_true rfl) (.nil _))) ?_
      refine salloc rfl zi89 ?_
      refine sstore sz89 rfl rfl rfl rfl (Nat.le_of_ble_eq_true rfl) ?_
      refine smem [.box a0, .box [.i .i64 0, .i .i64 0, .i .i64 0, .i .i64 0, .b false, .raw (.slice none 0 0), .raw (.slice none 0 0)], .box [.i .i64 0, .i .i64 0, .i .i64 0, .i .i64 0, .b b1.1, .sl b1.2.1.length (b1.2.1.flatMap eU8), .ls 3 b1.2.2.length], .arr 65 2 0 (b1.2.2.flatMap eGApiKV), .arr 88 3 0 ([(GApiWrite.mk a0.Key a0.Val (decide (a0.Kind = 5)))].flatMap eGApiWrite), .box [.ls 4 [(GApiWrite.mk a0.Key a0.Val (decide (a0.Kind = 5)))].length]] rfl ?_
      refine snil ?_
      refine cseq ?_
      refine cpubbox 5 0 rfl rfl (PubL.ls _ _ _ _ _ _ rfl (flat_len (f := eGApiWrite) (fun _ => rfl) ([(GApiWrite.mk a0.Key a0.Val (decide (a0.Kind = 5)))] : List GApiWrite)).symm) rfl ?_
      obtain ⟨v3, hv3, h⟩ := bind_eq h
      refine cdraw_e [5] [0, 0, 0, 0, 14, 31, 63] [[.box a0, .box [.i .i64 0, .i .i64 0, .i .i64 0, .i .i64 0, .b false, .raw (.slice none 0 0), .raw (.slice none 0 0)], .box [.i .i64 0, .i .i64 0, .i .i64 0, .i .i64 0, .b b1.1, .sl b1.2.1.length (b1.2.1.flatMap eU8), .ls 3 b1.2.2.length], .arr 65 2 0 (b1.2.2.flatMap eGApiKV), .arr 88 3 ([(GApiWrite.mk a0.Key a0.Val (decide (a0.Kind = 5)))].flatMap eGApiWrite).length ([(GApiWrite.mk a0.Key a0.Val (decide (a0.Kind = 5)))].flatMap eGApiWrite), .box [.sl [(GApiWrite.mk a0.Key a0.Val (decide (a0.Kind = 5)))].length ([(GApiWrite.mk a0.Key a0.Val (decide (a0.Kind = 5)))].flatMap eGApiWrite)]], [.box a0, .box [.i .i64 0, .i .i64 0, .i .i64 0, .i .i64 0, .b b1.1, .sl b1.2.1.length (b1.2.1.flatMap eU8), .ls 3 b1.2.2.length], .box [.i .i64 0, .i .i64 0, .i .i64 0, .i .i64 0, .b b1.1, .sl b1.2.1.length (b1.2.1.flatMap eU8), .ls 3 b1.2.2.length], .arr 65 2 0 (b1.2.2.flatMap eGApiKV), .arr 88 3 ([(GApiWrite.mk a0.Key a0.Val (decide (a0.Kind = 5)))].flatMap eGApiWrite).length ([(GApiWrite.mk a0.Key a0.Val (decide (a0.Kind = 5)))].flatMap eGApiWrite), .box [.sl [(GApiWrite.mk a0.Key a0.Val (decide (a0.Kind = 5)))].length ([(GApiWrite.mk a0.Key a0.Val (decide (a0.Kind = 5)))].flatMap eGApiWrite)]]] (by kernel_rfl) mixed (by kernel_rfl) (by decide) rfl rfl rfl rfl ?_
      refine ev (sees_at 0 rfl rfl) rfl rfl (opv_loadN ti51 rfl (.lp _ _ _ rfl) (Nat.le_of_ble_eq_true rfl)) ?_
      refine ev (sees_at 0 rfl rfl) rfl rfl (opv_loadN ti89 rfl (.lp _ _ _ rfl) (Nat.le_of_ble_eq_true rfl)) ?_
      refine ev (sees_at 0 rfl rfl) rfl rfl (opv_mv rfl) ?_
      refine ev (sees_at 0 rfl rfl) rfl rfl (opv_build zi44 pi44 (parts_cons rfl parts_nil) (.cons _ _ _ _ _ _ _ rfl rfl (Nat.le_of_ble_eq_true rfl) (.nil _))) ?_
      refine ed (sees_at 0 rfl rfl) rfl rfl (opD_callN fn36 (opnds_cons rfl (opnds_cons rfl (opnds_cons rfl (opnds_cons rfl opnds_nil)))) rfl (m36_r09_Over_c hv3)) ?_
      refine ee0 0 rfl rfl rfl rfl (fun ζ => ?_) ?_
      · refine sstore sz51 rfl rfl rfl rfl (Nat.le_of_ble_eq_true rfl) ?_
        refine smem [.box a0, .box [.i .i64 0, .i .i64 0, .i .i64 0, .i .i64 0, .b b1.1, .sl b1.2.1.length (b1.2.1.flatMap eU8), .ls 3 b1.2.2.length], .box [.i .i64 0, .i .i64 0, .i .i64 0, .i .i64 0, .b b1.1, .sl b1.2.1.length (b1.2.1.flatMap eU8), .ls 3 b1.2.2.length], .arr 65 2 0 (b1.2.2.flatMap eGApiKV), .arr 88 3 ([(GApiWrite.mk a0.Key a0.Val (decide (a0.Kind = 5)))].flatMap eGApiWrite).length ([(GApiWrite.mk a0.Key a0.Val (decide (a0.Kind = 5)))].flatMap eGApiWrite), .box [.sl [(GApiWrite.mk a0.Key a0.Val (decide (a0.Kind = 5)))].length ([(GApiWrite.mk a0.Key a0.Val (decide (a0.Kind = 5)))].flatMap eGApiWrite)]] rfl ?_
        exact eend
      refine ev (sees_at 1 rfl rfl) rfl rfl (opv_as rfl) ?_
      refine enil ?_
      refine then_normal ?_
      refine cret ?_
      obtain rfl := Option.some.inj h
      refine ⟨Or.inr rfl, _, _, _, (resVs_cons (ResV.agg _ _ _ _ _ ti51 rfl (.lp _ _ _ rfl) (Nat.le_of_ble_eq_true rfl)) (resVs_cons (ResV.tmp _ _ rfl) resVs_nil)), (by (repeat' first | exact PubA.nil _ | apply PubA.cons | apply PubV.one | apply PubV.agg | exact PubL.nil | exact PubL.ls _ _ _ _ _ _ rfl (flat_len (f := eGApiKV) (fun _ => rfl) _).symm | exact PubL.ls _ _ _ _ _ _ rfl (flat_len (f := eGApiWrite) (fun _ => rfl) _).symm | exact PubL.id _ rfl | exact PubLs.nil _ | apply PubLs.cons)), ?_⟩
      rfl
    · skip
      refine cregion ?_
      refine sv rfl (opv_fieldAddr_lp fi46_0 rfl) ?_
      refine sv rfl (opv_load1 ti3 rfl (.lp _ _ _ rfl) rfl) ?_
      refine sv rfl (opv_ineq rfl rfl) ?_
      refine sv rfl (opv_mv rfl) ?_
      refine ssplit 69 rfl (fun hc => ?_) (fun hc => ?_)
      · replace h := ite_t hc h
        clear hc
        refine son rfl rfl rfl ?_
        refine sv rfl (opv_fieldAddr_lp fi46_0 rfl) ?_
        refine son rfl rfl rfl ?_
        refine sv rfl (opv_load1 ti3 rfl (.lp _ _ _ rfl) rfl) ?_
        refine son rfl rfl rfl ?_
        refine sv rfl (opv_ineq rfl rfl) ?_
        refine sv rfl (opv_pick_t rfl rfl) ?_
        refine snil ?_
        refine ccond rfl (fun hc => ?_) (fun hc => ?_)
        · replace h := ite_t hc h
          clear hc
          refine cseq ?_
          refine cregion ?_
          refine sv rfl (opv_loadN ti51 rfl (.lp _ _ _ rfl) (Nat.le_of_ble_eq_true rfl)) ?_
          refine sv rfl (opv_mv rfl) ?_
          refine sstore sz51 rfl rfl rfl rfl (Nat.le_of_ble_eq_true rfl) ?_
          refine smem [.box a0, .box [.i .i64 0, .i .i64 0, .i .i64 0, .i .i64 0, .b b1.1, .sl b1.2.1.length (b1.2.1.flatMap eU8), .ls 3 b1.2.2.length], .box [.i .i64 0, .i .i64 0, .i .i64 0, .i .i64 0, .b b1.1, .sl b1.2.1.length (b1.2.1.flatMap eU8), .ls 3 b1.2.2.length], .arr 65 2 0 (b1.2.2.flatMap eGApiKV)] rfl ?_
          refine sv rfl (opv_as rfl) ?_
          refine snil ?_
          refine cret ?_
          refine then_ret ?_
          obtain rfl := Option.some.inj h
          refine ⟨Or.inr rfl, _, _, _, (resVs_cons (ResV.agg _ _ _ _ _ ti51 rfl (.lp _ _ _ rfl) (Nat.le_of_ble_eq_true rfl)) (resVs_cons (ResV.tmp _ _ rfl) resVs_nil)), (by (repeat' first | exact PubA.nil _ | apply PubA.cons | apply PubV.one | apply PubV.agg | exact PubL.nil | exact PubL.ls _ _ _ _ _ _ rfl (flat_len (f := eGApiKV) (fun _ => rfl) _).symm | exact PubL.id _ rfl | exact PubLs.nil _ | apply PubLs.cons)), ?_⟩
          rfl
        · replace h := ite_f hc h
          clear hc
          refine cskip ?_
          refine then_normal ?_
          exact ⟨(), _, h, ⟨rfl, rfl, rfl, rfl, trivial⟩, rfl⟩
      · replace h := ite_f hc h
        clear hc
        refine soff rfl rfl rfl rfl ?_
        refine soff rfl rfl rfl rfl ?_
        refine soff rfl rfl rfl rfl ?_
        refine sv rfl (opv_pick_f rfl rfl) ?_
        refine snil ?_
        refine ccond rfl (fun hx => Bool.noConfusion hx) (fun _ => ?_)
        refine cskip ?_
        refine then_normal ?_
        exact ⟨(), _, h, ⟨rfl, rfl, rfl, rfl, trivial⟩, rfl⟩
  · skip
    refine cblock ?_
    refine cpubbox 2 5 rfl rfl PubL.nil rfl ?_
    obtain ⟨x4, hx4, ho4⟩ := bind_eq h
    refine awc_loop (G := Nat × (Int × Bool × (List UInt8) × (List GApiKV))) (fun g => [(1, .s (.one (.sl a1.length (a1.flatMap eGApiKV)))), (2, .s (.one (.lp 0 0))), (4, .s (.one (.lp 1 0))), (6, .s (.one (.lp 2 0))), (7, .s (.one (.i .i64 g.2.1)))]) (fun g => [.box a0, .box [.i .i64 0, .i .i64 0, .i .i64 0, .i .i64 0, .b false, .raw (.slice none 0 0), .raw (.slice none 0 0)], .box [.i .i64 0, .i .i64 0, .i .i64 0, .i .i64 0, .b g.2.2.1, .sl g.2.2.2.1.length (g.2.2.2.1.flatMap eU8), .ls 3 g.2.2.2.2.length], .arr 65 2 0 (g.2.2.2.2.flatMap eGApiKV)]) (fun g => iterB (m19_l19_told_s4 a0 a1) g.1 g.2 = some x4) (fun g => g.1) (fuel, (0, false, ([] : List UInt8), ([] : List GApiKV))) hx4 ⟨rfl, rfl, rfl, rfl, rfl, trivial⟩ [] rfl (fun _ _ => inbL_of rfl) (fun _ _ => blkinb_of rfl) (fun _ _ => Nat.le_of_ble_eq_true rfl) ?_
    clear hx4 h
    rintro ⟨n4, s4⟩ h
    obtain ⟨n4, y4, rfl, h, hk4⟩ := iterB_eq h
    unfold m19_l19_told_s4 at h
    refine cseq ?_
    refine cseq ?_
    refine cregion ?_
    refine sv rfl (opv_mv rfl) ?_
    refine sv rfl (opv_mv rfl) ?_
    refine sv rfl (opv_len_sl si25 rfl) ?_
    refine sv rfl (opv_lss rfl rfl) ?_
    refine snil ?_
    refine ccond rfl (fun hc => ?_) (fun hc => ?_)
    · replace h := ite_t hc h
      clear hc
      refine cskip ?_
      refine then_normal ?_
      refine cseq ?_
      refine cblock ?_
      refine cseq ?_
      refine cseq ?_
      refine cjoin3 (Bool × (List UInt8)) (fun b5 => [(1, .s (.one (.sl a1.length (a1.flatMap eGApiKV)))), (2, .s (.one (.lp 0 0))), (4, .s (.one (.lp 1 0))), (6, .s (.one (.lp 2 0))), (7, .s (.one (.i .i64 s4.1)))]) (fun b5 => [.box a0, .box [.i .i64 0, .i .i64 0, .i .i64 0, .i .i64 0, .b false, .raw (.slice none 0 0), .raw (.slice none 0 0)], .box [.i .i64 0, .i .i64 0, .i .i64 0, .i .i64 0, .b b5.1, .sl b5.2.length (b5.2.flatMap eU8), .ls 3 s4.2.2.2.length], .arr 65 2 0 (s4.2.2.2.flatMap eGApiKV)]) (fun b5 => m19_l19_told_k5 a0 a1 s4 b5 = some y4) (fun _ _ => inbL_of rfl) (fun _ _ => blkinb_of rfl) (fun _ _ => Nat.le_of_ble_eq_true rfl) (fun b5 h => ?_) ?_
      · unfold m19_l19_told_k5 at h
        refine cseq ?_
        refine cdraw mixed (by kernel_rfl) ?_
        refine dv rfl (opv_fieldAddr_lp fi46_0 rfl) ?_
        refine dv rfl (opv_load1 ti3 rfl (.lp _ _ _ rfl) rfl) ?_
        refine dv rfl (opv_ieql rfl rfl) ?_
        refine dv rfl (opv_mv rfl) ?_
        refine dsplit 41 rfl (fun hc => ?_) (fun hc => ?_)
        · replace h := ite_t hc h
          clear hc
          refine dvg rfl rfl rfl (opv_fieldAddr_lp fi46_7 rfl) ?_
          refine dvg rfl rfl rfl (opv_loadN ti44 rfl (.lp _ _ _ rfl) (Nat.le_of_ble_eq_true rfl)) ?_
          refine dvg rfl rfl rfl (opv_mv rfl) ?_
          refine dvg rfl rfl rfl (opv_mv rfl) ?_
          obtain ⟨u6, hu6, h⟩ := bind_eq h
          refine dvg rfl rfl rfl (opv_ix (f := eGApiKV) si25 (fun _ => rfl) rfl rfl rfl rfl hu6) ?_
          refine dvg rfl rfl rfl (opv_fieldAddr_cp fi65_0 rfl) ?_
          refine dvg rfl rfl rfl (opv_load1 ti42 rfl (.cp _) rfl) ?_
          obtain ⟨v7, hv7, h⟩ := bind_eq h
          refine ddg rfl rfl rfl (opD_call fn35 (opnds_cons rfl (opnds_cons rfl opnds_nil)) rfl (m35_r06_Has_c hv7)) ?_
          refine dv rfl (opv_pick_t rfl rfl) ?_
          refine dv rfl (opv_mv rfl) ?_
          refine dsplit 51 rfl (fun hc => ?_) (fun hc => ?_)
          · replace h := ite_t hc h
            clear hc
            refine dvg rfl rfl rfl (opv_fieldAddr_lp fi51_6 rfl) ?_
            refine dvg rfl rfl rfl (opv_load1 ti25 rfl (.lp _ _ _ rfl) rfl) ?_
            refine dvg rfl rfl rfl (opv_len_ls si25 rfl rfl (flat_len (f := eGApiKV) (fun _ => rfl) _).symm) ?_
            refine dvg rfl rfl rfl (opv_lss rfl rfl) ?_
            refine dv rfl (opv_pick_t rfl rfl) ?_
            refine dnil ?_
            refine then_normal ?_
            refine ccond rfl (fun hc => ?_) (fun hc => ?_)
            · replace h := ite_t hc h
              clear hc
              obtain ⟨u8, hu8, h⟩ := bind_eq h
              obtain ⟨hb9, h⟩ := chk_eq h
              refine cdraw_e [7, 9] [0, 1, 0, 0, 12, 28, 60, 127, 255, 511] [[.box a0, .box [.i .i64 0, .i .i64 0, .i .i64 0, .i .i64 0, .b false, .raw (.slice none 0 0), .raw (.slice none 0 0)], .box [.i .i64 0, .i .i64 0, .i .i64 0, .i .i64 0, .b b5.1, .sl b5.2.length (b5.2.flatMap eU8), .ls 3 s4.2.2.2.length], .arr 65 2 0 (s4.2.2.2.flatMap eGApiKV)], [.box a0, .box [.i .i64 0, .i .i64 0, .i .i64 0, .i .i64 0, .b false, .raw (.slice none 0 0), .raw (.slice none 0 0)], .box [.i .i64 0, .i .i64 0, .i .i64 0, .i .i64 0, .b b5.1, .sl b5.2.length (b5.2.flatMap eU8), .ls 3 s4.2.2.2.length], .arr 65 2 0 ((s4.2.2.2 ++ ([u8] : List GApiKV)).flatMap eGApiKV)], [.box a0, .box [.i .i64 0, .i .i64 0, .i .i64 0, .i .i64 0, .b false, .raw (.slice none 0 0), .raw (.slice none 0 0)], .box [.i .i64 0, .i .i64 0, .i .i64 0, .i .i64 0, .b b5.1, .sl b5.2.length (b5.2.flatMap eU8), .ls 3 (s4.2.2.2 ++ ([u8] : List GApiKV)).length], .arr 65 2 0 ((s4.2.2.2 ++ ([u8] : List GApiKV)).flatMap eGApiKV)]] (by kernel_rfl) mixed (by kernel_rfl) (by decide) rfl rfl rfl rfl ?_
              refine ev (sees_at 0 rfl rfl) rfl rfl (opv_fieldAddr_lp fi51_6 rfl) ?_
              refine ev (sees_at 0 rfl rfl) rfl rfl (opv_load1 ti25 rfl (.lp _ _ _ rfl) rfl) ?_
              refine ev (sees_at 0 rfl rfl) rfl rfl (opv_mv rfl) ?_
              refine ev (sees_at 0 rfl rfl) rfl rfl (opv_mv rfl) ?_
              refine ev (sees_at 0 rfl rfl) rfl rfl (opv_ix (f := eGApiKV) si25 (fun _ => rfl) rfl rfl rfl rfl hu8) ?_
              refine ev (sees_at 0 rfl rfl) rfl rfl (opv_loadNe (ys := [.sl u8.Key.length (u8.Key.flatMap eU8), .sl u8.Val.length (u8.Val.flatMap eU8)]) ti65 rfl (.cp _) rfl rfl) ?_
              refine ed (sees_at 0 rfl rfl) rfl rfl (opD_bld (out := ([u8] : List GApiKV).flatMap eGApiKV) Try.underlying25 ei65 (parts_cons rfl parts_nil) (.cons _ _ _ _ _ _ _ rfl rfl (Nat.le_of_ble_eq_true rfl) (.nil _)) rfl (by decide)) ?_
              refine ee (x := .s (.one (.ls 3 (s4.2.2.2 ++ ([u8] : List GApiKV)).length))) 0 rfl rfl rfl rfl rfl (fun ζ => ?_) ?_
              · refine sapp (f := eGApiKV) (xs := s4.2.2.2) (us := ([u8] : List GApiKV)) rfl Try.underlying25 ei65 ni25 (fun _ => rfl) rfl rfl (.one _ _ _ _ (.id _ rfl)) rfl rfl rfl (.sl _ _ _ (flat_len (f := eGApiKV) (fun _ => rfl) _)) rfl rfl hb9 (by decide) ?_
                exact eend
              refine ev (sees_at 1 rfl rfl) rfl rfl (opv_fieldAddr_lp fi51_6 rfl) ?_
              refine ee0 1 rfl rfl rfl rfl (fun ζ => ?_) ?_
              · refine sstore sz25 rfl rfl rfl rfl (Nat.le_of_ble_eq_true rfl) ?_
                refine smem [.box a0, .box [.i .i64 0, .i .i64 0, .i .i64 0, .i .i64 0, .b false, .raw (.slice none 0 0), .raw (.slice none 0 0)], .box [.i .i64 0, .i .i64 0, .i .i64 0, .i .i64 0, .b b5.1, .sl b5.2.length (b5.2.flatMap eU8), .ls 3 (s4.2.2.2 ++ ([u8] : List GApiKV)).length], .arr 65 2 0 ((s4.2.2.2 ++ ([u8] : List GApiKV)).flatMap eGApiKV)] rfl ?_
                exact eend
              refine enil ?_
              refine block_normal ?_
              refine then_normal ?_
              refine cregion ?_
              refine sv rfl (opv_mv rfl) ?_
              refine sv rfl (opv_add rfl rfl) ?_
              refine sv rfl (opv_as rfl) ?_
              refine snil ?_
              obtain rfl := Option.some.inj h
              exact ⟨(n4, ((wI (s4.1 + 1)), b5.1, b5.2, (s4.2.2.2 ++ ([u8] : List GApiKV)))), _, hk4, ⟨rfl, rfl, rfl, rfl, rfl, trivial⟩, rfl, Nat.lt_succ_self _⟩
            · replace h := ite_f hc h
              clear hc
              refine cskip ?_
              refine block_normal ?_
              refine then_normal ?_
              refine cregion ?_
              refine sv rfl (opv_mv rfl) ?_
              refine sv rfl (opv_add rfl rfl) ?_
              refine sv rfl (opv_as rfl) ?_
              refine snil ?_
              obtain rfl := Option.some.inj h
              exact ⟨(n4, ((wI (s4.1 + 1)), b5.1, b5.2, s4.2.2.2)), _, hk4, ⟨rfl, rfl, rfl, rfl, rfl, trivial⟩, rfl, Nat.lt_succ_self _⟩
          · replace h := ite_f hc h
            clear hc
            refine doff rfl rfl rfl rfl ?_
            refine doff rfl rfl rfl rfl ?_
            refine doff rfl rfl rfl rfl ?_
            refine doff rfl rfl rfl rfl ?_
            refine dv rfl (opv_pick_f rfl rfl) ?_
            refine dnil ?_
            refine then_normal ?_
            refine ccond rfl (fun hx => Bool.noConfusion hx) (fun _ => ?_)
            refine cskip ?_
            refine block_normal ?_
            refine then_normal ?_
            refine cregion ?_
            refine sv rfl (opv_mv rfl) ?_
            refine sv rfl (opv_add rfl rfl) ?_
            refine sv rfl (opv_as rfl) ?_
            refine snil ?_
            obtain rfl := Option.some.inj h
            exact ⟨(n4, ((wI (s4.1 + 1)), b5.1, b5.2, s4.2.2.2)), _, hk4, ⟨rfl, rfl, rfl, rfl, rfl, trivial⟩, rfl, Nat.lt_succ_self _⟩
        · replace h := ite_f hc h
          clear hc
          refine doff rfl rfl rfl rfl ?_
          refine doff rfl rfl rfl rfl ?_
          refine doff rfl rfl rfl rfl ?_
          refine doff rfl rfl rfl rfl ?_
          refine doff rfl rfl rfl rfl ?_
          refine doff rfl rfl rfl rfl ?_
          refine doff rfl rfl rfl rfl ?_
          refine doff rfl rfl rfl rfl ?_
          refine dv rfl (opv_pick_f rfl rfl) ?_
          refine dv rfl (opv_mv rfl) ?_
          refine doff rfl rfl rfl rfl ?_
          refine doff rfl rfl rfl rfl ?_
          refine doff rfl rfl rfl rfl ?_
          refine doff rfl rfl rfl rfl ?_
          refine dv rfl (opv_pick_f rfl rfl) ?_
          refine dnil ?_
          refine then_normal ?_
          refine ccond rfl (fun hx => Bool.noConfusion hx) (fun _ => ?_)
          refine cskip ?_
          refine block_normal ?_
          refine then_normal ?_
          refine cregion ?_
          refine sv rfl (opv_mv rfl) ?_
          refine sv rfl (opv_add rfl rfl) ?_
          refine sv rfl (opv_as rfl) ?_
          refine snil ?_
          obtain rfl := Option.some.inj h
          exact ⟨(n4, ((wI (s4.1 + 1)), b5.1, b5.2, s4.2.2.2)), _, hk4, ⟨rfl, rfl, rfl, rfl, rfl, trivial⟩, rfl, Nat.lt_succ_self _⟩
      · skip
        refine cdraw mixed (by kernel_rfl) ?_
        refine dv rfl (opv_fieldAddr_lp fi46_0 rfl) ?_
        refine dv rfl (opv_load1 ti3 rfl (.lp _ _ _ rfl) rfl) ?_
        refine dv rfl (opv_ieql rfl rfl) ?_
        refine dv rfl (opv_mv rfl) ?_
        refine dsplit 19 rfl (fun hc => ?_) (fun hc => ?_)
        · replace h := ite_t hc h
          clear hc
          refine dvg rfl rfl rfl (opv_mv rfl) ?_
          refine dvg rfl rfl rfl (opv_mv rfl) ?_
          obtain ⟨u10, hu10, h⟩ := bind_eq h
          refine dvg rfl rfl rfl (opv_ix (f := eGApiKV) si25 (fun _ => rfl) rfl rfl rfl rfl hu10) ?_
          refine dvg rfl rfl rfl (opv_fieldAddr_cp fi65_0 rfl) ?_
          refine dvg rfl rfl rfl (opv_load1 ti42 rfl (.cp _) rfl) ?_
          refine dvg rfl rfl rfl (opv_bs (l := u10.Key) Try.underlying42 Try.underlying5 Try.underlying9 rfl rfl rfl) ?_
          refine dvg rfl rfl rfl (opv_fieldAddr_lp fi46_5 rfl) ?_
          refine dvg rfl rfl rfl (opv_load1 ti42 rfl (.lp _ _ _ rfl) rfl) ?_
          refine dvg rfl rfl rfl (opv_bs (l := a0.Key) Try.underlying42 Try.underlying5 Try.underlying9 rfl rfl rfl) ?_
          refine dvg rfl rfl rfl (opv_seql' rfl rfl) ?_
          refine dv rfl (opv_pick_t rfl rfl) ?_
          refine dnil ?_
          refine then_normal ?_
          refine ccond rfl (fun hc => ?_) (fun hc => ?_)
          · replace h := ite_t hc h
            clear hc
            refine cseq ?_
            refine cregion ?_
            refine sv rfl (opv_fieldAddr_lp fi51_4 rfl) ?_
            refine sstore sz4 rfl rfl rfl rfl (Nat.le_of_ble_eq_true rfl) ?_
            refine smem [.box a0, .box [.i .i64 0, .i .i64 0, .i .i64 0, .i .i64 0, .b false, .raw (.slice none 0 0), .raw (.slice none 0 0)], .box [.i .i64 0, .i .i64 0, .i .i64 0, .i .i64 0, .b true, .sl s4.2.2.1.length (s4.2.2.1.flatMap eU8), .ls 3 s4.2.2.2.length], .arr 65 2 0 (s4.2.2.2.flatMap eGApiKV)] rfl ?_
            refine snil ?_
            refine cregion ?_
            refine sv rfl (opv_mv rfl) ?_
            refine sv rfl (opv_mv rfl) ?_
            obtain ⟨u11, hu11, h⟩ := bind_eq h
            refine sv rfl (opv_ix (f := eGApiKV) si25 (fun _ => rfl) rfl rfl rfl rfl hu11) ?_
            refine sv rfl (opv_fieldAddr_cp fi65_1 rfl) ?_
            refine sv rfl (opv_load1 ti42 rfl (.cp _) rfl) ?_
            refine sv rfl (opv_fieldAddr_lp fi51_5 rfl) ?_
            refine sstore sz42 rfl rfl rfl rfl (Nat.le_of_ble_eq_true rfl) ?_
            refine smem [.box a0, .box [.i .i64 0, .i .i64 0, .i .i64 0, .i .i64 0, .b false, .raw (.slice none 0 0), .raw (.slice none 0 0)], .box [.i .i64 0, .i .i64 0, .i .i64 0, .i .i64 0, .b true, .sl u11.Val.length (u11.Val.flatMap eU8), .ls 3 s4.2.2.2.length], .arr 65 2 0 (s4.2.2.2.flatMap eGApiKV)] rfl ?_
            refine snil ?_
            exact ⟨(true, u11.Val), _, h, ⟨rfl, rfl, rfl, rfl, rfl, trivial⟩, rfl⟩
          · replace h := ite_f hc h
            clear hc
            refine cskip ?_
            refine then_normal ?_
            exact ⟨(s4.2.1, s4.2.2.1), _, h, ⟨rfl, rfl, rfl, rfl, rfl, trivial⟩, rfl⟩
        · replace h := ite_f hc h
          clear hc
          refine doff rfl rfl rfl rfl ?_
          refine doff rfl rfl rfl rfl ?_
          refine doff rfl rfl rfl rfl ?_
          refine doff rfl rfl rfl rfl ?_
          refine doff rfl rfl rfl rfl ?_
          refine doff rfl rfl rfl rfl ?_
          refine doff rfl rfl rfl rfl ?_
          refine doff rfl rfl rfl rfl ?_
          refine doff rfl rfl rfl rfl ?_
          refine doff rfl rfl rfl rfl ?_
          refine dv rfl (opv_pick_f rfl rfl) ?_
          refine dnil ?_
          refine then_normal ?_
          refine ccond rfl (fun hx => Bool.noConfusion hx) (fun _ => ?_)
          refine cskip ?_
          refine then_normal ?_
          exact ⟨(s4.2.1, s4.2.2.1), _, h, ⟨rfl, rfl, rfl, rfl, rfl, trivial⟩, rfl⟩
    · replace h := ite_f hc h
      clear hc
      refine cexit ?_
      refine then_exit ?_
      refine then_exit ?_
      refine block_hit ?_
      refine then_normal ?_
      obtain rfl := Option.some.inj h
      obtain rfl : _ = x4 := hk4
      exact ⟨(s4.2.1, s4.2.2.1, s4.2.2.2), _, ho4, ⟨rfl, rfl, rfl, rfl, trivial⟩, rfl⟩

def m3_l19_ProgSteps_k8 (v1 : Bool) (b8 : Int × Int × Int × Int × Int × Int × Int × Int × Int × Int × Bool) : Option Bool :=
  if v1 then (some (decide (16 < b8.1))) else (some false)

def m3_l19_ProgSteps_k17 (s9 : (List GApiKV) × Int × Int × Int × Int × Int × Int × Int × Int × Int × Int × Int × Bool) (v14 : GMsgReply × (List GApiKV)) (b15 : Int) (v16 : GProgState × Int) (b17 : Unit) : Option (LR ((List GApiKV) × Int × Int × Int × Int × Int × Int × Int × Int × Int × Int × Int × Bool) (Int × Int × Int × Int × Int × Int × Int × Int × Int × Int × Bool) (Bool)) :=
  some (.cont (v14.2, b15, (wI (s9.2.2.1 + 1)), v16.1.PC, v16.1.Regs.R0, v16.1.Regs.R1, v16.1.Regs.R2, v16.1.Regs.R3, v16.1.Regs.R4, v16.1.Regs.R5, v16.1.Regs.R6, v16.1.Regs.R7, v16.1.Stopped))

def m3_l19_ProgSteps_k15 (v3 : GProgProg) (s9 : (List GApiKV) × Int × Int × Int × Int × Int × Int × Int × Int × Int × Int × Int × Bool) (v10 : GMsgReq × GProgState × Bool) (v14 : GMsgReply × (List GApiKV)) (b15 : Int) : Option (LR ((List GApiKV) × Int × Int × Int × Int × Int × Int × Int × Int × Int × Int × Int × Bool) (Int × Int × Int × Int × Int × Int × Int × Int × Int × Int × Bool) (Bool)) :=
  (m20_prog_Take (GProgProg.mk v3.RO v3.Ops) (GProgState.mk v10.2.1.PC (GAnon33.mk v10.2.1.Regs.R0 v10.2.1.Regs.R1 v10.2.1.Regs.R2 v10.2.1.Regs.R3 v10.2.1.Regs.R4 v10.2.1.Regs.R5 v10.2.1.Regs.R6 v10.2.1.Regs.R7) v10.2.1.Stopped) v14.1).bind fun v16 => if (!decide (v16.2 = 0)) then (some (.ret false)) else (if (decide (v16.1.PC ≤ v10.2.1.PC)) then (some (.ret false)) else (m3_l19_ProgSteps_k17 s9 v14 b15 v16 ()))

def m3_l19_ProgSteps_s9 (a0 : GR19Prog) (v1 : Bool) (v3 : GProgProg) (v4 : (List GApiKV) × GProgState) (s9 : (List GApiKV) × Int × Int × Int × Int × Int × Int × Int × Int × Int × Int × Int × Bool) : Option (LR ((List GApiKV) × Int × Int × Int × Int × Int × Int × Int × Int × Int × Int × Int × Bool) (Int × Int × Int × Int × Int × Int × Int × Int × Int × Int × Bool) (Bool)) :=
  if (decide (s9.2.2.1 ≤ (a0.Ops.length : Int))) then ((m18_prog_Next (GProgProg.mk v3.RO v3.Ops) (GProgState.mk s9.2.2.2.1 (GAnon33.mk s9.2.2.2.2.1 s9.2.2.2.2.2.1 s9.2.2.2.2.2.2.1 s9.2.2.2.2.2.2.2.1 s9.2.2.2.2.2.2.2.2.1 s9.2.2.2.2.2.2.2.2.2.1 s9.2.2.2.2.2.2.2.2.2.2.1 s9.2.2.2.2.2.2.2.2.2.2.2.1) s9.2.2.2.2.2.2.2.2.2.2.2.2)).bind fun v10 => if (!v10.2.2) then (if v1 then (if (decide (16 < s9.2.1)) then (some (.ret true)) else ((m16_r05_KVs s9.1 v4.1).bind fun v11 => if v11 then ((m17_l19_stated (GProgState.mk v10.2.1.PC (GAnon33.mk v10.2.1.Regs.R0 v10.2.1.Regs.R1 v10.2.1.Regs.R2 v10.2.1.Regs.R3 v10.2.1.Regs.R4 v10.2.1.Regs.R5 v10.2.1.Regs.R6 v10.2.1.Regs.R7) v10.2.1.Stopped)).bind fun v12 => (m17_l19_stated (GProgState.mk v4.2.PC (GAnon33.mk v4.2.Regs.R0 v4.2.Regs.R1 v4.2.Regs.R2 v4.2.Regs.R3 v4.2.Regs.R4 v4.2.Regs.R5 v4.2.Regs.R6 v4.2.Regs.R7) v4.2.Stopped)).bind fun v13 => some (.ret ((decide (v12.PC = v13.PC)) && ((decide (v12.Regs.R0 = v13.Regs.R0)) && ((decide (v12.Regs.R1 = v13.Regs.R1)) && ((decide (v12.Regs.R2 = v13.Regs.R2)) && ((decide (v12.Regs.R3 = v13.Regs.R3)) && ((decide (v12.Regs.R4 = v13.Regs.R4)) && ((decide (v12.Regs.R5 = v13.Regs.R5)) && ((decide (v12.Regs.R6 = v13.Regs.R6)) && ((decide (v12.Regs.R7 = v13.Regs.R7)) && ((v12.Stopped == v13.Stopped) && true)))))))))))) else (some (.ret false)))) else (some (.ret false))) else ((m19_l19_told (GMsgReq.mk v10.1.Kind v10.1.Seq v10.1.Token v10.1.Attempt v10.1.RO v10.1.Key v10.1.Val (GApiRange.mk v10.1.Rng.Lo v10.1.Rng.Hi v10.1.Rng.Open)) s9.1).bind fun v14 => if (decide (v10.1.Kind = 4)) then (m3_l19_ProgSteps_k15 v3 s9 v10 v14 (wI (s9.2.1 + 1))) else (if (decide (v10.1.Kind = 5)) then (m3_l19_ProgSteps_k15 v3 s9 v10 v14 (wI (s9.2.1 + 1))) else (m3_l19_ProgSteps_k15 v3 s9 v10 v14 s9.2.1)))) else (some (.brk (s9.2.1, s9.2.2.2.1, s9.2.2.2.2.1, s9.2.2.2.2.2.1, s9.2.2.2.2.2.2.1, s9.2.2.2.2.2.2.2.1, s9.2.2.2.2.2.2.2.2.1, s9.2.2.2.2.2.2.2.2.2.1, s9.2.2.2.2.2.2.2.2.2.2.1, s9.2.2.2.2.2.2.2.2.2.2.2.1, s9.2.2.2.2.2.2.2.2.2.2.2.2)))

def m3_l19_ProgSteps_k2 (a0 : GR19Prog) (a1 : List GApiKV) (v1 : Bool) (b2 : Unit) : Option Bool :=
  (m13_l19_program a0).bind fun v3 => (m14_prog_Run v3 a1).bind fun v4 => (m15_prog_Sane v3).bind fun v5 => if (!v5) then (if v1 then ((m16_r05_KVs v4.1 a1).bind fun v6 => if v6 then ((m17_l19_stated (GProgState.mk v4.2.PC (GAnon33.mk v4.2.Regs.R0 v4.2.Regs.R1 v4.2.Regs.R2 v4.2.Regs.R3 v4.2.Regs.R4 v4.2.Regs.R5 v4.2.Regs.R6 v4.2.Regs.R7) v4.2.Stopped)).bind fun v7 => some ((decide (v7.PC = 0)) && ((decide (v7.Regs.R0 = 0)) && ((decide (v7.Regs.R1 = 0)) && ((decide (v7.Regs.R2 = 0)) && ((decide (v7.Regs.R3 = 0)) && ((decide (v7.Regs.R4 = 0)) && ((decide (v7.Regs.R5 = 0)) && ((decide (v7.Regs.R6 = 0)) && ((decide (v7.Regs.R7 = 0)) && ((v7.Stopped == false) && true))))))))))) else (some false)) else (some false)) else ((iter (m3_l19_ProgSteps_s9 a0 v1 v3 v4) fuel (a1, 0, 0, 0, 0, 0, 0, 0, 0, 0, 0, 0, false)).bind fun x => match x with | .inl r => some r | .inr e18 => m3_l19_ProgSteps_k8 v1 e18)
def m3_l19_ProgSteps (a0 : GR19Prog) (a1 : List GApiKV) : Option Bool :=
  (m9_l19_awake).bind fun v1 => (m10_r19_Few (GR19Prog.mk a0.RO a0.Ops)).bind fun v19 => if (!v19) then (some v1) else ((m11_l19_short a1).bind fun v20 => if (!v20) then (some v1) else ((m12_r09_Rising a1).bind fun v21 => if (!v21) then (some v1) else (m3_l19_ProgSteps_k2 a0 a1 v1 ())))

set_option maxRecDepth 100000 in
theorem m3_l19_ProgSteps_c {a0 : GR19Prog} {a1 : List GApiKV} {r : Bool} (h : m3_l19_ProgSteps a0 a1 = some r) : CallsA Try.prog 3 [.agg a0, .one (.sl a1.length (a1.flatMap eGApiKV))] (· = .s (.one (.b r))) := by
  unfold m3_l19_ProgSteps at h
  refine callsA_of Try.func3 rfl (nt := 132) rfl (Nat.le_of_ble_eq_true rfl) ?_
  intro w0 S0
  refine cseq ?_
  refine cregion ?_
  refine sbox rfl rfl ?_
  refine sv rfl (opv_as rfl) ?_
  refine snil ?_
  refine cseq ?_
  refine cregion ?_
  obtain ⟨v1, hv1, h⟩ := bind_eq h
  refine scall1 rfl fn9 opnds_nil (pubA_id rfl) (m9_l19_awake_c hv1) ?_
  refine sv rfl (opv_as rfl) ?_
  refine snil ?_
  refine cseq ?_
  refine cseq ?_
  refine cjoin3 (Unit) (fun b2 => [(1, .s (.one (.sl a1.length (a1.flatMap eGApiKV)))), (2, .s (.one (.lp 0 0))), (5, .s (.one (.b v1)))]) (fun b2 => [.box a0]) (fun b2 => m3_l19_ProgSteps_k2 a0 a1 v1 b2 = some r) (fun _ _ => inbL_of rfl) (fun _ _ => blkinb_of rfl) (fun _ _ => Nat.le_of_ble_eq_true rfl) (fun b2 h => ?_) ?_
  · unfold m3_l19_ProgSteps_k2 at h
    refine cseq ?_
    refine cregion ?_
    refine sv rfl (opv_loadN ti24 rfl (.lp _ _ _ rfl) (Nat.le_of_ble_eq_true rfl)) ?_
    obtain ⟨v3, hv3, h⟩ := bind_eq h
    refine scall1 rfl fn13 (opnds_cons rfl opnds_nil) (pubA_id rfl) (m13_l19_program_c hv3) ?_
    refine salloc rfl zi31 ?_
    refine sstore sz31 rfl rfl rfl rfl (Nat.le_of_ble_eq_true rfl) ?_
    refine smem [.box a0, .box v3] rfl ?_
    refine snil ?_
    refine cseq ?_
    refine cregion ?_
    refine sv rfl (opv_loadN ti31 rfl (.lp _ _ _ rfl) (Nat.le_of_ble_eq_true rfl)) ?_
    refine sv rfl (opv_mv rfl) ?_
    obtain ⟨v4, hv4, h⟩ := bind_eq h
    refine scall1 rfl fn14 (opnds_cons rfl (opnds_cons rfl opnds_nil)) (pubA_id rfl) (m14_prog_Run_c hv4) ?_
    refine sv rfl (opv_mvt rfl) ?_
    refine sv rfl (opv_extract rfl rfl) ?_
    refine sv rfl (opv_extract rfl rfl) ?_
    refine salloc rfl zi35 ?_
    refine sv rfl (opv_as rfl) ?_
    refine sstore sz35 rfl rfl rfl rfl (Nat.le_of_ble_eq_true rfl) ?_
    refine smem [.box a0, .box v3, .box v4.2] rfl ?_
    refine snil ?_
    refine cseq ?_
    refine cseq ?_
    refine cregion ?_
    refine sv rfl (opv_loadN ti31 rfl (.lp _ _ _ rfl) (Nat.le_of_ble_eq_true rfl)) ?_
    obtain ⟨v5, hv5, h⟩ := bind_eq h
    refine scall1 rfl fn15 (opnds_cons rfl opnds_nil) (pubA_id rfl) (m15_prog_Sane_c hv5) ?_
    refine sv rfl (opv_not rfl) ?_
    refine snil ?_
    refine ccond rfl (fun hc => ?_) (fun hc => ?_)
    · replace h := ite_t hc h
      clear hc
      refine cseq ?_
      refine cregion ?_
      refine sv rfl (opv_mv rfl) ?_
      refine sv rfl (opv_mv rfl) ?_
      refine ssplit 47 rfl (fun hc => ?_) (fun hc => ?_)
      · replace h := ite_t hc h
        clear hc
        refine son rfl rfl rfl ?_
        refine sv rfl (opv_mv rfl) ?_
        refine son rfl rfl rfl ?_
        refine sv rfl (opv_mv rfl) ?_
        refine son rfl rfl rfl ?_
        obtain ⟨v6, hv6, h⟩ := bind_eq h
        refine scall1 rfl fn16 (opnds_cons rfl (opnds_cons rfl opnds_nil)) (pubA_id rfl) (m16_r05_KVs_c hv6) ?_
        refine sv rfl (opv_pick_t rfl rfl) ?_
        refine sv rfl (opv_mv rfl) ?_
        refine ssplit 52 rfl (fun hc => ?_) (fun hc => ?_)
        · replace h := ite_t hc h
          clear hc
          refine son rfl rfl rfl ?_
          refine sv rfl (opv_loadN ti35 rfl (.lp _ _ _ rfl) (Nat.le_of_ble_eq_true rfl)) ?_
          refine son rfl rfl rfl ?_
          obtain ⟨v7, hv7, h⟩ := bind_eq h
          refine scall1 rfl fn17 (opnds_cons rfl opnds_nil) (pubA_id rfl) (m17_l19_stated_c hv7) ?_
          refine son rfl rfl rfl ?_
          refine sv rfl (opv_build zi40 pi40 parts_nil (.nil _)) ?_
          refine son rfl rfl rfl ?_
          refine sv rfl (opv_deql ed40 rfl rfl rfl rfl rfl) ?_
          refine sv rfl (opv_pick_t rfl rfl) ?_
          refine sv rfl (opv_as rfl) ?_
          refine snil ?_
          refine cret ?_
          refine then_ret ?_
          obtain rfl := Option.some.inj h
          refine ⟨Or.inr rfl, _, _, _, (resVs_cons (ResV.tmp _ _ rfl) resVs_nil), (pubA_id rfl), ?_⟩
          rfl
        · replace h := ite_f hc h
          clear hc
          refine soff rfl rfl rfl rfl ?_
          refine soff rfl rfl rfl rfl ?_
          refine soff rfl rfl rfl rfl ?_
          refine soff rfl rfl rfl rfl ?_
          refine sv rfl (opv_pick_f rfl rfl) ?_
          refine sv rfl (opv_as rfl) ?_
          refine snil ?_
          refine cret ?_
          refine then_ret ?_
          obtain rfl := Option.some.inj h
          refine ⟨Or.inr rfl, _, _, _, (resVs_cons (ResV.tmp _ _ rfl) resVs_nil), (pubA_id rfl), ?_⟩
          rfl
      · replace h := ite_f hc h
        clear hc
        refine soff rfl rfl rfl rfl ?_
        refine soff rfl rfl rfl rfl ?_
        refine soff rfl rfl rfl rfl ?_
        refine sv rfl (opv_pick_f rfl rfl) ?_
        refine sv rfl (opv_mv rfl) ?_
        refine soff rfl rfl rfl rfl ?_
        refine soff rfl rfl rfl rfl ?_
        refine soff rfl rfl rfl rfl ?_
        refine soff rfl rfl rfl rfl ?_
        refine sv rfl (opv_pick_f rfl rfl) ?_
        refine sv rfl (opv_as rfl) ?_
        refine snil ?_
        refine cret ?_
        refine then_ret ?_
        obtain rfl := Option.some.inj h
        refine ⟨Or.inr rfl, _, _, _, (resVs_cons (ResV.tmp _ _ rfl) resVs_nil), (pubA_id rfl), ?_⟩
        rfl
    · replace h := ite_f hc h
      clear hc
      refine cskip ?_
      refine then_normal ?_
      refine cseq ?_
      refine cregion ?_
      refine sv rfl (opv_build zi35 pi35 parts_nil (.nil _)) ?_
      refine salloc rfl zi35 ?_
      refine sstore sz35 rfl rfl rfl rfl (Nat.le_of_ble_eq_true rfl) ?_
      refine smem [.box a0, .box v3, .box v4.2, .box [.i .i64 0, .i .i64 0, .i .i64 0, .i .i64 0, .i .i64 0, .i .i64 0, .i .i64 0, .i .i64 0, .i .i64 0, .b false]] rfl ?_
      refine snil ?_
      refine cseq ?_
      refine cregion ?_
      refine sv rfl (opv_mv rfl) ?_
      refine sv rfl (opv_as rfl) ?_
      refine snil ?_
      refine cseq ?_
      refine cregion ?_
      refine sv rfl (opv_as rfl) ?_
      refine snil ?_
      refine cseq ?_
      refine cseq ?_
      refine cregion ?_
      refine sv rfl (opv_as rfl) ?_
      refine snil ?_
      refine cjoin (Int × Int × Int × Int × Int × Int × Int × Int × Int × Int × Bool) (fun b8 => [(5, .s (.one (.b v1))), (11, .s (.one (.i .i64 b8.1)))]) (fun b8 => [.box a0, .box v3, .box v4.2, .box [.i .i64 b8.2.1, .i .i64 b8.2.2.1, .i .i64 b8.2.2.2.1, .i .i64 b8.2.2.2.2.1, .i .i64 b8.2.2.2.2.2.1, .i .i64 b8.2.2.2.2.2.2.1, .i .i64 b8.2.2.2.2.2.2.2.1, .i .i64 b8.2.2.2.2.2.2.2.2.1, .i .i64 b8.2.2.2.2.2.2.2.2.2.1, .b b8.2.2.2.2.2.2.2.2.2.2]]) (fun b8 => m3_l19_ProgSteps_k8 v1 b8 = some r) (fun _ _ => inbL_of rfl) (fun _ _ => blkinb_of rfl) (fun _ _ => Nat.le_of_ble_eq_true rfl) (fun b8 h => ?_) ?_
      · unfold m3_l19_ProgSteps_k8 at h
        refine cseq ?_
        refine cregion ?_
        refine sv rfl (opv_mv rfl) ?_
        refine sv rfl (opv_mv rfl) ?_
        refine ssplit 128 rfl (fun hc => ?_) (fun hc => ?_)
        · replace h := ite_t hc h
          clear hc
          refine son rfl rfl rfl ?_
          refine sv rfl (opv_mv rfl) ?_
          refine son rfl rfl rfl ?_
          refine sv rfl (opv_gtr rfl rfl) ?_
          refine sv rfl (opv_pick_t rfl rfl) ?_
          refine sv rfl (opv_as rfl) ?_
          refine snil ?_
          refine cret ?_
          obtain rfl := Option.some.inj h
          refine ⟨Or.inr rfl, _, _, _, (resVs_cons (ResV.tmp _ _ rfl) resVs_nil), (pubA_id rfl), ?_⟩
          rfl
        · replace h := ite_f hc h
          clear hc
          refine soff rfl rfl rfl rfl ?_
          refine soff rfl rfl rfl rfl ?_
          refine sv rfl (opv_pick_f rfl rfl) ?_
          refine sv rfl (opv_as rfl) ?_
          refine snil ?_
          refine cret ?_
          obtain rfl := Option.some.inj h
          refine ⟨Or.inr rfl, _, _, _, (resVs_cons (ResV.tmp _ _ rfl) resVs_nil), (pubA_id rfl), ?_⟩
          rfl
      · skip
        refine cblock ?_
        obtain ⟨x9, hx9, ho9⟩ := bind_eq h
        refine awc_loop (G := Nat × ((List GApiKV) × Int × Int × Int × Int × Int × Int × Int × Int × Int × Int × Int × Bool)) (fun g => [(2, .s (.one (.lp 0 0))), (5, .s (.one (.b v1))), (6, .s (.one (.lp 1 0))), (7, .s (.one (.sl v4.1.length (v4.1.flatMap eGApiKV)))), (8, .s (.one (.lp 2 0))), (9, .s (.one (.lp 3 0))), (10, .s (.one (.sl g.2.1.length (g.2.1.flatMap eGApiKV)))), (11, .s (.one (.i .i64 g.2.2.1))), (12, .s (.one (.i .i64 g.2.2.2.1)))]) (fun g => [.box a0, .box v3, .box v4.2, .box [.i .i64 g.2.2.2.2.1, .i .i64 g.2.2.2.2.2.1, .i .i64 g.2.2.2.2.2.2.1, .i .i64 g.2.2.2.2.2.2.2.1, .i .i64 g.2.2.2.2.2.2.2.2.1, .i .i64 g.2.2.2.2.2.2.2.2.2.1, .i .i64 g.2.2.2.2.2.2.2.2.2.2.1, .i .i64 g.2.2.2.2.2.2.2.2.2.2.2.1, .i .i64 g.2.2.2.2.2.2.2.2.2.2.2.2.1, .b g.2.2.2.2.2.2.2.2.2.2.2.2.2]]) (fun g => iter (m3_l19_ProgSteps_s9 a0 v1 v3 v4) g.1 g.2 = some x9) (fun g => g.1) (fuel, (a1, 0, 0, 0, 0, 0, 0, 0, 0, 0, 0, 0, false)) hx9 ⟨rfl, rfl, rfl, rfl, rfl, rfl, rfl, rfl, rfl, trivial⟩ [] rfl (fun _ _ => inbL_of rfl) (fun _ _ => blkinb_of rfl) (fun _ _ => Nat.le_of_ble_eq_true rfl) ?_
        clear hx9 h
        rintro ⟨n9, s9⟩ h
        obtain ⟨n9, y9, rfl, h, hk9⟩ := iter_eq h
        unfold m3_l19_ProgSteps_s9 at h
        refine cseq ?_
        refine cseq ?_
        refine cregion ?_
        refine sv rfl (opv_mv rfl) ?_
        refine sv rfl (opv_fieldAddr_lp fi24_1 rfl) ?_
        refine sv rfl (opv_load1 ti22 rfl (.lp _ _ _ rfl) rfl) ?_
        refine sv rfl (opv_len_sl si22 rfl) ?_
        refine sv rfl (opv_leq rfl rfl) ?_
        refine snil ?_
        refine ccond rfl (fun hc => ?_) (fun hc => ?_)
        · replace h := ite_t hc h
          clear hc
          refine cskip ?_
          refine then_normal ?_
          refine cseq ?_
          refine cblock ?_
          refine cseq ?_
          refine cregion ?_
          refine sv rfl (opv_loadN ti31 rfl (.lp _ _ _ rfl) (Nat.le_of_ble_eq_true rfl)) ?_
          refine sv rfl (opv_loadN ti35 rfl (.lp _ _ _ rfl) (Nat.le_of_ble_eq_true rfl)) ?_
          obtain ⟨v10, hv10, h⟩ := bind_eq h
          refine scall1 rfl fn18 (opnds_cons rfl (opnds_cons rfl opnds_nil)) (pubA_id rfl) (m18_prog_Next_c hv10) ?_
          refine sv rfl (opv_mvt rfl) ?_
          refine sv rfl (opv_extract rfl rfl) ?_
          refine sv rfl (opv_extract rfl rfl) ?_
          refine sv rfl (opv_extract rfl rfl) ?_
          refine salloc rfl zi46 ?_
          refine salloc rfl zi35 ?_
          refine sstore sz46 rfl rfl rfl rfl (Nat.le_of_ble_eq_true rfl) ?_
          refine smem [.box a0, .box v3, .box v4.2, .box [.i .i64 s9.2.2.2.1, .i .i64 s9.2.2.2.2.1, .i .i64 s9.2.2.2.2.2.1, .i .i64 s9.2.2.2.2.2.2.1, .i .i64 s9.2.2.2.2.2.2.2.1, .i .i64 s9.2.2.2.2.2.2.2.2.1, .i .i64 s9.2.2.2.2.2.2.2.2.2.1, .i .i64 s9.2.2.2.2.2.2.2.2.2.2.1, .i .i64 s9.2.2.2.2.2.2.2.2.2.2.2.1, .b s9.2.2.2.2.2.2.2.2.2.2.2.2], .box v10.1, .box [.i .i64 0, .i .i64 0, .i .i64 0, .i .i64 0, .i .i64 0, .i .i64 0, .i .i64 0, .i .i64 0, .i .i64 0, .b false]] rfl ?_
          refine sstore sz35 rfl rfl rfl rfl (Nat.le_of_ble_eq_true rfl) ?_
          refine smem [.box a0, .box v3, .box v4.2, .box [.i .i64 s9.2.2.2.1, .i .i64 s9.2.2.2.2.1, .i .i64 s9.2.2.2.2.2.1, .i .i64 s9.2.2.2.2.2.2.1, .i .i64 s9.2.2.2.2.2.2.2.1, .i .i64 s9.2.2.2.2.2.2.2.2.1, .i .i64 s9.2.2.2.2.2.2.2.2.2.1, .i .i64 s9.2.2.2.2.2.2.2.2.2.2.1, .i .i64 s9.2.2.2.2.2.2.2.2.2.2.2.1, .b s9.2.2.2.2.2.2.2.2.2.2.2.2], .box v10.1, .box v10.2.1] rfl ?_
          refine sv rfl (opv_as rfl) ?_
          refine snil ?_
          refine cseq ?_
          refine cseq ?_
          refine cregion ?_
          refine sv rfl (opv_mv rfl) ?_
          refine sv rfl (opv_not rfl) ?_
          refine snil ?_
          refine ccond rfl (fun hc => ?_) (fun hc => ?_)
          · replace h := ite_t hc h
            clear hc
            refine cseq ?_
            refine cdraw mixed (by kernel_rfl) ?_
            refine dv rfl (opv_mv rfl) ?_
            refine dv rfl (opv_mv rfl) ?_
            refine dsplit 77 rfl (fun hc => ?_) (fun hc => ?_)
            · replace h := ite_t hc h
              clear hc
              refine dvg rfl rfl rfl (opv_mv rfl) ?_
              refine dvg rfl rfl rfl (opv_gtr rfl rfl) ?_
              refine dvg rfl rfl rfl (opv_mv rfl) ?_
              refine dsplit 80 rfl (fun hc => ?_) (fun hc => ?_)
              · replace h := ite_t hc h
                clear hc
                refine doff rfl rfl rfl rfl ?_
                refine doff rfl rfl rfl rfl ?_
                refine doff rfl rfl rfl rfl ?_
                refine doff rfl rfl rfl rfl ?_
                refine doffu rfl rfl rfl ?_
                refine doffu rfl rfl rfl ?_
                refine doffu rfl rfl rfl ?_
                refine doffu rfl rfl rfl ?_
                refine doffu rfl rfl rfl ?_
                refine doff rfl rfl rfl rfl ?_
                refine dvg rfl rfl rfl (opv_pick_t rfl rfl) ?_
                refine dv rfl (opv_pick_t rfl rfl) ?_
                refine dv rfl (opv_as rfl) ?_
                refine dnil ?_
                refine then_normal ?_
                refine cret ?_
                refine then_ret ?_
                refine block_ret ?_
                refine then_ret ?_
                refine then_ret ?_
                refine block_ret ?_
                refine then_ret ?_
                obtain rfl := Option.some.inj h
                obtain rfl : Sum.inl _ = x9 := hk9
                replace ho9 : some _ = some _ := ho9
                obtain rfl := Option.some.inj ho9
                refine ⟨Or.inr rfl, _, _, _, (resVs_cons (ResV.tmp _ _ rfl) resVs_nil), (pubA_id rfl), ?_⟩
                rfl
              · replace h := ite_f hc h
                clear hc
                refine dvg rfl rfl rfl (opv_mv rfl) ?_
                refine dvg rfl rfl rfl (opv_mv rfl) ?_
                obtain ⟨v11, hv11, h⟩ := bind_eq h
                refine ddg rfl rfl rfl (opD_call fn16 (opnds_cons rfl (opnds_cons rfl opnds_nil)) rfl (m16_r05_KVs_c hv11)) ?_
                refine dvg rfl rfl rfl (opv_mv rfl) ?_
                refine dsplit 84 rfl (fun hc => ?_) (fun hc => ?_)
                · replace h := ite_t hc h
                  clear hc
                  refine dvg rfl rfl rfl (opv_loadN ti35 rfl (.lp _ _ _ rfl) (Nat.le_of_ble_eq_true rfl)) ?_
                  obtain ⟨v12, hv12, h⟩ := bind_eq h
                  refine ddg rfl rfl rfl (opD_call fn17 (opnds_cons rfl opnds_nil) rfl (m17_l19_stated_c hv12)) ?_
                  refine dvg rfl rfl rfl (opv_loadN ti35 rfl (.lp _ _ _ rfl) (Nat.le_of_ble_eq_true rfl)) ?_
                  obtain ⟨v13, hv13, h⟩ := bind_eq h
                  refine ddg rfl rfl rfl (opD_call fn17 (opnds_cons rfl opnds_nil) rfl (m17_l19_stated_c hv13)) ?_
                  refine dvg rfl rfl rfl (opv_deql ed40 rfl rfl rfl rfl rfl) ?_
                  refine dvg rfl rfl rfl (opv_pick_t rfl rfl) ?_
                  refine dvg rfl rfl rfl (opv_pick_f rfl rfl) ?_
                  refine dv rfl (opv_pick_t rfl rfl) ?_
                  refine dv rfl (opv_as rfl) ?_
                  refine dnil ?_
                  refine then_normal ?_
                  refine cret ?_
                  refine then_ret ?_
                  refine block_ret ?_
                  refine then_ret ?_
                  refine then_ret ?_
                  refine block_ret ?_
                  refine then_ret ?_
                  obtain rfl := Option.some.inj h
                  obtain rfl : Sum.inl _ = x9 := hk9
                  replace ho9 : some _ = some _ := ho9
                  obtain rfl := Option.some.inj ho9
                  refine ⟨Or.inr rfl, _, _, _, (resVs_cons (ResV.tmp _ _ rfl) resVs_nil), (pubA_id rfl), ?_⟩
                  rfl
                · replace h := ite_f hc h
                  clear hc
                  refine doff rfl rfl rfl rfl ?_
                  refine doff rfl rfl rfl rfl ?_
                  refine doff rfl rfl rfl rfl ?_
                  refine doff rfl rfl rfl rfl ?_
                  refine doff rfl rfl rfl rfl ?_
                  refine dvg rfl rfl rfl (opv_pick_f rfl rfl) ?_
                  refine dvg rfl rfl rfl (opv_pick_f rfl rfl) ?_
                  refine dv rfl (opv_pick_t rfl rfl) ?_
                  refine dv rfl (opv_as rfl) ?_
                  refine dnil ?_
                  refine then_normal ?_
                  refine cret ?_
                  refine then_ret ?_
                  refine block_ret ?_
                  refine then_ret ?_
                  refine then_ret ?_
                  refine block_ret ?_
                  refine then_ret ?_
                  obtain rfl := Option.some.inj h
                  obtain rfl : Sum.inl _ = x9 := hk9
                  replace ho9 : some _ = some _ := ho9
                  obtain rfl := Option.some.inj ho9
                  refine ⟨Or.inr rfl, _, _, _, (resVs_cons (ResV.tmp _ _ rfl) resVs_nil), (pubA_id rfl), ?_⟩
                  rfl
            · replace h := ite_f hc h
              clear hc
              refine doff rfl rfl rfl rfl ?_
              refine doff rfl rfl rfl rfl ?_
              refine doff rfl rfl rfl rfl ?_
              refine doffu rfl rfl rfl ?_
              refine doffu rfl rfl rfl ?_
              refine doffu rfl rfl rfl ?_
              refine doffu rfl rfl rfl ?_
              refine doffu rfl rfl rfl ?_
              refine doffu rfl rfl rfl ?_
              refine doffu rfl rfl rfl ?_
              refine doffu rfl rfl rfl ?_
              refine doffu rfl rfl rfl ?_
              refine doffu rfl rfl rfl ?_
              refine doff rfl rfl rfl rfl ?_
              refine dv rfl (opv_pick_f rfl rfl) ?_
              refine dv rfl (opv_as rfl) ?_
              refine dnil ?_
              refine then_normal ?_
              refine cret ?_
              refine then_ret ?_
              refine block_ret ?_
              refine then_ret ?_
              refine then_ret ?_
              refine block_ret ?_
              refine then_ret ?_
              obtain rfl := Option.some.inj h
              obtain rfl : Sum.inl _ = x9 := hk9
              replace ho9 : some _ = some _ := ho9
              obtain rfl := Option.some.inj ho9
              refine ⟨Or.inr rfl, _, _, _, (resVs_cons (ResV.tmp _ _ rfl) resVs_nil), (pubA_id rfl), ?_⟩
              rfl
          · replace h := ite_f hc h
            clear hc
            refine cskip ?_
            refine then_normal ?_
            refine cseq ?_
            refine cregion ?_
            refine sv rfl (opv_loadN ti46 rfl (.lp _ _ _ rfl) (Nat.le_of_ble_eq_true rfl)) ?_
            refine sv rfl (opv_mv rfl) ?_
            obtain ⟨v14, hv14, h⟩ := bind_eq h
            refine scall1 rfl fn19 (opnds_cons rfl (opnds_cons rfl opnds_nil)) (pubA_id rfl) (m19_l19_told_c hv14) ?_
            refine sv rfl (opv_mvt rfl) ?_
            refine sv rfl (opv_extract rfl rfl) ?_
            refine sv rfl (opv_extract rfl rfl) ?_
            refine salloc rfl zi51 ?_
            refine sstore sz51 rfl rfl rfl rfl (Nat.le_of_ble_eq_true rfl) ?_
            refine smem [.box a0, .box v3, .box v4.2, .box [.i .i64 s9.2.2.2.1, .i .i64 s9.2.2.2.2.1, .i .i64 s9.2.2.2.2.2.1, .i .i64 s9.2.2.2.2.2.2.1, .i .i64 s9.2.2.2.2.2.2.2.1, .i .i64 s9.2.2.2.2.2.2.2.2.1, .i .i64 s9.2.2.2.2.2.2.2.2.2.1, .i .i64 s9.2.2.2.2.2.2.2.2.2.2.1, .i .i64 s9.2.2.2.2.2.2.2.2.2.2.2.1, .b s9.2.2.2.2.2.2.2.2.2.2.2.2], .box v10.1, .box v10.2.1, .box v14.1] rfl ?_
            refine sv rfl (opv_as rfl) ?_
            refine snil ?_
            refine cseq ?_
            refine cseq ?_
            refine cjoin3 (Int) (fun b15 => [(2, .s (.one (.lp 0 0))), (5, .s (.one (.b v1))), (6, .s (.one (.lp 1 0))), (7, .s (.one (.sl v4.1.length (v4.1.flatMap eGApiKV)))), (8, .s (.one (.lp 2 0))), (9, .s (.one (.lp 3 0))), (11, .s (.one (.i .i64 b15))), (12, .s (.one (.i .i64 s9.2.2.1))), (14, .s (.one (.lp 5 0))), (16, .s (.one (.lp 6 0))), (17, .s (.one (.sl v14.2.length (v14.2.flatMap eGApiKV))))]) (fun b15 => [.box a0, .box v3, .box v4.2, .box [.i .i64 s9.2.2.2.1, .i .i64 s9.2.2.2.2.1, .i .i64 s9.2.2.2.2.2.1, .i .i64 s9.2.2.2.2.2.2.1, .i .i64 s9.2.2.2.2.2.2.2.1, .i .i64 s9.2.2.2.2.2.2.2.2.1, .i .i64 s9.2.2.2.2.2.2.2.2.2.1, .i .i64 s9.2.2.2.2.2.2.2.2.2.2.1, .i .i64 s9.2.2.2.2.2.2.2.2.2.2.2.1, .b s9.2.2.2.2.2.2.2.2.2.2.2.2], .box v10.1, .box v10.2.1, .box v14.1]) (fun b15 => m3_l19_ProgSteps_k15 v3 s9 v10 v14 b15 = some y9) (fun _ _ => inbL_of rfl) (fun _ _ => blkinb_of rfl) (fun _ _ => Nat.le_of_ble_eq_true rfl) (fun b15 h => ?_) ?_
            · unfold m3_l19_ProgSteps_k15 at h
              refine cseq ?_
              refine cregion ?_
              refine sv rfl (opv_loadN ti31 rfl (.lp _ _ _ rfl) (Nat.le_of_ble_eq_true rfl)) ?_
              refine sv rfl (opv_loadN ti35 rfl (.lp _ _ _ rfl) (Nat.le_of_ble_eq_true rfl)) ?_
              refine sv rfl (opv_loadN ti51 rfl (.lp _ _ _ rfl) (Nat.le_of_ble_eq_true rfl)) ?_
              obtain ⟨v16, hv16, h⟩ := bind_eq h
              refine scall1 rfl fn20 (opnds_cons rfl (opnds_cons rfl (opnds_cons rfl opnds_nil))) (pubA_id rfl) (m20_prog_Take_c hv16) ?_
              refine sv rfl (opv_mvt rfl) ?_
              refine sv rfl (opv_extract rfl rfl) ?_
              refine sv rfl (opv_extract rfl rfl) ?_
              refine salloc rfl zi35 ?_
              refine sstore sz35 rfl rfl rfl rfl (Nat.le_of_ble_eq_true rfl) ?_
              refine smem [.box a0, .box v3, .box v4.2, .box [.i .i64 s9.2.2.2.1, .i .i64 s9.2.2.2.2.1, .i .i64 s9.2.2.2.2.2.1, .i .i64 s9.2.2.2.2.2.2.1, .i .i64 s9.2.2.2.2.2.2.2.1, .i .i64 s9.2.2.2.2.2.2.2.2.1, .i .i64 s9.2.2.2.2.2.2.2.2.2.1, .i .i64 s9.2.2.2.2.2.2.2.2.2.2.1, .i .i64 s9.2.2.2.2.2.2.2.2.2.2.2.1, .b s9.2.2.2.2.2.2.2.2.2.2.2.2], .box v10.1, .box v10.2.1, .box v14.1, .box v16.1] rfl ?_
              refine sv rfl (opv_as rfl) ?_
              refine snil ?_
              refine cseq ?_
              refine cseq ?_
              refine cjoin3 (Unit) (fun b17 => [(2, .s (.one (.lp 0 0))), (5, .s (.one (.b v1))), (6, .s (.one (.lp 1 0))), (7, .s (.one (.sl v4.1.length (v4.1.flatMap eGApiKV)))), (8, .s (.one (.lp 2 0))), (9, .s (.one (.lp 3 0))), (11, .s (.one (.i .i64 b15))), (12, .s (.one (.i .i64 s9.2.2.1))), (17, .s (.one (.sl v14.2.length (v14.2.flatMap eGApiKV)))), (18, .s (.one (.lp 7 0)))]) (fun b17 => [.box a0, .box v3, .box v4.2, .box [.i .i64 s9.2.2.2.1, .i .i64 s9.2.2.2.2.1, .i .i64 s9.2.2.2.2.2.1, .i .i64 s9.2.2.2.2.2.2.1, .i .i64 s9.2.2.2.2.2.2.2.1, .i .i64 s9.2.2.2.2.2.2.2.2.1, .i .i64 s9.2.2.2.2.2.2.2.2.2.1, .i .i64 s9.2.2.2.2.2.2.2.2.2.2.1, .i .i64 s9.2.2.2.2.2.2.2.2.2.2.2.1, .b s9.2.2.2.2.2.2.2.2.2.2.2.2], .box v10.1, .box v10.2.1, .box v14.1, .box v16.1]) (fun b17 => m3_l19_ProgSteps_k17 s9 v14 b15 v16 b17 = some y9) (fun _ _ => inbL_of rfl) (fun _ _ => blkinb_of rfl) (fun _ _ => Nat.le_of_ble_eq_true rfl) (fun b17 h => ?_) ?_
              · unfold m3_l19_ProgSteps_k17 at h
                refine cseq ?_
                refine cregion ?_
                refine sv rfl (opv_loadN ti35 rfl (.lp _ _ _ rfl) (Nat.le_of_ble_eq_true rfl)) ?_
                refine sstore sz35 rfl rfl rfl rfl (Nat.le_of_ble_eq_true rfl) ?_
                refine smem [.box a0, .box v3, .box v4.2, .box v16.1, .box v10.1, .box v10.2.1, .box v14.1, .box v16.1] rfl ?_
                refine snil ?_
                refine cregion ?_
                refine sv rfl (opv_mv rfl) ?_
                refine sv rfl (opv_as rfl) ?_
                refine snil0 ?_
                refine block_normal ?_
                refine then_normal ?_
                refine cregion ?_
                refine sv rfl (opv_mv rfl) ?_
                refine sv rfl (opv_add rfl rfl) ?_
                refine sv rfl (opv_as rfl) ?_
                refine snil ?_
                obtain rfl := Option.some.inj h
                exact ⟨(n9, (v14.2, b15, (wI (s9.2.2.1 + 1)), v16.1.PC, v16.1.Regs.R0, v16.1.Regs.R1, v16.1.Regs.R2, v16.1.Regs.R3, v16.1.Regs.R4, v16.1.Regs.R5, v16.1.Regs.R6, v16.1.Regs.R7, v16.1.Stopped)), _, hk9, ⟨rfl, rfl, rfl, rfl, rfl, rfl, rfl, rfl, rfl, trivial⟩, rfl, Nat.lt_succ_self _⟩
              · skip
                refine cregion ?_
                refine sv rfl (opv_mv rfl) ?_
                refine sv rfl (opv_ineq rfl rfl) ?_
                refine sv rfl (opv_mv rfl) ?_
                refine ssplit 118 rfl (fun hc => ?_) (fun hc => ?_)
                · replace h := ite_t hc h
                  clear hc
                  refine soff rfl rfl rfl rfl ?_
                  refine soff rfl rfl rfl rfl ?_
                  refine soff rfl rfl rfl rfl ?_
                  refine soff rfl rfl rfl rfl ?_
                  refine soff rfl rfl rfl rfl ?_
                  refine sv rfl (opv_pick_t rfl rfl) ?_
                  refine snil ?_
                  refine ccond rfl (fun _ => ?_) (fun hx => Bool.noConfusion hx)
                  refine cseq ?_
                  refine cregion ?_
                  refine sv rfl (opv_as rfl) ?_
                  refine snil ?_
                  refine cret ?_
                  refine then_ret ?_
                  refine block_ret ?_
                  refine then_ret ?_
                  refine then_ret ?_
                  refine block_ret ?_
                  refine then_ret ?_
                  obtain rfl := Option.some.inj h
                  obtain rfl : Sum.inl _ = x9 := hk9
                  replace ho9 : some _ = some _ := ho9
                  obtain rfl := Option.some.inj ho9
                  refine ⟨Or.inr rfl, _, _, _, (resVs_cons (ResV.tmp _ _ rfl) resVs_nil), (pubA_id rfl), ?_⟩
                  rfl
                · replace h := ite_f hc h
                  clear hc
                  refine son rfl rfl rfl ?_
                  refine sv rfl (opv_fieldAddr_lp fi35_0 rfl) ?_
                  refine son rfl rfl rfl ?_
                  refine sv rfl (opv_load1 ti3 rfl (.lp _ _ _ rfl) rfl) ?_
                  refine son rfl rfl rfl ?_
                  refine sv rfl (opv_fieldAddr_lp fi35_0 rfl) ?_
                  refine son rfl rfl rfl ?_
                  refine sv rfl (opv_load1 ti3 rfl (.lp _ _ _ rfl) rfl) ?_
                  refine son rfl rfl rfl ?_
                  refine sv rfl (opv_leq rfl rfl) ?_
                  refine sv rfl (opv_pick_f rfl rfl) ?_
                  refine snil ?_
                  refine ccond rfl (fun hc => ?_) (fun hc => ?_)
                  · replace h := ite_t hc h
                    clear hc
                    refine cseq ?_
                    refine cregion ?_
                    refine sv rfl (opv_as rfl) ?_
                    refine snil ?_
                    refine cret ?_
                    refine then_ret ?_
                    refine block_ret ?_
                    refine then_ret ?_
                    refine then_ret ?_
                    refine block_ret ?_
                    refine then_ret ?_
                    obtain rfl := Option.some.inj h
                    obtain rfl : Sum.inl _ = x9 := hk9
                    replace ho9 : some _ = some _ := ho9
                    obtain rfl := Option.some.inj ho9
                    refine ⟨Or.inr rfl, _, _, _, (resVs_cons (ResV.tmp _ _ rfl) resVs_nil), (pubA_id rfl), ?_⟩
                    rfl
                  · replace h := ite_f hc h
                    clear hc
                    refine cskip ?_
                    refine then_normal ?_
                    exact ⟨(), _, h, ⟨rfl, rfl, rfl, rfl, rfl, rfl, rfl, rfl, rfl, rfl, trivial⟩, rfl⟩
            · skip
              refine cregion ?_
              refine sv rfl (opv_fieldAddr_lp fi46_0 rfl) ?_
              refine sv rfl (opv_load1 ti3 rfl (.lp _ _ _ rfl) rfl) ?_
              refine sv rfl (opv_ieql rfl rfl) ?_
              refine sv rfl (opv_mv rfl) ?_
              refine ssplit 102 rfl (fun hc => ?_) (fun hc => ?_)
              · replace h := ite_t hc h
                clear hc
                refine soff rfl rfl rfl rfl ?_
                refine soff rfl rfl rfl rfl ?_
                refine soff rfl rfl rfl rfl ?_
                refine sv rfl (opv_pick_t rfl rfl) ?_
                refine snil ?_
                refine ccond rfl (fun _ => ?_) (fun hx => Bool.noConfusion hx)
                refine cregion ?_
                refine sv rfl (opv_mv rfl) ?_
                refine sv rfl (opv_add rfl rfl) ?_
                refine sv rfl (opv_as rfl) ?_
                refine snil ?_
                exact ⟨(wI (s9.2.1 + 1)), _, h, ⟨rfl, rfl, rfl, rfl, rfl, rfl, rfl, rfl, rfl, rfl, rfl, trivial⟩, rfl⟩
              · replace h := ite_f hc h
                clear hc
                refine son rfl rfl rfl ?_
                refine sv rfl (opv_fieldAddr_lp fi46_0 rfl) ?_
                refine son rfl rfl rfl ?_
                refine sv rfl (opv_load1 ti3 rfl (.lp _ _ _ rfl) rfl) ?_
                refine son rfl rfl rfl ?_
                refine sv rfl (opv_ieql rfl rfl) ?_
                refine sv rfl (opv_pick_f rfl rfl) ?_
                refine snil ?_
                refine ccond rfl (fun hc => ?_) (fun hc => ?_)
                · replace h := ite_t hc h
                  clear hc
                  refine cregion ?_
                  refine sv rfl (opv_mv rfl) ?_
                  refine sv rfl (opv_add rfl rfl) ?_
                  refine sv rfl (opv_as rfl) ?_
                  refine snil ?_
                  exact ⟨(wI (s9.2.1 + 1)), _, h, ⟨rfl, rfl, rfl, rfl, rfl, rfl, rfl, rfl, rfl, rfl, rfl, trivial⟩, rfl⟩
                · replace h := ite_f hc h
                  clear hc
                  refine cskip ?_
                  refine then_normal ?_
                  exact ⟨s9.2.1, _, h, ⟨rfl, rfl, rfl, rfl, rfl, rfl, rfl, rfl, rfl, rfl, rfl, trivial⟩, rfl⟩
        · replace h := ite_f hc h
          clear hc
          refine cexit ?_
          refine then_exit ?_
          refine then_exit ?_
          refine block_hit ?_
          refine then_normal ?_
          obtain rfl := Option.some.inj h
          obtain rfl : _ = x9 := hk9
          exact ⟨(s9.2.1, s9.2.2.2.1, s9.2.2.2.2.1, s9.2.2.2.2.2.1, s9.2.2.2.2.2.2.1, s9.2.2.2.2.2.2.2.1, s9.2.2.2.2.2.2.2.2.1, s9.2.2.2.2.2.2.2.2.2.1, s9.2.2.2.2.2.2.2.2.2.2.1, s9.2.2.2.2.2.2.2.2.2.2.2.1, s9.2.2.2.2.2.2.2.2.2.2.2.2), _, ho9, ⟨rfl, rfl, trivial⟩, rfl⟩
  · skip
    refine cregion ?_
    refine sv rfl (opv_loadN ti24 rfl (.lp _ _ _ rfl) (Nat.le_of_ble_eq_true rfl)) ?_
    obtain ⟨v19, hv19, h⟩ := bind_eq h
    refine scall1 rfl fn10 (opnds_cons rfl opnds_nil) (pubA_id rfl) (m10_r19_Few_c hv19) ?_
    refine sv rfl (opv_not rfl) ?_
    refine sv rfl (opv_mv rfl) ?_
    refine ssplit 24 rfl (fun hc => ?_) (fun hc => ?_)
    · replace h := ite_t hc h
      clear hc
      refine soff rfl rfl rfl rfl ?_
      refine soff rfl rfl rfl rfl ?_
      refine soff rfl rfl rfl rfl ?_
      refine sv rfl (opv_pick_t rfl rfl) ?_
      refine sv rfl (opv_mv rfl) ?_
      refine soff rfl rfl rfl rfl ?_
      refine soff rfl rfl rfl rfl ?_
      refine soff rfl rfl rfl rfl ?_
      refine sv rfl (opv_pick_t rfl rfl) ?_
      refine snil ?_
      refine ccond rfl (fun _ => ?_) (fun hx => Bool.noConfusion hx)
      refine cseq ?_
      refine cregion ?_
      refine sv rfl (opv_mv rfl) ?_
      refine sv rfl (opv_as rfl) ?_
      refine snil ?_
      refine cret ?_
      refine then_ret ?_
      obtain rfl := Option.some.inj h
      refine ⟨Or.inr rfl, _, _, _, (resVs_cons (ResV.tmp _ _ rfl) resVs_nil), (pubA_id rfl), ?_⟩
      rfl
    · replace h := ite_f hc h
      clear hc
      refine son rfl rfl rfl ?_
      refine sv rfl (opv_mv rfl) ?_
      refine son rfl rfl rfl ?_
      obtain ⟨v20, hv20, h⟩ := bind_eq h
      refine scall1 rfl fn11 (opnds_cons rfl opnds_nil) (pubA_id rfl) (m11_l19_short_c hv20) ?_
      refine son rfl rfl rfl ?_
      refine sv rfl (opv_not rfl) ?_
      refine sv rfl (opv_pick_f rfl rfl) ?_
      refine sv rfl (opv_mv rfl) ?_
      refine ssplit 29 rfl (fun hc => ?_) (fun hc => ?_)
      · replace h := ite_t hc h
        clear hc
        refine soff rfl rfl rfl rfl ?_
        refine soff rfl rfl rfl rfl ?_
        refine soff rfl rfl rfl rfl ?_
        refine sv rfl (opv_pick_t rfl rfl) ?_
        refine snil ?_
        refine ccond rfl (fun _ => ?_) (fun hx => Bool.noConfusion hx)
        refine cseq ?_
        refine cregion ?_
        refine sv rfl (opv_mv rfl) ?_
        refine sv rfl (opv_as rfl) ?_
        refine snil ?_
        refine cret ?_
        refine then_ret ?_
        obtain rfl := Option.some.inj h
        refine ⟨Or.inr rfl, _, _, _, (resVs_cons (ResV.tmp _ _ rfl) resVs_nil), (pubA_id rfl), ?_⟩
        rfl
      · replace h := ite_f hc h
        clear hc
        refine son rfl rfl rfl ?_
        refine sv rfl (opv_mv rfl) ?_
        refine son rfl rfl rfl ?_
        obtain ⟨v21, hv21, h⟩ := bind_eq h
        refine scall1 rfl fn12 (opnds_cons rfl opnds_nil) (pubA_id rfl) (m12_r09_Rising_c hv21) ?_
        refine son rfl rfl rfl ?_
        refine sv rfl (opv_not rfl) ?_
        refine sv rfl (opv_pick_f rfl rfl) ?_
        refine snil ?_
        refine ccond rfl (fun hc => ?_) (fun hc => ?_)
        · replace h := ite_t hc h
          clear hc
          refine cseq ?_
          refine cregion ?_
          refine sv rfl (opv_mv rfl) ?_
          refine sv rfl (opv_as rfl) ?_
          refine snil ?_
          refine cret ?_
          refine then_ret ?_
          obtain rfl := Option.some.inj h
          refine ⟨Or.inr rfl, _, _, _, (resVs_cons (ResV.tmp _ _ rfl) resVs_nil), (pubA_id rfl), ?_⟩
          rfl
        · replace h := ite_f hc h
          clear hc
          refine cskip ?_
          refine then_normal ?_
          exact ⟨(), _, h, ⟨rfl, rfl, rfl, trivial⟩, rfl⟩


end Go.Proofs.Ytdehclinlcnlhaa.Abs
