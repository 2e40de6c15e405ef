/-
  t
-/
import Derived.Test.YtbaamfddahpemaaT12a
namespace Go.Proofs.Ytbaamfddahpemaa.Abs
open Go.RowKit Go.Proofs
def m6_l12_TokensFence (a0 : List GL12Act) (a1 : Int) (a2 : Int) (a3 : List GL12Act) : Option Bool :=
  (m7_l12_awake).bind fun v1 => if (decide (60 < (a0.length : Int))) then (some v1) else (if (decide (60 < (a3.length : Int))) then (some v1) else (m6_l12_TokensFence_k2 a0 a1 a2 a3 v1 ()))

set_option maxRecDepth 100000 in
theorem m6_l12_TokensFence_c {a0 : List GL12Act} {a1 : Int} {a2 : Int} {a3 : List GL12Act} {r : Bool} (h : m6_l12_TokensFence a0 a1 a2 a3 = some r) : CallsA Try.prog 6 [.one (.sl a0.length (a0.flatMap eGL12Act)), .one (.i .i64 a1), .one (.i .i64 a2), .one (.sl a3.length (a3.flatMap eGL12Act))] (· = .s (.one (.b r))) := by
  unfold m6_l12_TokensFence at h
  refine callsA_of Try.func6 rfl (nt := 134) rfl (Nat.le_of_ble_eq_true rfl) ?_
  intro w0 S0
  refine cseq ?_
  refine cregion ?_
  refine sv rfl (opv_as rfl) ?_
  refine snil ?_
  refine cseq ?_
  refine cregion ?_
  obtain ⟨v1, hv1, h⟩ := bind_eq h
  refine scall1 rfl fn7 opnds_nil (pubA_id rfl) (m7_l12_awake_c hv1) ?_
  refine sv rfl (opv_as rfl) ?_
  refine snil ?_
  refine cseq ?_
  refine cseq ?_
  refine cjoin3 (Unit) (fun b2 => [(0, .s (.one (.sl a0.length (a0.flatMap eGL12Act)))), (1, .s (.one (.i .i64 a1))), (2, .s (.one (.i .i64 a2))), (3, .s (.one (.sl a3.length (a3.flatMap eGL12Act)))), (9, .s (.one (.b v1)))]) (fun b2 => []) (fun b2 => m6_l12_TokensFence_k2 a0 a1 a2 a3 v1 b2 = some r) (fun _ _ => inbL_of rfl) (fun _ _ => blkinb_of rfl) (fun _ _ => Nat.le_of_ble_eq_true rfl) (fun b2 h => ?_) ?_
  · unfold m6_l12_TokensFence_k2 at h
    refine cseq ?_
    refine cregion ?_
    refine sv rfl (opv_build zi26 pi26 parts_nil (.nil _)) ?_
    refine salloc rfl zi26 ?_
    refine sstore sz26 rfl rfl rfl rfl (Nat.le_of_ble_eq_true rfl) ?_
    refine smem [.box [.raw (.slice none 0 0)]] rfl ?_
    refine snil ?_
    refine cseq ?_
    refine cseq ?_
    refine cregion ?_
    refine sv rfl (opv_as rfl) ?_
    refine snil ?_
    refine cjoin ((List GTokensEntry)) (fun b3 => [(1, .s (.one (.i .i64 a1))), (2, .s (.one (.i .i64 a2))), (3, .s (.one (.sl a3.length (a3.flatMap eGL12Act)))), (9, .s (.one (.b v1))), (10, .s (.one (.lp 0 0)))]) (fun b3 => [.box [.sl b3.length (b3.flatMap eGTokensEntry)]]) (fun b3 => m6_l12_TokensFence_k3 a1 a2 a3 v1 b3 = some r) (fun _ _ => inbL_of rfl) (fun _ _ => blkinb_of rfl) (fun _ _ => Nat.le_of_ble_eq_true rfl) (fun b3 h => ?_) ?_
    · unfold m6_l12_TokensFence_k3 at h
      refine cseq ?_
      refine cregion ?_
      refine sv rfl (opv_loadN ti26 rfl (.lp _ _ _ rfl) (Nat.le_of_ble_eq_true rfl)) ?_
      refine sv rfl (opv_mv rfl) ?_
      refine sv rfl (opv_mv rfl) ?_
      obtain ⟨v4, hv4, h⟩ := bind_eq h
      refine scall1 rfl fn11 (opnds_cons rfl (opnds_cons rfl (opnds_cons rfl opnds_nil))) (pubA_id rfl) (m11_tokens_Fence_c hv4) ?_
      refine sv rfl (opv_mvt rfl) ?_
      refine sv rfl (opv_extract rfl rfl) ?_
      refine sv rfl (opv_extract rfl rfl) ?_
      refine sv rfl (opv_extract rfl rfl) ?_
      refine salloc rfl zi26 ?_
      refine sstore sz26 rfl rfl rfl rfl (Nat.le_of_ble_eq_true rfl) ?_
      refine smem [.box [.sl b3.length (b3.flatMap eGTokensEntry)], .box [.sl v4.1.L.length (v4.1.L.flatMap eGTokensEntry)]] rfl ?_
      refine sv rfl (opv_as rfl) ?_
      refine sv rfl (opv_as rfl) ?_
      refine snil ?_
      refine cseq ?_
      refine cseq ?_
      refine cjoin3 (Unit) (fun b5 => [(1, .s (.one (.i .i64 a1))), (2, .s (.one (.i .i64 a2))), (3, .s (.one (.sl a3.length (a3.flatMap eGL12Act)))), (9, .s (.one (.b v1))), (10, .s (.one (.lp 0 0))), (14, .s (.one (.lp 1 0)))]) (fun b5 => [.box [.sl b3.length (b3.flatMap eGTokensEntry)], .box [.sl v4.1.L.length (v4.1.L.flatMap eGTokensEntry)]]) (fun b5 => m6_l12_TokensFence_k5 a1 a2 a3 v1 v4 b5 = some r) (fun _ _ => inbL_of rfl) (fun _ _ => blkinb_of rfl) (fun _ _ => Nat.le_of_ble_eq_true rfl) (fun b5 h => ?_) ?_
      · unfold m6_l12_TokensFence_k5 at h
        refine cseq ?_
        refine cregion ?_
        refine sv rfl (opv_loadN ti26 rfl (.lp _ _ _ rfl) (Nat.le_of_ble_eq_true rfl)) ?_
        refine sstore sz26 rfl rfl rfl rfl (Nat.le_of_ble_eq_true rfl) ?_
        refine smem [.box [.sl v4.1.L.length (v4.1.L.flatMap eGTokensEntry)], .box [.sl v4.1.L.length (v4.1.L.flatMap eGTokensEntry)]] rfl ?_
        refine snil ?_
        refine cseq ?_
        refine cseq ?_
        refine cregion ?_
        refine sv rfl (opv_as rfl) ?_
        refine snil ?_
        refine cjoin ((List GTokensEntry)) (fun b6 => [(9, .s (.one (.b v1)))]) (fun b6 => [.box [.sl b6.length (b6.flatMap eGTokensEntry)], .box [.sl v4.1.L.length (v4.1.L.flatMap eGTokensEntry)]]) (fun b6 => m6_l12_TokensFence_k6 v1 b6 = some r) (fun _ _ => inbL_of rfl) (fun _ _ => blkinb_of rfl) (fun _ _ => Nat.le_of_ble_eq_true rfl) (fun b6 h => ?_) ?_
        · unfold m6_l12_TokensFence_k6 at h
          refine cseq ?_
          refine cregion ?_
          refine sv rfl (opv_mv rfl) ?_
          refine sv rfl (opv_as rfl) ?_
          refine snil ?_
          refine cret ?_
          obtain rfl := Option.some.inj h
          refine ⟨Or.inr rfl, _, _, _, (resVs_cons (ResV.tmp _ _ rfl) resVs_nil), (pubA_id rfl), ?_⟩
          rfl
        · skip
          refine cblock ?_
          obtain ⟨x7, hx7, ho7⟩ := bind_eq h
          refine awc_loop (G := Nat × (Int × (List GTokensEntry))) (fun g => [(1, .s (.one (.i .i64 a1))), (2, .s (.one (.i .i64 a2))), (3, .s (.one (.sl a3.length (a3.flatMap eGL12Act)))), (9, .s (.one (.b v1))), (10, .s (.one (.lp 0 0))), (17, .s (.one (.i .i64 g.2.1)))]) (fun g => [.box [.sl g.2.2.length (g.2.2.flatMap eGTokensEntry)], .box [.sl v4.1.L.length (v4.1.L.flatMap eGTokensEntry)]]) (fun g => iter (m6_l12_TokensFence_s7 a1 a2 a3) g.1 g.2 = some x7) (fun g => g.1) (fuel, (0, v4.1.L)) hx7 ⟨rfl, rfl, rfl, rfl, rfl, rfl, trivial⟩ [] rfl (fun _ _ => inbL_of rfl) (fun _ _ => blkinb_of rfl) (fun _ _ => Nat.le_of_ble_eq_true rfl) ?_
          clear hx7 h
          rintro ⟨n7, s7⟩ h
          obtain ⟨n7, y7, rfl, h, hk7⟩ := iter_eq h
          unfold m6_l12_TokensFence_s7 at h
          refine cseq ?_
          refine cseq ?_
          refine cregion ?_
          refine sv rfl (opv_mv rfl) ?_
          refine sv rfl (opv_mv rfl) ?_
          refine sv rfl (opv_len_sl si22 rfl) ?_
          refine sv rfl (opv_lss rfl rfl) ?_
          refine snil ?_
          refine ccond rfl (fun hc => ?_) (fun hc => ?_)
          · replace h := ite_t hc h
            clear hc
            refine cskip ?_
            refine then_normal ?_
            refine cseq ?_
            refine cblock ?_
            refine cseq ?_
            refine cseq ?_
            refine cjoin3 (Unit) (fun b8 => [(1, .s (.one (.i .i64 a1))), (2, .s (.one (.i .i64 a2))), (3, .s (.one (.sl a3.length (a3.flatMap eGL12Act)))), (9, .s (.one (.b v1))), (10, .s (.one (.lp 0 0))), (17, .s (.one (.i .i64 s7.1)))]) (fun b8 => [.box [.sl s7.2.length (s7.2.flatMap eGTokensEntry)], .box [.sl v4.1.L.length (v4.1.L.flatMap eGTokensEntry)]]) (fun b8 => m6_l12_TokensFence_k8 a1 a2 a3 s7 b8 = some y7) (fun _ _ => inbL_of rfl) (fun _ _ => blkinb_of rfl) (fun _ _ => Nat.le_of_ble_eq_true rfl) (fun b8 h => ?_) ?_
            · unfold m6_l12_TokensFence_k8 at h
              refine cseq ?_
              refine chole ?_
              obtain ⟨u9, hu9, h⟩ := bind_eq h
              obtain ⟨v10, hv10, h⟩ := bind_eq h
              refine cdraw_e [11, 12] [0, 0, 0, 6, 14, 0, 32, 127, 255, 511, 511, 0, 3071, 8191] [[.box [.sl s7.2.length (s7.2.flatMap eGTokensEntry)], .box [.sl v4.1.L.length (v4.1.L.flatMap eGTokensEntry)], .hole], [.box [.sl s7.2.length (s7.2.flatMap eGTokensEntry)], .box [.sl v4.1.L.length (v4.1.L.flatMap eGTokensEntry)], .box [.raw (.slice none 0 0)]], [.box [.sl s7.2.length (s7.2.flatMap eGTokensEntry)], .box [.sl v4.1.L.length (v4.1.L.flatMap eGTokensEntry)], .box [.sl v10.1.L.length (v10.1.L.flatMap eGTokensEntry)]]] (by kernel_rfl) mixed (by kernel_rfl) (by decide) rfl rfl rfl rfl ?_
              refine ev (sees_all (md := [.box [.sl s7.2.length (s7.2.flatMap eGTokensEntry)], .box [.sl v4.1.L.length (v4.1.L.flatMap eGTokensEntry)], .dead]) ⟨⟨rfl, ⟨rfl, ⟨trivial, trivial⟩⟩⟩, ⟨⟨rfl, ⟨rfl, ⟨trivial, trivial⟩⟩⟩, ⟨⟨rfl, ⟨rfl, ⟨trivial, trivial⟩⟩⟩, trivial⟩⟩⟩) rfl rfl (opv_loadN ti26 rfl (.lp _ _ _ rfl) (Nat.le_of_ble_eq_true rfl)) ?_
              refine ev (sees_all (md := [.box [.sl s7.2.length (s7.2.flatMap eGTokensEntry)], .box [.sl v4.1.L.length (v4.1.L.flatMap eGTokensEntry)], .dead]) ⟨⟨rfl, ⟨rfl, ⟨trivial, trivial⟩⟩⟩, ⟨⟨rfl, ⟨rfl, ⟨trivial, trivial⟩⟩⟩, ⟨⟨rfl, ⟨rfl, ⟨trivial, trivial⟩⟩⟩, trivial⟩⟩⟩) rfl rfl (opv_mv rfl) ?_
              refine ev (sees_all (md := [.box [.sl s7.2.length (s7.2.flatMap eGTokensEntry)], .box [.sl v4.1.L.length (v4.1.L.flatMap eGTokensEntry)], .dead]) ⟨⟨rfl, ⟨rfl, ⟨trivial, trivial⟩⟩⟩, ⟨⟨rfl, ⟨rfl, ⟨trivial, trivial⟩⟩⟩, ⟨⟨rfl, ⟨rfl, ⟨trivial, trivial⟩⟩⟩, trivial⟩⟩⟩) rfl rfl (opv_mv rfl) ?_
              refine ev (sees_all (md := [.box [.sl s7.2.length (s7.2.flatMap eGTokensEntry)], .box [.sl v4.1.L.length (v4.1.L.flatMap eGTokensEntry)], .dead]) ⟨⟨rfl, ⟨rfl, ⟨trivial, trivial⟩⟩⟩, ⟨⟨rfl, ⟨rfl, ⟨trivial, trivial⟩⟩⟩, ⟨⟨rfl, ⟨rfl, ⟨trivial, trivial⟩⟩⟩, trivial⟩⟩⟩) rfl rfl (opv_ix (f := eGL12Act) si22 (fun _ => rfl) rfl rfl rfl rfl hu9) ?_
              refine ev (sees_all (md := [.box [.sl s7.2.length (s7.2.flatMap eGTokensEntry)], .box [.sl v4.1.L.length (v4.1.L.flatMap eGTokensEntry)], .dead]) ⟨⟨rfl, ⟨rfl, ⟨trivial, trivial⟩⟩⟩, ⟨⟨rfl, ⟨rfl, ⟨trivial, trivial⟩⟩⟩, ⟨⟨rfl, ⟨rfl, ⟨trivial, trivial⟩⟩⟩, trivial⟩⟩⟩) rfl rfl (opv_loadNe (ys := [.i .i64 u9.What, .i .i64 u9.Tok, .i .i64 u9.Attempt]) ti28 rfl (.cp _) rfl rfl) ?_
              refine ev (sees_all (md := [.box [.sl s7.2.length (s7.2.flatMap eGTokensEntry)], .box [.sl v4.1.L.length (v4.1.L.flatMap eGTokensEntry)], .dead]) ⟨⟨rfl, ⟨rfl, ⟨trivial, trivial⟩⟩⟩, ⟨⟨rfl, ⟨rfl, ⟨trivial, trivial⟩⟩⟩, ⟨⟨rfl, ⟨rfl, ⟨trivial, trivial⟩⟩⟩, trivial⟩⟩⟩) rfl rfl (opv_mv rfl) ?_
              refine ev (sees_all (md := [.box [.sl s7.2.length (s7.2.flatMap eGTokensEntry)], .box [.sl v4.1.L.length (v4.1.L.flatMap eGTokensEntry)], .dead]) ⟨⟨rfl, ⟨rfl, ⟨trivial, trivial⟩⟩⟩, ⟨⟨rfl, ⟨rfl, ⟨trivial, trivial⟩⟩⟩, ⟨⟨rfl, ⟨rfl, ⟨trivial, trivial⟩⟩⟩, trivial⟩⟩⟩) rfl rfl (opv_add rfl rfl) ?_
              refine ed (sees_all (md := [.box [.sl s7.2.length (s7.2.flatMap eGTokensEntry)], .box [.sl v4.1.L.length (v4.1.L.flatMap eGTokensEntry)], .dead]) ⟨⟨rfl, ⟨rfl, ⟨trivial, trivial⟩⟩⟩, ⟨⟨rfl, ⟨rfl, ⟨trivial, trivial⟩⟩⟩, ⟨⟨rfl, ⟨rfl, ⟨trivial, trivial⟩⟩⟩, trivial⟩⟩⟩) rfl rfl (opD_call fn8 (opnds_cons rfl (opnds_cons rfl (opnds_cons rfl opnds_nil))) rfl (m8_l12_did_c hv10)) ?_
              refine ev (sees_all (md := [.box [.sl s7.2.length (s7.2.flatMap eGTokensEntry)], .box [.sl v4.1.L.length (v4.1.L.flatMap eGTokensEntry)], .dead]) ⟨⟨rfl, ⟨rfl, ⟨trivial, trivial⟩⟩⟩, ⟨⟨rfl, ⟨rfl, ⟨trivial, trivial⟩⟩⟩, ⟨⟨rfl, ⟨rfl, ⟨trivial, trivial⟩⟩⟩, trivial⟩⟩⟩) rfl rfl (opv_mvt rfl) ?_
              refine ev (sees_all (md := [.box [.sl s7.2.length (s7.2.flatMap eGTokensEntry)], .box [.sl v4.1.L.length (v4.1.L.flatMap eGTokensEntry)], .dead]) ⟨⟨rfl, ⟨rfl, ⟨trivial, trivial⟩⟩⟩, ⟨⟨rfl, ⟨rfl, ⟨trivial, trivial⟩⟩⟩, ⟨⟨rfl, ⟨rfl, ⟨trivial, trivial⟩⟩⟩, trivial⟩⟩⟩) rfl rfl (opv_extract rfl rfl) ?_
              refine ev (sees_all (md := [.box [.sl s7.2.length (s7.2.flatMap eGTokensEntry)], .box [.sl v4.1.L.length (v4.1.L.flatMap eGTokensEntry)], .dead]) ⟨⟨rfl, ⟨rfl, ⟨trivial, trivial⟩⟩⟩, ⟨⟨rfl, ⟨rfl, ⟨trivial, trivial⟩⟩⟩, ⟨⟨rfl, ⟨rfl, ⟨trivial, trivial⟩⟩⟩, trivial⟩⟩⟩) rfl rfl (opv_extract rfl rfl) ?_
              refine ee (x := .s (.one (.lp 2 0))) 0 rfl rfl rfl rfl rfl (fun ζ => ?_) ?_
              · refine salloc_at 2 rfl zi26 rfl ?_
                exact eend
              refine ee0 1 rfl rfl rfl rfl (fun ζ => ?_) ?_
              · refine sstore sz26 rfl rfl rfl rfl (Nat.le_of_ble_eq_true rfl) ?_
                refine smem [.box [.sl s7.2.length (s7.2.flatMap eGTokensEntry)], .box [.sl v4.1.L.length (v4.1.L.flatMap eGTokensEntry)], .box [.sl v10.1.L.length (v10.1.L.flatMap eGTokensEntry)]] rfl ?_
                exact eend
              refine ev (sees_at 2 rfl rfl) rfl rfl (opv_as rfl) ?_
              refine enil ?_
              refine then_normal ?_
              refine cseq ?_
              refine cseq ?_
              refine cregion ?_
              refine sv rfl (opv_mv rfl) ?_
              refine sv rfl (opv_ineq rfl rfl) ?_
              refine snil ?_
              refine ccond rfl (fun hc => ?_) (fun hc => ?_)
              · replace h := ite_t hc h
                clear hc
                refine cexit ?_
                refine then_exit ?_
                refine block_hit ?_
                refine then_normal ?_
                refine cregion ?_
                refine sv rfl (opv_mv rfl) ?_
                refine sv rfl (opv_add rfl rfl) ?_
                refine sv rfl (opv_as rfl) ?_
                refine snil ?_
                obtain rfl := Option.some.inj h
                exact ⟨(n7, ((wI (s7.1 + 1)), s7.2)), _, hk7, ⟨rfl, rfl, rfl, rfl, rfl, rfl, trivial⟩, rfl, Nat.lt_succ_self _⟩
              · replace h := ite_f hc h
                clear hc
                refine cskip ?_
                refine then_normal ?_
                refine cseq ?_
                refine cseq ?_
                refine cjoin3 (Unit) (fun b11 => [(1, .s (.one (.i .i64 a1))), (2, .s (.one (.i .i64 a2))), (3, .s (.one (.sl a3.length (a3.flatMap eGL12Act)))), (9, .s (.one (.b v1))), (10, .s (.one (.lp 0 0))), (17, .s (.one (.i .i64 s7.1))), (18, .s (.one (.lp 2 0)))]) (fun b11 => [.box [.sl s7.2.length (s7.2.flatMap eGTokensEntry)], .box [.sl v4.1.L.length (v4.1.L.flatMap eGTokensEntry)], .box [.sl v10.1.L.length (v10.1.L.flatMap eGTokensEntry)]]) (fun b11 => m6_l12_TokensFence_k11 s7 v10 b11 = some y7) (fun _ _ => inbL_of rfl) (fun _ _ => blkinb_of rfl) (fun _ _ => Nat.le_of_ble_eq_true rfl) (fun b11 h => ?_) ?_
                · unfold m6_l12_TokensFence_k11 at h
                  refine cregion ?_
                  refine sv rfl (opv_loadN ti26 rfl (.lp _ _ _ rfl) (Nat.le_of_ble_eq_true rfl)) ?_
                  refine sstore sz26 rfl rfl rfl rfl (Nat.le_of_ble_eq_true rfl) ?_
                  refine smem [.box [.sl v10.1.L.length (v10.1.L.flatMap eGTokensEntry)], .box [.sl v4.1.L.length (v4.1.L.flatMap eGTokensEntry)], .box [.sl v10.1.L.length (v10.1.L.flatMap eGTokensEntry)]] rfl ?_
                  refine snil0 ?_
                  refine block_normal ?_
                  refine then_normal ?_
                  refine cregion ?_
                  refine sv rfl (opv_mv rfl) ?_
                  refine sv rfl (opv_add rfl rfl) ?_
                  refine sv rfl (opv_as rfl) ?_
                  refine snil ?_
                  obtain rfl := Option.some.inj h
                  exact ⟨(n7, ((wI (s7.1 + 1)), v10.1.L)), _, hk7, ⟨rfl, rfl, rfl, rfl, rfl, rfl, trivial⟩, rfl, Nat.lt_succ_self _⟩
                · skip
                  refine cregion ?_
                  refine sv rfl (opv_mv rfl) ?_
                  refine sv rfl (opv_mv rfl) ?_
                  obtain ⟨u12, hu12, h⟩ := bind_eq h
                  refine sv rfl (opv_ix (f := eGL12Act) si22 (fun _ => rfl) rfl rfl rfl rfl hu12) ?_
                  refine sv rfl (opv_fieldAddr_cp fi28_1 rfl) ?_
                  refine sv rfl (opv_load1 ti3 rfl (.cp _) rfl) ?_
                  refine sv rfl (opv_mv rfl) ?_
                  refine sv rfl (opv_ieql rfl rfl) ?_
                  refine sv rfl (opv_mv rfl) ?_
                  refine ssplit 115 rfl (fun hc => ?_) (fun hc => ?_)
                  · replace h := ite_t hc h
                    clear hc
                    refine son rfl rfl rfl ?_
                    refine sv rfl (opv_mv rfl) ?_
                    refine son rfl rfl rfl ?_
                    refine sv rfl (opv_mv rfl) ?_
                    refine son rfl rfl rfl ?_
                    obtain ⟨u13, hu13, h⟩ := bind_eq h
                    refine sv rfl (opv_ix (f := eGL12Act) si22 (fun _ => rfl) rfl rfl rfl rfl hu13) ?_
                    refine son rfl rfl rfl ?_
                    refine sv rfl (opv_fieldAddr_cp fi28_0 rfl) ?_
                    refine son rfl rfl rfl ?_
                    refine sv rfl (opv_load1 ti3 rfl (.cp _) rfl) ?_
                    refine son rfl rfl rfl ?_
                    refine sv rfl (opv_leq rfl rfl) ?_
                    refine sv rfl (opv_pick_t rfl rfl) ?_
                    refine sv rfl (opv_mv rfl) ?_
                    refine ssplit 123 rfl (fun hc => ?_) (fun hc => ?_)
                    · replace h := ite_t hc h
                      clear hc
                      refine son rfl rfl rfl ?_
                      refine sv rfl (opv_mv rfl) ?_
                      refine son rfl rfl rfl ?_
                      refine sv rfl (opv_mv rfl) ?_
                      refine son rfl rfl rfl ?_
                      obtain ⟨u14, hu14, h⟩ := bind_eq h
                      refine sv rfl (opv_ix (f := eGL12Act) si22 (fun _ => rfl) rfl rfl rfl rfl hu14) ?_
                      refine son rfl rfl rfl ?_
                      refine sv rfl (opv_fieldAddr_cp fi28_2 rfl) ?_
                      refine son rfl rfl rfl ?_
                      refine sv rfl (opv_load1 ti3 rfl (.cp _) rfl) ?_
                      refine son rfl rfl rfl ?_
                      refine sv rfl (opv_mv rfl) ?_
                      refine son rfl rfl rfl ?_
                      refine sv rfl (opv_leq rfl rfl) ?_
                      refine sv rfl (opv_pick_t rfl rfl) ?_
                      refine snil ?_
                      refine ccond rfl (fun hc => ?_) (fun hc => ?_)
                      · replace h := ite_t hc h
                        clear hc
                        refine cseq ?_
                        refine cregion ?_
                        refine sv rfl (opv_as rfl) ?_
                        refine snil ?_
                        refine cret ?_
                        refine then_ret ?_
                        refine block_ret ?_
                        refine then_ret ?_
                        refine then_ret ?_
                        refine block_ret ?_
                        refine then_ret ?_
                        obtain rfl := Option.some.inj h
                        obtain rfl : Sum.inl _ = x7 := hk7
                        replace ho7 : some _ = some _ := ho7
                        obtain rfl := Option.some.inj ho7
                        refine ⟨Or.inr rfl, _, _, _, (resVs_cons (ResV.tmp _ _ rfl) resVs_nil), (pubA_id rfl), ?_⟩
                        rfl
                      · replace h := ite_f hc h
                        clear hc
                        refine cskip ?_
                        refine then_normal ?_
                        exact ⟨(), _, h, ⟨rfl, rfl, rfl, rfl, rfl, rfl, rfl, trivial⟩, rfl⟩
                    · replace h := ite_f hc h
                      clear hc
                      refine soff rfl rfl rfl rfl ?_
                      refine soff rfl rfl rfl rfl ?_
                      refine soff rfl rfl rfl rfl ?_
                      refine soff rfl rfl rfl rfl ?_
                      refine soff rfl rfl rfl rfl ?_
                      refine soff rfl rfl rfl rfl ?_
                      refine soff rfl rfl rfl rfl ?_
                      refine sv rfl (opv_pick_f rfl rfl) ?_
                      refine snil ?_
                      refine ccond rfl (fun hx => Bool.noConfusion hx) (fun _ => ?_)
                      refine cskip ?_
                      refine then_normal ?_
                      exact ⟨(), _, h, ⟨rfl, rfl, rfl, rfl, rfl, rfl, rfl, trivial⟩, rfl⟩
                  · replace h := ite_f hc h
                    clear hc
                    refine soff rfl rfl rfl rfl ?_
                    refine soff rfl rfl rfl rfl ?_
                    refine soff rfl rfl rfl rfl ?_
                    refine soff rfl rfl rfl rfl ?_
                    refine soff rfl rfl rfl rfl ?_
                    refine soff rfl rfl rfl rfl ?_
                    refine sv rfl (opv_pick_f rfl rfl) ?_
                    refine sv rfl (opv_mv rfl) ?_
                    refine soff rfl rfl rfl rfl ?_
                    refine soff rfl rfl rfl rfl ?_
                    refine soff rfl rfl rfl rfl ?_
                    refine soff rfl rfl rfl rfl ?_
                    refine soff rfl rfl rfl rfl ?_
                    refine soff rfl rfl rfl rfl ?_
                    refine soff rfl rfl rfl rfl ?_
                    refine sv rfl (opv_pick_f rfl rfl) ?_
                    refine snil ?_
                    refine ccond rfl (fun hx => Bool.noConfusion hx) (fun _ => ?_)
                    refine cskip ?_
                    refine then_normal ?_
                    exact ⟨(), _, h, ⟨rfl, rfl, rfl, rfl, rfl, rfl, rfl, trivial⟩, rfl⟩
            · skip
              refine cregion ?_
              refine sv rfl (opv_mv rfl) ?_
              refine sv rfl (opv_mv rfl) ?_
              obtain ⟨u15, hu15, h⟩ := bind_eq h
              refine sv rfl (opv_ix (f := eGL12Act) si22 (fun _ => rfl) rfl rfl rfl rfl hu15) ?_
              refine sv rfl (opv_fieldAddr_cp fi28_0 rfl) ?_
              refine sv rfl (opv_load1 ti3 rfl (.cp _) rfl) ?_
              refine sv rfl (opv_ieql rfl rfl) ?_
              refine sv rfl (opv_mv rfl) ?_
              refine ssplit 79 rfl (fun hc => ?_) (fun hc => ?_)
              · replace h := ite_t hc h
                clear hc
                refine soff rfl rfl rfl rfl ?_
                refine soff rfl rfl rfl rfl ?_
                refine soff rfl rfl rfl rfl ?_
                refine soff rfl rfl rfl rfl ?_
                refine soff rfl rfl rfl rfl ?_
                refine soff rfl rfl rfl rfl ?_
                refine sv rfl (opv_pick_t rfl rfl) ?_
                refine sv rfl (opv_mv rfl) ?_
                refine soff rfl rfl rfl rfl ?_
                refine soff rfl rfl rfl rfl ?_
                refine soff rfl rfl rfl rfl ?_
                refine soff rfl rfl rfl rfl ?_
                refine soff rfl rfl rfl rfl ?_
                refine soff rfl rfl rfl rfl ?_
                refine sv rfl (opv_pick_t rfl rfl) ?_
                refine snil ?_
                refine ccond rfl (fun _ => ?_) (fun hx => Bool.noConfusion hx)
                refine cexit ?_
                refine then_exit ?_
                refine block_hit ?_
                refine then_normal ?_
                refine cregion ?_
                refine sv rfl (opv_mv rfl) ?_
                refine sv rfl (opv_add rfl rfl) ?_
                refine sv rfl (opv_as rfl) ?_
                refine snil ?_
                obtain rfl := Option.some.inj h
                exact ⟨(n7, ((wI (s7.1 + 1)), s7.2)), _, hk7, ⟨rfl, rfl, rfl, rfl, rfl, rfl, trivial⟩, rfl, Nat.lt_succ_self _⟩
              · replace h := ite_f hc h
                clear hc
                refine son rfl rfl rfl ?_
                refine sv rfl (opv_mv rfl) ?_
                refine son rfl rfl rfl ?_
                refine sv rfl (opv_mv rfl) ?_
                refine son rfl rfl rfl ?_
                obtain ⟨u16, hu16, h⟩ := bind_eq h
                refine sv rfl (opv_ix (f := eGL12Act) si22 (fun _ => rfl) rfl rfl rfl rfl hu16) ?_
                refine son rfl rfl rfl ?_
                refine sv rfl (opv_fieldAddr_cp fi28_0 rfl) ?_
                refine son rfl rfl rfl ?_
                refine sv rfl (opv_load1 ti3 rfl (.cp _) rfl) ?_
                refine son rfl rfl rfl ?_
                refine sv rfl (opv_lss rfl rfl) ?_
                refine sv rfl (opv_pick_f rfl rfl) ?_
                refine sv rfl (opv_mv rfl) ?_
                refine ssplit 87 rfl (fun hc => ?_) (fun hc => ?_)
                · replace h := ite_t hc h
                  clear hc
                  refine soff rfl rfl rfl rfl ?_
                  refine soff rfl rfl rfl rfl ?_
                  refine soff rfl rfl rfl rfl ?_
                  refine soff rfl rfl rfl rfl ?_
                  refine soff rfl rfl rfl rfl ?_
                  refine soff rfl rfl rfl rfl ?_
                  refine sv rfl (opv_pick_t rfl rfl) ?_
                  refine snil ?_
                  refine ccond rfl (fun _ => ?_) (fun hx => Bool.noConfusion hx)
                  refine cexit ?_
                  refine then_exit ?_
                  refine block_hit ?_
                  refine then_normal ?_
                  refine cregion ?_
                  refine sv rfl (opv_mv rfl) ?_
                  refine sv rfl (opv_add rfl rfl) ?_
                  refine sv rfl (opv_as rfl) ?_
                  refine snil ?_
                  obtain rfl := Option.some.inj h
                  exact ⟨(n7, ((wI (s7.1 + 1)), s7.2)), _, hk7, ⟨rfl, rfl, rfl, rfl, rfl, rfl, trivial⟩, rfl, Nat.lt_succ_self _⟩
                · replace h := ite_f hc h
                  clear hc
                  refine son rfl rfl rfl ?_
                  refine sv rfl (opv_mv rfl) ?_
                  refine son rfl rfl rfl ?_
                  refine sv rfl (opv_mv rfl) ?_
                  refine son rfl rfl rfl ?_
                  obtain ⟨u17, hu17, h⟩ := bind_eq h
                  refine sv rfl (opv_ix (f := eGL12Act) si22 (fun _ => rfl) rfl rfl rfl rfl hu17) ?_
                  refine son rfl rfl rfl ?_
                  refine sv rfl (opv_fieldAddr_cp fi28_0 rfl) ?_
                  refine son rfl rfl rfl ?_
                  refine sv rfl (opv_load1 ti3 rfl (.cp _) rfl) ?_
                  refine son rfl rfl rfl ?_
                  refine sv rfl (opv_gtr rfl rfl) ?_
                  refine sv rfl (opv_pick_f rfl rfl) ?_
                  refine snil ?_
                  refine ccond rfl (fun hc => ?_) (fun hc => ?_)
                  · replace h := ite_t hc h
                    clear hc
                    refine cexit ?_
                    refine then_exit ?_
                    refine block_hit ?_
                    refine then_normal ?_
                    refine cregion ?_
                    refine sv rfl (opv_mv rfl) ?_
                    refine sv rfl (opv_add rfl rfl) ?_
                    refine sv rfl (opv_as rfl) ?_
                    refine snil ?_
                    obtain rfl := Option.some.inj h
                    exact ⟨(n7, ((wI (s7.1 + 1)), s7.2)), _, hk7, ⟨rfl, rfl, rfl, rfl, rfl, rfl, trivial⟩, rfl, Nat.lt_succ_self _⟩
                  · replace h := ite_f hc h
                    clear hc
                    refine cskip ?_
                    refine then_normal ?_
                    exact ⟨(), _, h, ⟨rfl, rfl, rfl, rfl, rfl, rfl, trivial⟩, rfl⟩
          · replace h := ite_f hc h
            clear hc
            refine cexit ?_
            refine then_exit ?_
            refine then_exit ?_
            refine block_hit ?_
            refine then_normal ?_
            obtain rfl := Option.some.inj h
            obtain rfl : _ = x7 := hk7
            exact ⟨s7.2, _, ho7, ⟨rfl, trivial⟩, rfl⟩
      · skip
        refine cregion ?_
        refine sv rfl (opv_mv rfl) ?_
        refine sv rfl (opv_ineq rfl rfl) ?_
        refine sv rfl (opv_mv rfl) ?_
        refine ssplit 61 rfl (fun hc => ?_) (fun hc => ?_)
        · replace h := ite_t hc h
          clear hc
          refine soff rfl rfl rfl rfl ?_
          refine soff rfl rfl rfl rfl ?_
          refine sv rfl (opv_pick_t rfl rfl) ?_
          refine snil ?_
          refine ccond rfl (fun _ => ?_) (fun hx => Bool.noConfusion hx)
          refine cseq ?_
          refine cregion ?_
          refine sv rfl (opv_mv rfl) ?_
          refine sv rfl (opv_as rfl) ?_
          refine snil ?_
          refine cret ?_
          refine then_ret ?_
          obtain rfl := Option.some.inj h
          refine ⟨Or.inr rfl, _, _, _, (resVs_cons (ResV.tmp _ _ rfl) resVs_nil), (pubA_id rfl), ?_⟩
          rfl
        · replace h := ite_f hc h
          clear hc
          refine son rfl rfl rfl ?_
          refine sv rfl (opv_mv rfl) ?_
          refine son rfl rfl rfl ?_
          refine sv rfl (opv_gtr rfl rfl) ?_
          refine sv rfl (opv_pick_f rfl rfl) ?_
          refine snil ?_
          refine ccond rfl (fun hc => ?_) (fun hc => ?_)
          · replace h := ite_t hc h
            clear hc
            refine cseq ?_
            refine cregion ?_
            refine sv rfl (opv_mv rfl) ?_
            refine sv rfl (opv_as rfl) ?_
            refine snil ?_
            refine cret ?_
            refine then_ret ?_
            obtain rfl := Option.some.inj h
            refine ⟨Or.inr rfl, _, _, _, (resVs_cons (ResV.tmp _ _ rfl) resVs_nil), (pubA_id rfl), ?_⟩
            rfl
          · replace h := ite_f hc h
            clear hc
            refine cskip ?_
            refine then_normal ?_
            exact ⟨(), _, h, ⟨rfl, rfl, rfl, rfl, rfl, rfl, trivial⟩, rfl⟩
    · skip
      refine cblock ?_
      refine cpubbox 0 0 rfl rfl PubL.nil rfl ?_
      obtain ⟨x19, hx19, ho19⟩ := bind_eq h
      refine awc_loop (G := Nat × (Int × (List GTokensEntry))) (fun g => [(0, .s (.one (.sl a0.length (a0.flatMap eGL12Act)))), (1, .s (.one (.i .i64 a1))), (2, .s (.one (.i .i64 a2))), (3, .s (.one (.sl a3.length (a3.flatMap eGL12Act)))), (9, .s (.one (.b v1))), (10, .s (.one (.lp 0 0))), (11, .s (.one (.i .i64 g.2.1)))]) (fun g => [.box [.sl g.2.2.length (g.2.2.flatMap eGTokensEntry)]]) (fun g => iterB (m6_l12_TokensFence_s19 a0) g.1 g.2 = some x19) (fun g => g.1) (fuel, (0, ([] : List GTokensEntry))) hx19 ⟨rfl, rfl, rfl, rfl, rfl, rfl, rfl, trivial⟩ [] rfl (fun _ _ => inbL_of rfl) (fun _ _ => blkinb_of rfl) (fun _ _ => Nat.le_of_ble_eq_true rfl) ?_
      clear hx19 h
      rintro ⟨n19, s19⟩ h
      obtain ⟨n19, y19, rfl, h, hk19⟩ := iterB_eq h
      unfold m6_l12_TokensFence_s19 at h
      refine cseq ?_
      refine cseq ?_
      refine cregion ?_
      refine sv rfl (opv_mv rfl) ?_
      refine sv rfl (opv_mv rfl) ?_
      refine sv rfl (opv_len_sl si22 rfl) ?_
      refine sv rfl (opv_lss rfl rfl) ?_
      refine snil ?_
      refine ccond rfl (fun hc => ?_) (fun hc => ?_)
      · replace h := ite_t hc h
        clear hc
        refine cskip ?_
        refine then_normal ?_
        refine cseq ?_
        refine cblock ?_
        refine cseq ?_
        refine chole ?_
        obtain ⟨u20, hu20, h⟩ := bind_eq h
        obtain ⟨v21, hv21, h⟩ := bind_eq h
        refine cdraw_e [11, 12] [0, 0, 0, 6, 14, 0, 32, 127, 255, 511, 511, 0, 3071, 8191] [[.box [.sl s19.2.length (s19.2.flatMap eGTokensEntry)], .hole], [.box [.sl s19.2.length (s19.2.flatMap eGTokensEntry)], .box [.raw (.slice none 0 0)]], [.box [.sl s19.2.length (s19.2.flatMap eGTokensEntry)], .box [.sl v21.1.L.length (v21.1.L.flatMap eGTokensEntry)]]] (by kernel_rfl) mixed (by kernel_rfl) (by decide) rfl rfl rfl rfl ?_
        refine ev (sees_all (md := [.box [.sl s19.2.length (s19.2.flatMap eGTokensEntry)], .dead]) ⟨⟨rfl, ⟨trivial, trivial⟩⟩, ⟨⟨rfl, ⟨trivial, trivial⟩⟩, ⟨⟨rfl, ⟨trivial, trivial⟩⟩, trivial⟩⟩⟩) rfl rfl (opv_loadN ti26 rfl (.lp _ _ _ rfl) (Nat.le_of_ble_eq_true rfl)) ?_
        refine ev (sees_all (md := [.box [.sl s19.2.length (s19.2.flatMap eGTokensEntry)], .dead]) ⟨⟨rfl, ⟨trivial, trivial⟩⟩, ⟨⟨rfl, ⟨trivial, trivial⟩⟩, ⟨⟨rfl, ⟨trivial, trivial⟩⟩, trivial⟩⟩⟩) rfl rfl (opv_mv rfl) ?_
        refine ev (sees_all (md := [.box [.sl s19.2.length (s19.2.flatMap eGTokensEntry)], .dead]) ⟨⟨rfl, ⟨trivial, trivial⟩⟩, ⟨⟨rfl, ⟨trivial, trivial⟩⟩, ⟨⟨rfl, ⟨trivial, trivial⟩⟩, trivial⟩⟩⟩) rfl rfl (opv_mv rfl) ?_
        refine ev (sees_all (md := [.box [.sl s19.2.length (s19.2.flatMap eGTokensEntry)], .dead]) ⟨⟨rfl, ⟨trivial, trivial⟩⟩, ⟨⟨rfl, ⟨trivial, trivial⟩⟩, ⟨⟨rfl, ⟨trivial, trivial⟩⟩, trivial⟩⟩⟩) rfl rfl (opv_ix (f := eGL12Act) si22 (fun _ => rfl) rfl rfl rfl rfl hu20) ?_
        refine ev (sees_all (md := [.box [.sl s19.2.length (s19.2.flatMap eGTokensEntry)], .dead]) ⟨⟨rfl, ⟨trivial, trivial⟩⟩, ⟨⟨rfl, ⟨trivial, trivial⟩⟩, ⟨⟨rfl, ⟨trivial, trivial⟩⟩, trivial⟩⟩⟩) rfl rfl (opv_loadNe (ys := [.i .i64 u20.What, .i .i64 u20.Tok, .i .i64 u20.Attempt]) ti28 rfl (.cp _) rfl rfl) ?_
        refine ev (sees_all (md := [.box [.sl s19.2.length (s19.2.flatMap eGTokensEntry)], .dead]) ⟨⟨rfl, ⟨trivial, trivial⟩⟩, ⟨⟨rfl, ⟨trivial, trivial⟩⟩, ⟨⟨rfl, ⟨trivial, trivial⟩⟩, trivial⟩⟩⟩) rfl rfl (opv_mv rfl) ?_
        refine ev (sees_all (md := [.box [.sl s19.2.length (s19.2.flatMap eGTokensEntry)], .dead]) ⟨⟨rfl, ⟨trivial, trivial⟩⟩, ⟨⟨rfl, ⟨trivial, trivial⟩⟩, ⟨⟨rfl, ⟨trivial, trivial⟩⟩, trivial⟩⟩⟩) rfl rfl (opv_add rfl rfl) ?_
        refine ed (sees_all (md := [.box [.sl s19.2.length (s19.2.flatMap eGTokensEntry)], .dead]) ⟨⟨rfl, ⟨trivial, trivial⟩⟩, ⟨⟨rfl, ⟨trivial, trivial⟩⟩, ⟨⟨rfl, ⟨trivial, trivial⟩⟩, trivial⟩⟩⟩) rfl rfl (opD_call fn8 (opnds_cons rfl (opnds_cons rfl (opnds_cons rfl opnds_nil))) rfl (m8_l12_did_c hv21)) ?_
        refine ev (sees_all (md := [.box [.sl s19.2.length (s19.2.flatMap eGTokensEntry)], .dead]) ⟨⟨rfl, ⟨trivial, trivial⟩⟩, ⟨⟨rfl, ⟨trivial, trivial⟩⟩, ⟨⟨rfl, ⟨trivial, trivial⟩⟩, trivial⟩⟩⟩) rfl rfl (opv_mvt rfl) ?_
        refine ev (sees_all (md := [.box [.sl s19.2.length (s19.2.flatMap eGTokensEntry)], .dead]) ⟨⟨rfl, ⟨trivial, trivial⟩⟩, ⟨⟨rfl, ⟨trivial, trivial⟩⟩, ⟨⟨rfl, ⟨trivial, trivial⟩⟩, trivial⟩⟩⟩) rfl rfl (opv_extract rfl rfl) ?_
        refine ev (sees_all (md := [.box [.sl s19.2.length (s19.2.flatMap eGTokensEntry)], .dead]) ⟨⟨rfl, ⟨trivial, trivial⟩⟩, ⟨⟨rfl, ⟨trivial, trivial⟩⟩, ⟨⟨rfl, ⟨trivial, trivial⟩⟩, trivial⟩⟩⟩) rfl rfl (opv_extract rfl rfl) ?_
        refine ee (x := .s (.one (.lp 1 0))) 0 rfl rfl rfl rfl rfl (fun ζ => ?_) ?_
        · refine salloc_at 1 rfl zi26 rfl ?_
          exact eend
        refine ee0 1 rfl rfl rfl rfl (fun ζ => ?_) ?_
        · refine sstore sz26 rfl rfl rfl rfl (Nat.le_of_ble_eq_true rfl) ?_
          refine smem [.box [.sl s19.2.length (s19.2.flatMap eGTokensEntry)], .box [.sl v21.1.L.length (v21.1.L.flatMap eGTokensEntry)]] rfl ?_
          exact eend
        refine ev (sees_at 2 rfl rfl) rfl rfl (opv_as rfl) ?_
        refine enil ?_
        refine then_normal ?_
        refine cseq ?_
        refine cregion ?_
        refine sv rfl (opv_mv rfl) ?_
        refine sv rfl (opv_ieql rfl rfl) ?_
        refine snil ?_
        refine ccond rfl (fun hc => ?_) (fun hc => ?_)
        · replace h := ite_t hc h
          clear hc
          refine cregion ?_
          refine sv rfl (opv_loadN ti26 rfl (.lp _ _ _ rfl) (Nat.le_of_ble_eq_true rfl)) ?_
          refine sstore sz26 rfl rfl rfl rfl (Nat.le_of_ble_eq_true rfl) ?_
          refine smem [.box [.sl v21.1.L.length (v21.1.L.flatMap eGTokensEntry)], .box [.sl v21.1.L.length (v21.1.L.flatMap eGTokensEntry)]] rfl ?_
          refine snil0 ?_
          refine block_normal ?_
          refine then_normal ?_
          refine cregion ?_
          refine sv rfl (opv_mv rfl) ?_
          refine sv rfl (opv_add rfl rfl) ?_
          refine sv rfl (opv_as rfl) ?_
          refine snil ?_
          obtain rfl := Option.some.inj h
          exact ⟨(n19, ((wI (s19.1 + 1)), v21.1.L)), _, hk19, ⟨rfl, rfl, rfl, rfl, rfl, rfl, rfl, trivial⟩, rfl, Nat.lt_succ_self _⟩
        · replace h := ite_f hc h
          clear hc
          refine cskip ?_
          refine block_normal ?_
          refine then_normal ?_
          refine cregion ?_
          refine sv rfl (opv_mv rfl) ?_
          refine sv rfl (opv_add rfl rfl) ?_
          refine sv rfl (opv_as rfl) ?_
          refine snil ?_
          obtain rfl := Option.some.inj h
          exact ⟨(n19, ((wI (s19.1 + 1)), s19.2)), _, hk19, ⟨rfl, rfl, rfl, rfl, rfl, rfl, rfl, trivial⟩, rfl, Nat.lt_succ_self _⟩
      · replace h := ite_f hc h
        clear hc
        refine cexit ?_
        refine then_exit ?_
        refine then_exit ?_
        refine block_hit ?_
        refine then_normal ?_
        obtain rfl := Option.some.inj h
        obtain rfl : _ = x19 := hk19
        exact ⟨s19.2, _, ho19, ⟨rfl, rfl, rfl, rfl, rfl, trivial⟩, rfl⟩
  · skip
    refine cregion ?_
    refine sv rfl (opv_mv rfl) ?_
    refine sv rfl (opv_len_sl si22 rfl) ?_
    refine sv rfl (opv_gtr rfl rfl) ?_
    refine sv rfl (opv_mv rfl) ?_
    refine ssplit 24 rfl (fun hc => ?_) (fun hc => ?_)
    · replace h := ite_t hc h
      clear hc
      refine soff rfl rfl rfl rfl ?_
      refine soff rfl rfl rfl rfl ?_
      refine soff rfl rfl rfl rfl ?_
      refine sv rfl (opv_pick_t rfl rfl) ?_
      refine snil ?_
      refine ccond rfl (fun _ => ?_) (fun hx => Bool.noConfusion hx)
      refine cseq ?_
      refine cregion ?_
      refine sv rfl (opv_mv rfl) ?_
      refine sv rfl (opv_as rfl) ?_
      refine snil ?_
      refine cret ?_
      refine then_ret ?_
      obtain rfl := Option.some.inj h
      refine ⟨Or.inr rfl, _, _, _, (resVs_cons (ResV.tmp _ _ rfl) resVs_nil), (pubA_id rfl), ?_⟩
      rfl
    · replace h := ite_f hc h
      clear hc
      refine son rfl rfl rfl ?_
      refine sv rfl (opv_mv rfl) ?_
      refine son rfl rfl rfl ?_
      refine sv rfl (opv_len_sl si22 rfl) ?_
      refine son rfl rfl rfl ?_
      refine sv rfl (opv_gtr rfl rfl) ?_
      refine sv rfl (opv_pick_f rfl rfl) ?_
      refine snil ?_
      refine ccond rfl (fun hc => ?_) (fun hc => ?_)
      · replace h := ite_t hc h
        clear hc
        refine cseq ?_
        refine cregion ?_
        refine sv rfl (opv_mv rfl) ?_
        refine sv rfl (opv_as rfl) ?_
        refine snil ?_
        refine cret ?_
        refine then_ret ?_
        obtain rfl := Option.some.inj h
        refine ⟨Or.inr rfl, _, _, _, (resVs_cons (ResV.tmp _ _ rfl) resVs_nil), (pubA_id rfl), ?_⟩
        rfl
      · replace h := ite_f hc h
        clear hc
        refine cskip ?_
        refine then_normal ?_
        exact ⟨(), _, h, ⟨rfl, rfl, rfl, rfl, rfl, trivial⟩, rfl⟩

def m23_slices_Clone (a0 : List GTokensEntry) : Option (List GTokensEntry) :=
  if (([] : List GTokensEntry).length + a0.length) * 32 ≤ 140737488355328 then (some (([] : List GTokensEntry) ++ a0)) else none

set_option maxRecDepth 100000 in
theorem m23_slices_Clone_c {a0 : List GTokensEntry} {r : (List GTokensEntry)} (h : m23_slices_Clone a0 = some r) : CallsA Try.prog 23 [.one (.sl a0.length (a0.flatMap eGTokensEntry))] (· = .s (.one (.sl r.length (r.flatMap eGTokensEntry)))) := by
  unfold m23_slices_Clone at h
  refine callsA_of Try.func23 rfl (nt := 8) rfl (Nat.le_of_ble_eq_true rfl) ?_
  intro w0 S0
  refine cseq ?_
  refine cregion ?_
  refine sv rfl (opv_as rfl) ?_
  refine snil ?_
  refine cseq ?_
  refine cseq ?_
  refine cregion ?_
  refine sv rfl (opv_mv rfl) ?_
  refine snilq rfl Try.underlying24 rfl (fun nq hnq => ?_)
  cases nq
  · skip
    refine snil ?_
    refine ccond rfl (fun hx => Bool.noConfusion hx) (fun _ => ?_)
    refine cskip ?_
    refine then_normal ?_
    refine cseq ?_
    refine cregion ?_
    refine sbuild0 rfl Try.underlying24 ei33 ?_
    refine sv rfl (opv_mv rfl) ?_
    obtain ⟨hb1, h⟩ := chk_eq h
    refine sapp (f := eGTokensEntry) (xs := ([] : List GTokensEntry)) (us := a0) rfl Try.underlying24 ei33 ni24 (fun _ => rfl) rfl rfl (.one _ _ _ _ (.id _ rfl)) rfl rfl rfl (.sl _ _ _ (flat_len (f := eGTokensEntry) (fun _ => rfl) _)) rfl rfl hb1 (by decide) ?_
    refine sv rfl (opv_as rfl) ?_
    refine snil ?_
    refine cret ?_
    obtain rfl := Option.some.inj h
    refine ⟨Or.inr rfl, _, _, _, (resVs_cons (ResV.tmp _ _ rfl) resVs_nil), (by (repeat' first | exact PubA.nil _ | apply PubA.cons | apply PubV.one | apply PubV.agg | exact PubL.nil | exact PubL.ls _ _ _ _ _ _ rfl (flat_len (f := eGTokensEntry) (fun _ => rfl) _).symm | exact PubL.id _ rfl | exact PubLs.nil _ | apply PubLs.cons)), ?_⟩
    rfl
  · obtain rfl := List.eq_nil_of_length_eq_zero (hnq rfl)
    replace h : (some ([] : List GTokensEntry)) = some r := by first | exact h | (rw [if_pos (by decide)] at h; exact h)
    refine snil ?_
    refine ccond rfl (fun _ => ?_) (fun hx => Bool.noConfusion hx)
    refine cseq ?_
    refine cregion ?_
    refine sv rfl (opv_as rfl) ?_
    refine snil ?_
    refine cret ?_
    refine then_ret ?_
    obtain rfl := Option.some.inj h
    refine ⟨Or.inr rfl, _, _, _, (resVs_cons (ResV.tmp _ _ rfl) resVs_nil), (pubC rfl), ?_⟩
    rfl


end Go.Proofs.Ytbaamfddahpemaa.Abs
