/-
  t
-/
import Derived.Test.YtbmciegldpeaiaaT11b
namespace Go.Proofs.Ytbmciegldpeaiaa.Abs
open Go.RowKit Go.Proofs
def m12_l11_world_aheads (a0 : GR11Tx) (a1 : GR11Tx) (a2 : List GSsiTx) (a3 : List GReadsRead) (a4 : Int) (a5 : List Int) (a6 : List GR11Tx) (a7 : List GR10Read) : Option Bool :=
  (iter (m12_l11_world_aheads_s17 a0 a1) fuel 0).bind fun x => match x with | .inl r => some r | .inr e23 => m12_l11_world_aheads_k1 a0 a1 a7 e23

set_option maxRecDepth 100000 in
theorem m12_l11_world_aheads_c {a0 : GR11Tx} {a1 : GR11Tx} {a2 : List GSsiTx} {a3 : List GReadsRead} {a4 : Int} {a5 : List Int} {a6 : List GR11Tx} {a7 : List GR10Read} {r : Bool} (h : m12_l11_world_aheads a0 a1 a2 a3 a4 a5 a6 a7 = some r) : CallsB Try.prog 12 [.box [.sl a2.length (a2.flatMap eGSsiTx), .sl a3.length (a3.flatMap eGReadsRead), .i .i64 a4, .ls 1 a5.length, .ls 2 a6.length, .ls 3 a7.length], .arr 3 1 0 (a5.flatMap eI), .arr 46 8 0 (a6.flatMap eGR11Tx), .arr 76 4 0 (a7.flatMap eGR10Read)] [.one (.lp 0 0), .agg a0, .agg a1] (fun y m' => y = .s (.one (.b r)) ∧ m' = [.box [.sl a2.length (a2.flatMap eGSsiTx), .sl a3.length (a3.flatMap eGReadsRead), .i .i64 a4, .ls 1 a5.length, .ls 2 a6.length, .ls 3 a7.length], .arr 3 1 0 (a5.flatMap eI), .arr 46 8 0 (a6.flatMap eGR11Tx), .arr 76 4 0 (a7.flatMap eGR10Read)]) := by
  unfold m12_l11_world_aheads at h
  refine callsB_of Try.func12 rfl (nt := 122) rfl (Nat.le_of_ble_eq_true rfl) ?_
  intro w0 S0 X0 H0
  refine cseq ?_
  refine cregion ?_
  refine sbox rfl rfl ?_
  refine sbox rfl rfl ?_
  refine sv rfl (opv_as rfl) ?_
  refine snil ?_
  refine cseq ?_
  refine cseq ?_
  refine cregion ?_
  refine sv rfl (opv_as rfl) ?_
  refine snil ?_
  refine cjoin (Unit) (fun b1 => [(0, .s (.one (.lp 0 0))), (4, .s (.one (.lp 4 0))), (5, .s (.one (.lp 5 0)))]) (fun b1 => [.box [.sl a2.length (a2.flatMap eGSsiTx), .sl a3.length (a3.flatMap eGReadsRead), .i .i64 a4, .ls 1 a5.length, .ls 2 a6.length, .ls 3 a7.length], .arr 3 1 0 (a5.flatMap eI), .arr 46 8 0 (a6.flatMap eGR11Tx), .arr 76 4 0 (a7.flatMap eGR10Read), .box a0, .box a1]) (fun b1 => m12_l11_world_aheads_k1 a0 a1 a7 b1 = some r) (fun _ _ => inbL_of rfl) (fun _ _ => blkinb_of rfl) (fun _ _ => Nat.le_of_ble_eq_true rfl) (fun b1 h => ?_) ?_
  · unfold m12_l11_world_aheads_k1 at h
    refine cseq ?_
    refine cseq ?_
    refine cregion ?_
    refine sv rfl (opv_as rfl) ?_
    refine snil ?_
    refine cjoin (Unit) (fun b2 => []) (fun b2 => [.box [.sl a2.length (a2.flatMap eGSsiTx), .sl a3.length (a3.flatMap eGReadsRead), .i .i64 a4, .ls 1 a5.length, .ls 2 a6.length, .ls 3 a7.length], .arr 3 1 0 (a5.flatMap eI), .arr 46 8 0 (a6.flatMap eGR11Tx), .arr 76 4 0 (a7.flatMap eGR10Read), .box a0, .box a1]) (fun b2 => m12_l11_world_aheads_k2 b2 = some r) (fun _ _ => inbL_of rfl) (fun _ _ => blkinb_of rfl) (fun _ _ => Nat.le_of_ble_eq_true rfl) (fun b2 h => ?_) ?_
    · unfold m12_l11_world_aheads_k2 at h
      refine cseq ?_
      refine cregion ?_
      refine sv rfl (opv_as rfl) ?_
      refine snil ?_
      refine cret ?_
      obtain rfl := Option.some.inj h
      exact ⟨Or.inr rfl, _, [0, 1, 2, 3], [.one (.b false)], [.box [.sl a2.length (a2.flatMap eGSsiTx), .sl a3.length (a3.flatMap eGReadsRead), .i .i64 a4, .ls 1 a5.length, .ls 2 a6.length, .ls 3 a7.length], .arr 3 1 0 (a5.flatMap eI), .arr 46 8 0 (a6.flatMap eGR11Tx), .arr 76 4 0 (a7.flatMap eGR10Read)], (resVs_cons (ResV.tmp _ _ rfl) resVs_nil), rfl, rfl, ⟨by decide, rfl⟩, rfl, rfl, ⟨rfl, rfl⟩⟩
    · skip
      refine cblock ?_
      obtain ⟨x3, hx3, ho3⟩ := bind_eq h
      refine awc_loop (G := Nat × (Int)) (fun g => [(0, .s (.one (.lp 0 0))), (4, .s (.one (.lp 4 0))), (5, .s (.one (.lp 5 0))), (9, .s (.one (.i .i64 g.2)))]) (fun g => [.box [.sl a2.length (a2.flatMap eGSsiTx), .sl a3.length (a3.flatMap eGReadsRead), .i .i64 a4, .ls 1 a5.length, .ls 2 a6.length, .ls 3 a7.length], .arr 3 1 0 (a5.flatMap eI), .arr 46 8 0 (a6.flatMap eGR11Tx), .arr 76 4 0 (a7.flatMap eGR10Read), .box a0, .box a1]) (fun g => iter (m12_l11_world_aheads_s3 a0 a1 a7) g.1 g.2 = some x3) (fun g => g.1) (fuel, 0) hx3 ⟨rfl, rfl, rfl, rfl, trivial⟩ [] rfl (fun _ _ => inbL_of rfl) (fun _ _ => blkinb_of rfl) (fun _ _ => Nat.le_of_ble_eq_true rfl) ?_
      clear hx3 h
      rintro ⟨n3, s3⟩ h
      obtain ⟨n3, y3, rfl, h, hk3⟩ := iter_eq h
      unfold m12_l11_world_aheads_s3 at h
      refine cseq ?_
      refine cseq ?_
      refine cregion ?_
      refine sv rfl (opv_mv rfl) ?_
      refine sv rfl (opv_mv rfl) ?_
      refine sv rfl (opv_nilCheck rfl rfl (fun _ _ _ h => by cases h)) ?_
      refine sv rfl (opv_fieldAddr_lp fi36_4 rfl) ?_
      refine sv rfl (opv_load1 ti34 rfl (.lp _ _ _ rfl) rfl) ?_
      refine sv rfl (opv_len_ls si34 rfl rfl (flat_len (f := eGR10Read) (fun _ => rfl) _).symm) ?_
      refine sv rfl (opv_lss rfl rfl) ?_
      refine snil ?_
      refine ccond rfl (fun hc => ?_) (fun hc => ?_)
      · replace h := ite_t hc h
        clear hc
        refine cskip ?_
        refine then_normal ?_
        refine cseq ?_
        refine cblock ?_
        refine cseq ?_
        refine cdraw mixed (by kernel_rfl) ?_
        refine dv rfl (opv_mv rfl) ?_
        refine dv rfl (opv_nilCheck rfl rfl (fun _ _ _ h => by cases h)) ?_
        refine dv rfl (opv_fieldAddr_lp fi36_4 rfl) ?_
        refine dv rfl (opv_load1 ti34 rfl (.lp _ _ _ rfl) rfl) ?_
        refine dv rfl (opv_mv rfl) ?_
        obtain ⟨u4, hu4, h⟩ := bind_eq h
        refine dv rfl (opv_ixo (f := eGR10Read) si34 (fun _ => rfl) rfl rfl rfl rfl rfl hu4) ?_
        refine dv rfl (opv_fieldAddr_ap fi76_0 rfl rfl (flat_len (f := eGR10Read) (fun _ => rfl) _).symm) ?_
        refine dv rfl (opv_ld1o (f := eGR10Read) 0 ti3 (fun _ => rfl) rfl rfl rfl rfl (idx_eq hu4).2 rfl) ?_
        refine dv rfl (opv_fieldAddr_lp fi46_0 rfl) ?_
        refine dv rfl (opv_load1 ti3 rfl (.lp _ _ _ rfl) rfl) ?_
        refine dv rfl (opv_ieql rfl rfl) ?_
        refine dv rfl (opv_mv rfl) ?_
        refine dsplit 64 rfl (fun hc => ?_) (fun hc => ?_)
        · replace h := ite_t hc h
          clear hc
          refine dvg rfl rfl rfl (opv_fieldAddr_lp fi46_2 rfl) ?_
          refine dvg rfl rfl rfl (opv_load1 ti3 rfl (.lp _ _ _ rfl) rfl) ?_
          refine dvg rfl rfl rfl (opv_fieldAddr_lp fi46_1 rfl) ?_
          refine dvg rfl rfl rfl (opv_load1 ti3 rfl (.lp _ _ _ rfl) rfl) ?_
          refine dvg rfl rfl rfl (opv_leq rfl rfl) ?_
          refine dv rfl (opv_pick_t rfl rfl) ?_
          refine dv rfl (opv_mv rfl) ?_
          refine dsplit 71 rfl (fun hc => ?_) (fun hc => ?_)
          · replace h := ite_t hc h
            clear hc
            refine dvg rfl rfl rfl (opv_mv rfl) ?_
            refine dvg rfl rfl rfl (opv_nilCheck rfl rfl (fun _ _ _ h => by cases h)) ?_
            refine dvg rfl rfl rfl (opv_fieldAddr_lp fi36_4 rfl) ?_
            refine dvg rfl rfl rfl (opv_load1 ti34 rfl (.lp _ _ _ rfl) rfl) ?_
            refine dvg rfl rfl rfl (opv_mv rfl) ?_
            obtain ⟨u5, hu5, h⟩ := bind_eq h
            refine dvg rfl rfl rfl (opv_ixo (f := eGR10Read) si34 (fun _ => rfl) rfl rfl rfl rfl rfl hu5) ?_
            refine dvg rfl rfl rfl (opv_fieldAddr_ap fi76_1 rfl rfl (flat_len (f := eGR10Read) (fun _ => rfl) _).symm) ?_
            refine dvg rfl rfl rfl (opv_ldNo (f := eGR10Read) (sz := 4) 1 ti40 (fun _ => rfl) rfl rfl rfl rfl (idx_eq hu5).2 (Nat.le_of_ble_eq_true rfl) rfl) ?_
            refine dvg rfl rfl rfl (opv_fieldAddr_lp fi46_7 rfl) ?_
            refine dvg rfl rfl rfl (opv_load1 ti41 rfl (.lp _ _ _ rfl) rfl) ?_
            obtain ⟨v6, hv6, h⟩ := bind_eq h
            refine ddg rfl rfl rfl (opD_call fn14 (opnds_cons rfl (opnds_cons rfl opnds_nil)) rfl (m14_l11_meets_c hv6)) ?_
            refine dv rfl (opv_pick_t rfl rfl) ?_
            refine dv rfl (opv_mv rfl) ?_
            refine dsplit 84 rfl (fun hc => ?_) (fun hc => ?_)
            · replace h := ite_t hc h
              clear hc
              refine doff rfl rfl rfl rfl ?_
              refine doff rfl rfl rfl rfl ?_
              refine doff rfl rfl rfl rfl ?_
              refine doff rfl rfl rfl rfl ?_
              refine doff rfl rfl rfl rfl ?_
              refine doff rfl rfl rfl rfl ?_
              refine doff rfl rfl rfl rfl ?_
              refine doff rfl rfl rfl rfl ?_
              refine doff rfl rfl rfl rfl ?_
              refine doff rfl rfl rfl rfl ?_
              refine doff rfl rfl rfl rfl ?_
              refine doff rfl rfl rfl rfl ?_
              refine doffu rfl rfl rfl ?_
              refine doffu rfl rfl rfl ?_
              refine doffu rfl rfl rfl ?_
              refine doffu rfl rfl rfl ?_
              refine doffu rfl rfl rfl ?_
              refine doff rfl rfl rfl rfl ?_
              refine doff rfl rfl rfl rfl ?_
              refine doffu rfl rfl rfl ?_
              refine doffu rfl rfl rfl ?_
              refine doffu rfl rfl rfl ?_
              refine doffu rfl rfl rfl ?_
              refine doffu rfl rfl rfl ?_
              refine doffu rfl rfl rfl ?_
              refine doffu rfl rfl rfl ?_
              refine doffu rfl rfl rfl ?_
              refine doffu rfl rfl rfl ?_
              refine doffu rfl rfl rfl ?_
              refine doffu rfl rfl rfl ?_
              refine doff rfl rfl rfl rfl ?_
              refine dv rfl (opv_pick_t rfl rfl) ?_
              refine dnil ?_
              refine then_normal ?_
              refine ccond rfl (fun _ => ?_) (fun hx => Bool.noConfusion hx)
              refine cseq ?_
              refine cregion ?_
              refine sv rfl (opv_fieldAddr_lp fi46_0 rfl) ?_
              refine sv rfl (opv_load1 ti3 rfl (.lp _ _ _ rfl) rfl) ?_
              refine sv rfl (opv_fieldAddr_lp fi46_0 rfl) ?_
              refine sv rfl (opv_load1 ti3 rfl (.lp _ _ _ rfl) rfl) ?_
              refine sv rfl (opv_ineq rfl rfl) ?_
              refine sv rfl (opv_as rfl) ?_
              refine snil ?_
              refine cret ?_
              refine block_ret ?_
              refine then_ret ?_
              refine then_ret ?_
              refine block_ret ?_
              refine then_ret ?_
              obtain rfl := Option.some.inj h
              obtain rfl : Sum.inl _ = x3 := hk3
              replace ho3 : some _ = some _ := ho3
              obtain rfl := Option.some.inj ho3
              exact ⟨Or.inr rfl, _, [0, 1, 2, 3], [.one (.b (!decide (a0.ID = a1.ID)))], [.box [.sl a2.length (a2.flatMap eGSsiTx), .sl a3.length (a3.flatMap eGReadsRead), .i .i64 a4, .ls 1 a5.length, .ls 2 a6.length, .ls 3 a7.length], .arr 3 1 0 (a5.flatMap eI), .arr 46 8 0 (a6.flatMap eGR11Tx), .arr 76 4 0 (a7.flatMap eGR10Read)], (resVs_cons (ResV.tmp _ _ rfl) resVs_nil), rfl, rfl, ⟨by decide, rfl⟩, rfl, rfl, ⟨rfl, rfl⟩⟩
            · replace h := ite_f hc h
              clear hc
              refine dvg rfl rfl rfl (opv_mv rfl) ?_
              refine dvg rfl rfl rfl (opv_nilCheck rfl rfl (fun _ _ _ h => by cases h)) ?_
              refine dvg rfl rfl rfl (opv_fieldAddr_lp fi36_4 rfl) ?_
              refine dvg rfl rfl rfl (opv_load1 ti34 rfl (.lp _ _ _ rfl) rfl) ?_
              refine dvg rfl rfl rfl (opv_mv rfl) ?_
              obtain ⟨u7, hu7, h⟩ := bind_eq h
              refine dvg rfl rfl rfl (opv_ixo (f := eGR10Read) si34 (fun _ => rfl) rfl rfl rfl rfl rfl hu7) ?_
              refine dvg rfl rfl rfl (opv_fieldAddr_ap fi76_0 rfl rfl (flat_len (f := eGR10Read) (fun _ => rfl) _).symm) ?_
              refine dvg rfl rfl rfl (opv_ld1o (f := eGR10Read) 0 ti3 (fun _ => rfl) rfl rfl rfl rfl (idx_eq hu7).2 rfl) ?_
              refine dvg rfl rfl rfl (opv_fieldAddr_lp fi46_0 rfl) ?_
              refine dvg rfl rfl rfl (opv_load1 ti3 rfl (.lp _ _ _ rfl) rfl) ?_
              refine dvg rfl rfl rfl (opv_ieql rfl rfl) ?_
              refine dvg rfl rfl rfl (opv_mv rfl) ?_
              refine dsplit 96 rfl (fun hc => ?_) (fun hc => ?_)
              · replace h := ite_t hc h
                clear hc
                refine dvg rfl rfl rfl (opv_fieldAddr_lp fi46_2 rfl) ?_
                refine dvg rfl rfl rfl (opv_load1 ti3 rfl (.lp _ _ _ rfl) rfl) ?_
                refine dvg rfl rfl rfl (opv_fieldAddr_lp fi46_1 rfl) ?_
                refine dvg rfl rfl rfl (opv_load1 ti3 rfl (.lp _ _ _ rfl) rfl) ?_
                refine dvg rfl rfl rfl (opv_gtr rfl rfl) ?_
                refine dvg rfl rfl rfl (opv_pick_t rfl rfl) ?_
                refine dvg rfl rfl rfl (opv_mv rfl) ?_
                refine dsplit 103 rfl (fun hc => ?_) (fun hc => ?_)
                · replace h := ite_t hc h
                  clear hc
                  refine dvg rfl rfl rfl (opv_mv rfl) ?_
                  refine dvg rfl rfl rfl (opv_nilCheck rfl rfl (fun _ _ _ h => by cases h)) ?_
                  refine dvg rfl rfl rfl (opv_fieldAddr_lp fi36_4 rfl) ?_
                  refine dvg rfl rfl rfl (opv_load1 ti34 rfl (.lp _ _ _ rfl) rfl) ?_
                  refine dvg rfl rfl rfl (opv_mv rfl) ?_
                  obtain ⟨u8, hu8, h⟩ := bind_eq h
                  refine dvg rfl rfl rfl (opv_ixo (f := eGR10Read) si34 (fun _ => rfl) rfl rfl rfl rfl rfl hu8) ?_
                  refine dvg rfl rfl rfl (opv_fieldAddr_ap fi76_1 rfl rfl (flat_len (f := eGR10Read) (fun _ => rfl) _).symm) ?_
                  refine dvg rfl rfl rfl (opv_ldNo (f := eGR10Read) (sz := 4) 1 ti40 (fun _ => rfl) rfl rfl rfl rfl (idx_eq hu8).2 (Nat.le_of_ble_eq_true rfl) rfl) ?_
                  refine dvg rfl rfl rfl (opv_fieldAddr_lp fi46_7 rfl) ?_
                  refine dvg rfl rfl rfl (opv_load1 ti41 rfl (.lp _ _ _ rfl) rfl) ?_
                  obtain ⟨v9, hv9, h⟩ := bind_eq h
                  refine ddg rfl rfl rfl (opD_call fn14 (opnds_cons rfl (opnds_cons rfl opnds_nil)) rfl (m14_l11_meets_c hv9)) ?_
                  refine dvg rfl rfl rfl (opv_pick_t rfl rfl) ?_
                  refine dv rfl (opv_pick_f rfl rfl) ?_
                  refine dnil ?_
                  refine then_normal ?_
                  refine ccond rfl (fun hc => ?_) (fun hc => ?_)
                  · replace h := ite_t hc h
                    clear hc
                    refine cseq ?_
                    refine cregion ?_
                    refine sv rfl (opv_fieldAddr_lp fi46_0 rfl) ?_
                    refine sv rfl (opv_load1 ti3 rfl (.lp _ _ _ rfl) rfl) ?_
                    refine sv rfl (opv_fieldAddr_lp fi46_0 rfl) ?_
                    refine sv rfl (opv_load1 ti3 rfl (.lp _ _ _ rfl) rfl) ?_
                    refine sv rfl (opv_ineq rfl rfl) ?_
                    refine sv rfl (opv_as rfl) ?_
                    refine snil ?_
                    refine cret ?_
                    refine block_ret ?_
                    refine then_ret ?_
                    refine then_ret ?_
                    refine block_ret ?_
                    refine then_ret ?_
                    obtain rfl := Option.some.inj h
                    obtain rfl : Sum.inl _ = x3 := hk3
                    replace ho3 : some _ = some _ := ho3
                    obtain rfl := Option.some.inj ho3
                    exact ⟨Or.inr rfl, _, [0, 1, 2, 3], [.one (.b (!decide (a0.ID = a1.ID)))], [.box [.sl a2.length (a2.flatMap eGSsiTx), .sl a3.length (a3.flatMap eGReadsRead), .i .i64 a4, .ls 1 a5.length, .ls 2 a6.length, .ls 3 a7.length], .arr 3 1 0 (a5.flatMap eI), .arr 46 8 0 (a6.flatMap eGR11Tx), .arr 76 4 0 (a7.flatMap eGR10Read)], (resVs_cons (ResV.tmp _ _ rfl) resVs_nil), rfl, rfl, ⟨by decide, rfl⟩, rfl, rfl, ⟨rfl, rfl⟩⟩
                  · replace h := ite_f hc h
                    clear hc
                    refine cskip ?_
                    refine block_normal ?_
                    refine then_normal ?_
                    refine cregion ?_
                    refine sv rfl (opv_mv rfl) ?_
                    refine sv rfl (opv_add rfl rfl) ?_
                    refine sv rfl (opv_as rfl) ?_
                    refine snil ?_
                    obtain rfl := Option.some.inj h
                    exact ⟨(n3, (wI (s3 + 1))), _, hk3, ⟨rfl, rfl, rfl, rfl, trivial⟩, rfl, Nat.lt_succ_self _⟩
                · replace h := ite_f hc h
                  clear hc
                  refine doff rfl rfl rfl rfl ?_
                  refine doff rfl rfl rfl rfl ?_
                  refine doff rfl rfl rfl rfl ?_
                  refine doff rfl rfl rfl rfl ?_
                  refine doff rfl rfl rfl rfl ?_
                  refine doff rfl rfl rfl rfl ?_
                  refine doff rfl rfl rfl rfl ?_
                  refine doff rfl rfl rfl rfl ?_
                  refine doff rfl rfl rfl rfl ?_
                  refine doff rfl rfl rfl rfl ?_
                  refine doff rfl rfl rfl rfl ?_
                  refine dvg rfl rfl rfl (opv_pick_f rfl rfl) ?_
                  refine dv rfl (opv_pick_f rfl rfl) ?_
                  refine dnil ?_
                  refine then_normal ?_
                  refine ccond rfl (fun hx => Bool.noConfusion hx) (fun _ => ?_)
                  refine cskip ?_
                  refine block_normal ?_
                  refine then_normal ?_
                  refine cregion ?_
                  refine sv rfl (opv_mv rfl) ?_
                  refine sv rfl (opv_add rfl rfl) ?_
                  refine sv rfl (opv_as rfl) ?_
                  refine snil ?_
                  obtain rfl := Option.some.inj h
                  exact ⟨(n3, (wI (s3 + 1))), _, hk3, ⟨rfl, rfl, rfl, rfl, trivial⟩, rfl, Nat.lt_succ_self _⟩
              · replace h := ite_f hc h
                clear hc
                refine doff rfl rfl rfl rfl ?_
                refine doff rfl rfl rfl rfl ?_
                refine doff rfl rfl rfl rfl ?_
                refine doff rfl rfl rfl rfl ?_
                refine doff rfl rfl rfl rfl ?_
                refine dvg rfl rfl rfl (opv_pick_f rfl rfl) ?_
                refine dvg rfl rfl rfl (opv_mv rfl) ?_
                refine doff rfl rfl rfl rfl ?_
                refine doff rfl rfl rfl rfl ?_
                refine doff rfl rfl rfl rfl ?_
                refine doff rfl rfl rfl rfl ?_
                refine doff rfl rfl rfl rfl ?_
                refine doff rfl rfl rfl rfl ?_
                refine doff rfl rfl rfl rfl ?_
                refine doff rfl rfl rfl rfl ?_
                refine doff rfl rfl rfl rfl ?_
                refine doff rfl rfl rfl rfl ?_
                refine doff rfl rfl rfl rfl ?_
                refine dvg rfl rfl rfl (opv_pick_f rfl rfl) ?_
                refine dv rfl (opv_pick_f rfl rfl) ?_
                refine dnil ?_
                refine then_normal ?_
                refine ccond rfl (fun hx => Bool.noConfusion hx) (fun _ => ?_)
                refine cskip ?_
                refine block_normal ?_
                refine then_normal ?_
                refine cregion ?_
                refine sv rfl (opv_mv rfl) ?_
                refine sv rfl (opv_add rfl rfl) ?_
                refine sv rfl (opv_as rfl) ?_
                refine snil ?_
                obtain rfl := Option.some.inj h
                exact ⟨(n3, (wI (s3 + 1))), _, hk3, ⟨rfl, rfl, rfl, rfl, trivial⟩, rfl, Nat.lt_succ_self _⟩
          · replace h := ite_f hc h
            clear hc
            refine doff rfl rfl rfl rfl ?_
            refine doff rfl rfl rfl rfl ?_
            refine doff rfl rfl rfl rfl ?_
            refine doff rfl rfl rfl rfl ?_
            refine doff rfl rfl rfl rfl ?_
            refine doff rfl rfl rfl rfl ?_
            refine doff rfl rfl rfl rfl ?_
            refine doff rfl rfl rfl rfl ?_
            refine doff rfl rfl rfl rfl ?_
            refine doff rfl rfl rfl rfl ?_
            refine doff rfl rfl rfl rfl ?_
            refine dv rfl (opv_pick_f rfl rfl) ?_
            refine dv rfl (opv_mv rfl) ?_
            refine dvg rfl rfl rfl (opv_mv rfl) ?_
            refine dvg rfl rfl rfl (opv_nilCheck rfl rfl (fun _ _ _ h => by cases h)) ?_
            refine dvg rfl rfl rfl (opv_fieldAddr_lp fi36_4 rfl) ?_
            refine dvg rfl rfl rfl (opv_load1 ti34 rfl (.lp _ _ _ rfl) rfl) ?_
            refine dvg rfl rfl rfl (opv_mv rfl) ?_
            obtain ⟨u10, hu10, h⟩ := bind_eq h
            refine dvg rfl rfl rfl (opv_ixo (f := eGR10Read) si34 (fun _ => rfl) rfl rfl rfl rfl rfl hu10) ?_
            refine dvg rfl rfl rfl (opv_fieldAddr_ap fi76_0 rfl rfl (flat_len (f := eGR10Read) (fun _ => rfl) _).symm) ?_
            refine dvg rfl rfl rfl (opv_ld1o (f := eGR10Read) 0 ti3 (fun _ => rfl) rfl rfl rfl rfl (idx_eq hu10).2 rfl) ?_
            refine dvg rfl rfl rfl (opv_fieldAddr_lp fi46_0 rfl) ?_
            refine dvg rfl rfl rfl (opv_load1 ti3 rfl (.lp _ _ _ rfl) rfl) ?_
            refine dvg rfl rfl rfl (opv_ieql rfl rfl) ?_
            refine dvg rfl rfl rfl (opv_mv rfl) ?_
            refine dsplit 96 rfl (fun hc => ?_) (fun hc => ?_)
            · replace h := ite_t hc h
              clear hc
              refine dvg rfl rfl rfl (opv_fieldAddr_lp fi46_2 rfl) ?_
              refine dvg rfl rfl rfl (opv_load1 ti3 rfl (.lp _ _ _ rfl) rfl) ?_
              refine dvg rfl rfl rfl (opv_fieldAddr_lp fi46_1 rfl) ?_
              refine dvg rfl rfl rfl (opv_load1 ti3 rfl (.lp _ _ _ rfl) rfl) ?_
              refine dvg rfl rfl rfl (opv_gtr rfl rfl) ?_
              refine dvg rfl rfl rfl (opv_pick_t rfl rfl) ?_
              refine dvg rfl rfl rfl (opv_mv rfl) ?_
              refine dsplit 103 rfl (fun hc => ?_) (fun hc => ?_)
              · replace h := ite_t hc h
                clear hc
                refine dvg rfl rfl rfl (opv_mv rfl) ?_
                refine dvg rfl rfl rfl (opv_nilCheck rfl rfl (fun _ _ _ h => by cases h)) ?_
                refine dvg rfl rfl rfl (opv_fieldAddr_lp fi36_4 rfl) ?_
                refine dvg rfl rfl rfl (opv_load1 ti34 rfl (.lp _ _ _ rfl) rfl) ?_
                refine dvg rfl rfl rfl (opv_mv rfl) ?_
                obtain ⟨u11, hu11, h⟩ := bind_eq h
                refine dvg rfl rfl rfl (opv_ixo (f := eGR10Read) si34 (fun _ => rfl) rfl rfl rfl rfl rfl hu11) ?_
                refine dvg rfl rfl rfl (opv_fieldAddr_ap fi76_1 rfl rfl (flat_len (f := eGR10Read) (fun _ => rfl) _).symm) ?_
                refine dvg rfl rfl rfl (opv_ldNo (f := eGR10Read) (sz := 4) 1 ti40 (fun _ => rfl) rfl rfl rfl rfl (idx_eq hu11).2 (Nat.le_of_ble_eq_true rfl) rfl) ?_
                refine dvg rfl rfl rfl (opv_fieldAddr_lp fi46_7 rfl) ?_
                refine dvg rfl rfl rfl (opv_load1 ti41 rfl (.lp _ _ _ rfl) rfl) ?_
                obtain ⟨v12, hv12, h⟩ := bind_eq h
                refine ddg rfl rfl rfl (opD_call fn14 (opnds_cons rfl (opnds_cons rfl opnds_nil)) rfl (m14_l11_meets_c hv12)) ?_
                refine dvg rfl rfl rfl (opv_pick_t rfl rfl) ?_
                refine dv rfl (opv_pick_f rfl rfl) ?_
                refine dnil ?_
                refine then_normal ?_
                refine ccond rfl (fun hc => ?_) (fun hc => ?_)
                · replace h := ite_t hc h
                  clear hc
                  refine cseq ?_
                  refine cregion ?_
                  refine sv rfl (opv_fieldAddr_lp fi46_0 rfl) ?_
                  refine sv rfl (opv_load1 ti3 rfl (.lp _ _ _ rfl) rfl) ?_
                  refine sv rfl (opv_fieldAddr_lp fi46_0 rfl) ?_
                  refine sv rfl (opv_load1 ti3 rfl (.lp _ _ _ rfl) rfl) ?_
                  refine sv rfl (opv_ineq rfl rfl) ?_
                  refine sv rfl (opv_as rfl) ?_
                  refine snil ?_
                  refine cret ?_
                  refine block_ret ?_
                  refine then_ret ?_
                  refine then_ret ?_
                  refine block_ret ?_
                  refine then_ret ?_
                  obtain rfl := Option.some.inj h
                  obtain rfl : Sum.inl _ = x3 := hk3
                  replace ho3 : some _ = some _ := ho3
                  obtain rfl := Option.some.inj ho3
                  exact ⟨Or.inr rfl, _, [0, 1, 2, 3], [.one (.b (!decide (a0.ID = a1.ID)))], [.box [.sl a2.length (a2.flatMap eGSsiTx), .sl a3.length (a3.flatMap eGReadsRead), .i .i64 a4, .ls 1 a5.length, .ls 2 a6.length, .ls 3 a7.length], .arr 3 1 0 (a5.flatMap eI), .arr 46 8 0 (a6.flatMap eGR11Tx), .arr 76 4 0 (a7.flatMap eGR10Read)], (resVs_cons (ResV.tmp _ _ rfl) resVs_nil), rfl, rfl, ⟨by decide, rfl⟩, rfl, rfl, ⟨rfl, rfl⟩⟩
                · replace h := ite_f hc h
                  clear hc
                  refine cskip ?_
                  refine block_normal ?_
                  refine then_normal ?_
                  refine cregion ?_
                  refine sv rfl (opv_mv rfl) ?_
                  refine sv rfl (opv_add rfl rfl) ?_
                  refine sv rfl (opv_as rfl) ?_
                  refine snil ?_
                  obtain rfl := Option.some.inj h
                  exact ⟨(n3, (wI (s3 + 1))), _, hk3, ⟨rfl, rfl, rfl, rfl, trivial⟩, rfl, Nat.lt_succ_self _⟩
              · replace h := ite_f hc h
                clear hc
                refine doff rfl rfl rfl rfl ?_
                refine doff rfl rfl rfl rfl ?_
                refine doff rfl rfl rfl rfl ?_
                refine doff rfl rfl rfl rfl ?_
                refine doff rfl rfl rfl rfl ?_
                refine doff rfl rfl rfl rfl ?_
                refine doff rfl rfl rfl rfl ?_
                refine doff rfl rfl rfl rfl ?_
                refine doff rfl rfl rfl rfl ?_
                refine doff rfl rfl rfl rfl ?_
                refine doff rfl rfl rfl rfl ?_
                refine dvg rfl rfl rfl (opv_pick_f rfl rfl) ?_
                refine dv rfl (opv_pick_f rfl rfl) ?_
                refine dnil ?_
                refine then_normal ?_
                refine ccond rfl (fun hx => Bool.noConfusion hx) (fun _ => ?_)
                refine cskip ?_
                refine block_normal ?_
                refine then_normal ?_
                refine cregion ?_
                refine sv rfl (opv_mv rfl) ?_
                refine sv rfl (opv_add rfl rfl) ?_
                refine sv rfl (opv_as rfl) ?_
                refine snil ?_
                obtain rfl := Option.some.inj h
                exact ⟨(n3, (wI (s3 + 1))), _, hk3, ⟨rfl, rfl, rfl, rfl, trivial⟩, rfl, Nat.lt_succ_self _⟩
            · replace h := ite_f hc h
              clear hc
              refine doff rfl rfl rfl rfl ?_
              refine doff rfl rfl rfl rfl ?_
              refine doff rfl rfl rfl rfl ?_
              refine doff rfl rfl rfl rfl ?_
              refine doff rfl rfl rfl rfl ?_
              refine dvg rfl rfl rfl (opv_pick_f rfl rfl) ?_
              refine dvg rfl rfl rfl (opv_mv rfl) ?_
              refine doff rfl rfl rfl rfl ?_
              refine doff rfl rfl rfl rfl ?_
              refine doff rfl rfl rfl rfl ?_
              refine doff rfl rfl rfl rfl ?_
              refine doff rfl rfl rfl rfl ?_
              refine doff rfl rfl rfl rfl ?_
              refine doff rfl rfl rfl rfl ?_
              refine doff rfl rfl rfl rfl ?_
              refine doff rfl rfl rfl rfl ?_
              refine doff rfl rfl rfl rfl ?_
              refine doff rfl rfl rfl rfl ?_
              refine dvg rfl rfl rfl (opv_pick_f rfl rfl) ?_
              refine dv rfl (opv_pick_f rfl rfl) ?_
              refine dnil ?_
              refine then_normal ?_
              refine ccond rfl (fun hx => Bool.noConfusion hx) (fun _ => ?_)
              refine cskip ?_
              refine block_normal ?_
              refine then_normal ?_
              refine cregion ?_
              refine sv rfl (opv_mv rfl) ?_
              refine sv rfl (opv_add rfl rfl) ?_
              refine sv rfl (opv_as rfl) ?_
              refine snil ?_
              obtain rfl := Option.some.inj h
              exact ⟨(n3, (wI (s3 + 1))), _, hk3, ⟨rfl, rfl, rfl, rfl, trivial⟩, rfl, Nat.lt_succ_self _⟩
        · replace h := ite_f hc h
          clear hc
          refine doff rfl rfl rfl rfl ?_
          refine doff rfl rfl rfl rfl ?_
          refine doff rfl rfl rfl rfl ?_
          refine doff rfl rfl rfl rfl ?_
          refine doff rfl rfl rfl rfl ?_
          refine dv rfl (opv_pick_f rfl rfl) ?_
          refine dv rfl (opv_mv rfl) ?_
          refine doff rfl rfl rfl rfl ?_
          refine doff rfl rfl rfl rfl ?_
          refine doff rfl rfl rfl rfl ?_
          refine doff rfl rfl rfl rfl ?_
          refine doff rfl rfl rfl rfl ?_
          refine doff rfl rfl rfl rfl ?_
          refine doff rfl rfl rfl rfl ?_
          refine doff rfl rfl rfl rfl ?_
          refine doff rfl rfl rfl rfl ?_
          refine doff rfl rfl rfl rfl ?_
          refine doff rfl rfl rfl rfl ?_
          refine dv rfl (opv_pick_f rfl rfl) ?_
          refine dv rfl (opv_mv rfl) ?_
          refine dvg rfl rfl rfl (opv_mv rfl) ?_
          refine dvg rfl rfl rfl (opv_nilCheck rfl rfl (fun _ _ _ h => by cases h)) ?_
          refine dvg rfl rfl rfl (opv_fieldAddr_lp fi36_4 rfl) ?_
          refine dvg rfl rfl rfl (opv_load1 ti34 rfl (.lp _ _ _ rfl) rfl) ?_
          refine dvg rfl rfl rfl (opv_mv rfl) ?_
          obtain ⟨u13, hu13, h⟩ := bind_eq h
          refine dvg rfl rfl rfl (opv_ixo (f := eGR10Read) si34 (fun _ => rfl) rfl rfl rfl rfl rfl hu13) ?_
          refine dvg rfl rfl rfl (opv_fieldAddr_ap fi76_0 rfl rfl (flat_len (f := eGR10Read) (fun _ => rfl) _).symm) ?_
          refine dvg rfl rfl rfl (opv_ld1o (f := eGR10Read) 0 ti3 (fun _ => rfl) rfl rfl rfl rfl (idx_eq hu13).2 rfl) ?_
          refine dvg rfl rfl rfl (opv_fieldAddr_lp fi46_0 rfl) ?_
          refine dvg rfl rfl rfl (opv_load1 ti3 rfl (.lp _ _ _ rfl) rfl) ?_
          refine dvg rfl rfl rfl (opv_ieql rfl rfl) ?_
          refine dvg rfl rfl rfl (opv_mv rfl) ?_
          refine dsplit 96 rfl (fun hc => ?_) (fun hc => ?_)
          · replace h := ite_t hc h
            clear hc
            refine dvg rfl rfl rfl (opv_fieldAddr_lp fi46_2 rfl) ?_
            refine dvg rfl rfl rfl (opv_load1 ti3 rfl (.lp _ _ _ rfl) rfl) ?_
            refine dvg rfl rfl rfl (opv_fieldAddr_lp fi46_1 rfl) ?_
            refine dvg rfl rfl rfl (opv_load1 ti3 rfl (.lp _ _ _ rfl) rfl) ?_
            refine dvg rfl rfl rfl (opv_gtr rfl rfl) ?_
            refine dvg rfl rfl rfl (opv_pick_t rfl rfl) ?_
            refine dvg rfl rfl rfl (opv_mv rfl) ?_
            refine dsplit 103 rfl (fun hc => ?_) (fun hc => ?_)
            · replace h := ite_t hc h
              clear hc
              refine dvg rfl rfl rfl (opv_mv rfl) ?_
              refine dvg rfl rfl rfl (opv_nilCheck rfl rfl (fun _ _ _ h => by cases h)) ?_
              refine dvg rfl rfl rfl (opv_fieldAddr_lp fi36_4 rfl) ?_
              refine dvg rfl rfl rfl (opv_load1 ti34 rfl (.lp _ _ _ rfl) rfl) ?_
              refine dvg rfl rfl rfl (opv_mv rfl) ?_
              obtain ⟨u14, hu14, h⟩ := bind_eq h
              refine dvg rfl rfl rfl (opv_ixo (f := eGR10Read) si34 (fun _ => rfl) rfl rfl rfl rfl rfl hu14) ?_
              refine dvg rfl rfl rfl (opv_fieldAddr_ap fi76_1 rfl rfl (flat_len (f := eGR10Read) (fun _ => rfl) _).symm) ?_
              refine dvg rfl rfl rfl (opv_ldNo (f := eGR10Read) (sz := 4) 1 ti40 (fun _ => rfl) rfl rfl rfl rfl (idx_eq hu14).2 (Nat.le_of_ble_eq_true rfl) rfl) ?_
              refine dvg rfl rfl rfl (opv_fieldAddr_lp fi46_7 rfl) ?_
              refine dvg rfl rfl rfl (opv_load1 ti41 rfl (.lp _ _ _ rfl) rfl) ?_
              obtain ⟨v15, hv15, h⟩ := bind_eq h
              refine ddg rfl rfl rfl (opD_call fn14 (opnds_cons rfl (opnds_cons rfl opnds_nil)) rfl (m14_l11_meets_c hv15)) ?_
              refine dvg rfl rfl rfl (opv_pick_t rfl rfl) ?_
              refine dv rfl (opv_pick_f rfl rfl) ?_
              refine dnil ?_
              refine then_normal ?_
              refine ccond rfl (fun hc => ?_) (fun hc => ?_)
              · replace h := ite_t hc h
                clear hc
                refine cseq ?_
                refine cregion ?_
                refine sv rfl (opv_fieldAddr_lp fi46_0 rfl) ?_
                refine sv rfl (opv_load1 ti3 rfl (.lp _ _ _ rfl) rfl) ?_
                refine sv rfl (opv_fieldAddr_lp fi46_0 rfl) ?_
                refine sv rfl (opv_load1 ti3 rfl (.lp _ _ _ rfl) rfl) ?_
                refine sv rfl (opv_ineq rfl rfl) ?_
                refine sv rfl (opv_as rfl) ?_
                refine snil ?_
                refine cret ?_
                refine block_ret ?_
                refine then_ret ?_
                refine then_ret ?_
                refine block_ret ?_
                refine then_ret ?_
                obtain rfl := Option.some.inj h
                obtain rfl : Sum.inl _ = x3 := hk3
                replace ho3 : some _ = some _ := ho3
                obtain rfl := Option.some.inj ho3
                exact ⟨Or.inr rfl, _, [0, 1, 2, 3], [.one (.b (!decide (a0.ID = a1.ID)))], [.box [.sl a2.length (a2.flatMap eGSsiTx), .sl a3.length (a3.flatMap eGReadsRead), .i .i64 a4, .ls 1 a5.length, .ls 2 a6.length, .ls 3 a7.length], .arr 3 1 0 (a5.flatMap eI), .arr 46 8 0 (a6.flatMap eGR11Tx), .arr 76 4 0 (a7.flatMap eGR10Read)], (resVs_cons (ResV.tmp _ _ rfl) resVs_nil), rfl, rfl, ⟨by decide, rfl⟩, rfl, rfl, ⟨rfl, rfl⟩⟩
              · replace h := ite_f hc h
                clear hc
                refine cskip ?_
                refine block_normal ?_
                refine then_normal ?_
                refine cregion ?_
                refine sv rfl (opv_mv rfl) ?_
                refine sv rfl (opv_add rfl rfl) ?_
                refine sv rfl (opv_as rfl) ?_
                refine snil ?_
                obtain rfl := Option.some.inj h
                exact ⟨(n3, (wI (s3 + 1))), _, hk3, ⟨rfl, rfl, rfl, rfl, trivial⟩, rfl, Nat.lt_succ_self _⟩
            · replace h := ite_f hc h
              clear hc
              refine doff rfl rfl rfl rfl ?_
              refine doff rfl rfl rfl rfl ?_
              refine doff rfl rfl rfl rfl ?_
              refine doff rfl rfl rfl rfl ?_
              refine doff rfl rfl rfl rfl ?_
              refine doff rfl rfl rfl rfl ?_
              refine doff rfl rfl rfl rfl ?_
              refine doff rfl rfl rfl rfl ?_
              refine doff rfl rfl rfl rfl ?_
              refine doff rfl rfl rfl rfl ?_
              refine doff rfl rfl rfl rfl ?_
              refine dvg rfl rfl rfl (opv_pick_f rfl rfl) ?_
              refine dv rfl (opv_pick_f rfl rfl) ?_
              refine dnil ?_
              refine then_normal ?_
              refine ccond rfl (fun hx => Bool.noConfusion hx) (fun _ => ?_)
              refine cskip ?_
              refine block_normal ?_
              refine then_normal ?_
              refine cregion ?_
              refine sv rfl (opv_mv rfl) ?_
              refine sv rfl (opv_add rfl rfl) ?_
              refine sv rfl (opv_as rfl) ?_
              refine snil ?_
              obtain rfl := Option.some.inj h
              exact ⟨(n3, (wI (s3 + 1))), _, hk3, ⟨rfl, rfl, rfl, rfl, trivial⟩, rfl, Nat.lt_succ_self _⟩
          · replace h := ite_f hc h
            clear hc
            refine doff rfl rfl rfl rfl ?_
            refine doff rfl rfl rfl rfl ?_
            refine doff rfl rfl rfl rfl ?_
            refine doff rfl rfl rfl rfl ?_
            refine doff rfl rfl rfl rfl ?_
            refine dvg rfl rfl rfl (opv_pick_f rfl rfl) ?_
            refine dvg rfl rfl rfl (opv_mv rfl) ?_
            refine doff rfl rfl rfl rfl ?_
            refine doff rfl rfl rfl rfl ?_
            refine doff rfl rfl rfl rfl ?_
            refine doff rfl rfl rfl rfl ?_
            refine doff rfl rfl rfl rfl ?_
            refine doff rfl rfl rfl rfl ?_
            refine doff rfl rfl rfl rfl ?_
            refine doff rfl rfl rfl rfl ?_
            refine doff rfl rfl rfl rfl ?_
            refine doff rfl rfl rfl rfl ?_
            refine doff rfl rfl rfl rfl ?_
            refine dvg rfl rfl rfl (opv_pick_f rfl rfl) ?_
            refine dv rfl (opv_pick_f rfl rfl) ?_
            refine dnil ?_
            refine then_normal ?_
            refine ccond rfl (fun hx => Bool.noConfusion hx) (fun _ => ?_)
            refine cskip ?_
            refine block_normal ?_
            refine then_normal ?_
            refine cregion ?_
            refine sv rfl (opv_mv rfl) ?_
            refine sv rfl (opv_add rfl rfl) ?_
            refine sv rfl (opv_as rfl) ?_
            refine snil ?_
            obtain rfl := Option.some.inj h
            exact ⟨(n3, (wI (s3 + 1))), _, hk3, ⟨rfl, rfl, rfl, rfl, trivial⟩, rfl, Nat.lt_succ_self _⟩
      · replace h := ite_f hc h
        clear hc
        refine cexit ?_
        refine then_exit ?_
        refine then_exit ?_
        refine block_hit ?_
        refine then_normal ?_
        obtain rfl := Option.some.inj h
        obtain rfl : _ = x3 := hk3
        exact ⟨(), _, ho3, trivial, rfl⟩
  · skip
    refine cblock ?_
    obtain ⟨x17, hx17, ho17⟩ := bind_eq h
    refine awc_loop (G := Nat × (Int)) (fun g => [(0, .s (.one (.lp 0 0))), (4, .s (.one (.lp 4 0))), (5, .s (.one (.lp 5 0))), (7, .s (.one (.i .i64 g.2)))]) (fun g => [.box [.sl a2.length (a2.flatMap eGSsiTx), .sl a3.length (a3.flatMap eGReadsRead), .i .i64 a4, .ls 1 a5.length, .ls 2 a6.length, .ls 3 a7.length], .arr 3 1 0 (a5.flatMap eI), .arr 46 8 0 (a6.flatMap eGR11Tx), .arr 76 4 0 (a7.flatMap eGR10Read), .box a0, .box a1]) (fun g => iter (m12_l11_world_aheads_s17 a0 a1) g.1 g.2 = some x17) (fun g => g.1) (fuel, 0) hx17 ⟨rfl, rfl, rfl, rfl, trivial⟩ [] rfl (fun _ _ => inbL_of rfl) (fun _ _ => blkinb_of rfl) (fun _ _ => Nat.le_of_ble_eq_true rfl) ?_
    clear hx17 h
    rintro ⟨n17, s17⟩ h
    obtain ⟨n17, y17, rfl, h, hk17⟩ := iter_eq h
    unfold m12_l11_world_aheads_s17 at h
    refine cseq ?_
    refine cseq ?_
    refine cregion ?_
    refine sv rfl (opv_mv rfl) ?_
    refine sv rfl (opv_fieldAddr_lp fi46_7 rfl) ?_
    refine sv rfl (opv_load1 ti41 rfl (.lp _ _ _ rfl) rfl) ?_
    refine sv rfl (opv_len_sl si41 rfl) ?_
    refine sv rfl (opv_lss rfl rfl) ?_
    refine snil ?_
    refine ccond rfl (fun hc => ?_) (fun hc => ?_)
    · replace h := ite_t hc h
      clear hc
      refine cskip ?_
      refine then_normal ?_
      refine cseq ?_
      refine cblock ?_
      refine cseq ?_
      refine cregion ?_
      refine sv rfl (opv_as rfl) ?_
      refine snil ?_
      refine cjoinb (Unit) (fun b18 => [(0, .s (.one (.lp 0 0))), (4, .s (.one (.lp 4 0))), (5, .s (.one (.lp 5 0))), (7, .s (.one (.i .i64 s17)))]) (fun b18 => [.box [.sl a2.length (a2.flatMap eGSsiTx), .sl a3.length (a3.flatMap eGReadsRead), .i .i64 a4, .ls 1 a5.length, .ls 2 a6.length, .ls 3 a7.length], .arr 3 1 0 (a5.flatMap eI), .arr 46 8 0 (a6.flatMap eGR11Tx), .arr 76 4 0 (a7.flatMap eGR10Read), .box a0, .box a1]) (fun b18 => m12_l11_world_aheads_k18 s17 b18 = some y17) (fun _ _ => inbL_of rfl) (fun _ _ => blkinb_of rfl) (fun _ _ => Nat.le_of_ble_eq_true rfl) (fun b18 h => ?_) ?_
      · unfold m12_l11_world_aheads_k18 at h
        refine cregion ?_
        refine sv rfl (opv_mv rfl) ?_
        refine sv rfl (opv_add rfl rfl) ?_
        refine sv rfl (opv_as rfl) ?_
        refine snil ?_
        obtain rfl := Option.some.inj h
        exact ⟨(n17, (wI (s17 + 1))), _, hk17, ⟨rfl, rfl, rfl, rfl, trivial⟩, rfl, Nat.lt_succ_self _⟩
      · skip
        refine cblock ?_
        obtain ⟨x19, hx19, ho19⟩ := bind_eq h
        refine awc_loop (G := Nat × (Int)) (fun g => [(0, .s (.one (.lp 0 0))), (4, .s (.one (.lp 4 0))), (5, .s (.one (.lp 5 0))), (7, .s (.one (.i .i64 s17))), (8, .s (.one (.i .i64 g.2)))]) (fun g => [.box [.sl a2.length (a2.flatMap eGSsiTx), .sl a3.length (a3.flatMap eGReadsRead), .i .i64 a4, .ls 1 a5.length, .ls 2 a6.length, .ls 3 a7.length], .arr 3 1 0 (a5.flatMap eI), .arr 46 8 0 (a6.flatMap eGR11Tx), .arr 76 4 0 (a7.flatMap eGR10Read), .box a0, .box a1]) (fun g => iter (m12_l11_world_aheads_s19 a0 a1 s17) g.1 g.2 = some x19) (fun g => g.1) (fuel, 0) hx19 ⟨rfl, rfl, rfl, rfl, rfl, trivial⟩ [] rfl (fun _ _ => inbL_of rfl) (fun _ _ => blkinb_of rfl) (fun _ _ => Nat.le_of_ble_eq_true rfl) ?_
        clear hx19 h
        rintro ⟨n19, s19⟩ h
        obtain ⟨n19, y19, rfl, h, hk19⟩ := iter_eq h
        unfold m12_l11_world_aheads_s19 at h
        refine cseq ?_
        refine cseq ?_
        refine cregion ?_
        refine sv rfl (opv_mv rfl) ?_
        refine sv rfl (opv_fieldAddr_lp fi46_7 rfl) ?_
        refine sv rfl (opv_load1 ti41 rfl (.lp _ _ _ rfl) rfl) ?_
        refine sv rfl (opv_len_sl si41 rfl) ?_
        refine sv rfl (opv_lss rfl rfl) ?_
        refine snil ?_
        refine ccond rfl (fun hc => ?_) (fun hc => ?_)
        · replace h := ite_t hc h
          clear hc
          refine cskip ?_
          refine then_normal ?_
          refine cseq ?_
          refine cblock ?_
          refine cseq ?_
          refine cdraw mixed (by kernel_rfl) ?_
          refine dv rfl (opv_fieldAddr_lp fi46_7 rfl) ?_
          refine dv rfl (opv_load1 ti41 rfl (.lp _ _ _ rfl) rfl) ?_
          refine dv rfl (opv_mv rfl) ?_
          obtain ⟨u20, hu20, h⟩ := bind_eq h
          refine dv rfl (opv_ix (f := (eL eU8)) si41 (fun _ => rfl) rfl rfl rfl rfl hu20) ?_
          refine dv rfl (opv_load1 ti38 rfl (.cp _) rfl) ?_
          refine dv rfl (opv_bs (l := u20) Try.underlying38 Try.underlying5 Try.underlying9 rfl rfl rfl) ?_
          refine dv rfl (opv_fieldAddr_lp fi46_7 rfl) ?_
          refine dv rfl (opv_load1 ti41 rfl (.lp _ _ _ rfl) rfl) ?_
          refine dv rfl (opv_mv rfl) ?_
          obtain ⟨u21, hu21, h⟩ := bind_eq h
          refine dv rfl (opv_ix (f := (eL eU8)) si41 (fun _ => rfl) rfl rfl rfl rfl hu21) ?_
          refine dv rfl (opv_load1 ti38 rfl (.cp _) rfl) ?_
          refine dv rfl (opv_bs (l := u21) Try.underlying38 Try.underlying5 Try.underlying9 rfl rfl rfl) ?_
          refine dv rfl (opv_seql' rfl rfl) ?_
          refine dv rfl (opv_mv rfl) ?_
          refine dsplit 37 rfl (fun hc => ?_) (fun hc => ?_)
          · replace h := ite_t hc h
            clear hc
            refine dvg rfl rfl rfl (opv_fieldAddr_lp fi46_2 rfl) ?_
            refine dvg rfl rfl rfl (opv_load1 ti3 rfl (.lp _ _ _ rfl) rfl) ?_
            refine dvg rfl rfl rfl (opv_fieldAddr_lp fi46_2 rfl) ?_
            refine dvg rfl rfl rfl (opv_load1 ti3 rfl (.lp _ _ _ rfl) rfl) ?_
            refine dvg rfl rfl rfl (opv_lss rfl rfl) ?_
            refine dv rfl (opv_pick_t rfl rfl) ?_
            refine dnil ?_
            refine then_normal ?_
            refine ccond rfl (fun hc => ?_) (fun hc => ?_)
            · replace h := ite_t hc h
              clear hc
              refine cseq ?_
              refine cregion ?_
              refine sv rfl (opv_as rfl) ?_
              refine snil ?_
              refine cret ?_
              refine block_ret ?_
              refine then_ret ?_
              refine then_ret ?_
              refine block_ret ?_
              refine block_ret ?_
              refine then_ret ?_
              refine then_ret ?_
              refine block_ret ?_
              refine then_ret ?_
              obtain rfl := Option.some.inj h
              obtain rfl : Sum.inl _ = x19 := hk19
              replace ho19 : some _ = some _ := ho19
              obtain rfl := Option.some.inj ho19
              obtain rfl : Sum.inl _ = x17 := hk17
              replace ho17 : some _ = some _ := ho17
              obtain rfl := Option.some.inj ho17
              exact ⟨Or.inr rfl, _, [0, 1, 2, 3], [.one (.b true)], [.box [.sl a2.length (a2.flatMap eGSsiTx), .sl a3.length (a3.flatMap eGReadsRead), .i .i64 a4, .ls 1 a5.length, .ls 2 a6.length, .ls 3 a7.length], .arr 3 1 0 (a5.flatMap eI), .arr 46 8 0 (a6.flatMap eGR11Tx), .arr 76 4 0 (a7.flatMap eGR10Read)], (resVs_cons (ResV.tmp _ _ rfl) resVs_nil), rfl, rfl, ⟨by decide, rfl⟩, rfl, rfl, ⟨rfl, rfl⟩⟩
            · replace h := ite_f hc h
              clear hc
              refine cskip ?_
              refine block_normal ?_
              refine then_normal ?_
              refine cregion ?_
              refine sv rfl (opv_mv rfl) ?_
              refine sv rfl (opv_add rfl rfl) ?_
              refine sv rfl (opv_as rfl) ?_
              refine snil ?_
              obtain rfl := Option.some.inj h
              exact ⟨(n19, (wI (s19 + 1))), _, hk19, ⟨rfl, rfl, rfl, rfl, rfl, trivial⟩, rfl, Nat.lt_succ_self _⟩
          · replace h := ite_f hc h
            clear hc
            refine doff rfl rfl rfl rfl ?_
            refine doff rfl rfl rfl rfl ?_
            refine doff rfl rfl rfl rfl ?_
            refine doff rfl rfl rfl rfl ?_
            refine doff rfl rfl rfl rfl ?_
            refine dv rfl (opv_pick_f rfl rfl) ?_
            refine dnil ?_
            refine then_normal ?_
            refine ccond rfl (fun hx => Bool.noConfusion hx) (fun _ => ?_)
            refine cskip ?_
            refine block_normal ?_
            refine then_normal ?_
            refine cregion ?_
            refine sv rfl (opv_mv rfl) ?_
            refine sv rfl (opv_add rfl rfl) ?_
            refine sv rfl (opv_as rfl) ?_
            refine snil ?_
            obtain rfl := Option.some.inj h
            exact ⟨(n19, (wI (s19 + 1))), _, hk19, ⟨rfl, rfl, rfl, rfl, rfl, trivial⟩, rfl, Nat.lt_succ_self _⟩
        · replace h := ite_f hc h
          clear hc
          refine cexit ?_
          refine then_exit ?_
          refine then_exit ?_
          refine block_hit ?_
          refine block_normal ?_
          refine then_normal ?_
          obtain rfl := Option.some.inj h
          obtain rfl : _ = x19 := hk19
          exact ⟨(), _, ho19, ⟨rfl, rfl, rfl, rfl, trivial⟩, rfl⟩
    · replace h := ite_f hc h
      clear hc
      refine cexit ?_
      refine then_exit ?_
      refine then_exit ?_
      refine block_hit ?_
      refine then_normal ?_
      obtain rfl := Option.some.inj h
      obtain rfl : _ = x17 := hk17
      exact ⟨(), _, ho17, ⟨rfl, rfl, rfl, trivial⟩, rfl⟩

def m12_l11_world_aheads1_k2 (b2 : Unit) : Option Bool :=
  some false

def m12_l11_world_aheads1_s3 (a0 : GR11Tx) (a1 : GR11Tx) (a7 : List GR10Read) (s3 : Int) : Option (LR (Int) (Unit) (Bool)) :=
  if (decide (s3 < (a7.length : Int))) then ((idx a7 s3).bind fun u4 => if (decide (u4.Tx = a1.ID)) then (if (decide (a0.End ≤ a1.Begin)) then ((idx a7 s3).bind fun u5 => (m14_l11_meets (GApiRange.mk u5.Rng.Lo u5.Rng.Hi u5.Rng.Open) a0.Keys).bind fun v6 => if v6 then (some (.ret (!decide (a0.ID = a1.ID)))) else ((idx a7 s3).bind fun u7 => if (decide (u7.Tx = a0.ID)) then (if (decide (a0.Begin < a1.End)) then ((idx a7 s3).bind fun u8 => (m14_l11_meets (GApiRange.mk u8.Rng.Lo u8.Rng.Hi u8.Rng.Open) a1.Keys).bind fun v9 => if v9 then (some (.ret (!decide (a0.ID = a1.ID)))) else (some (.cont (wI (s3 + 1))))) else (some (.cont (wI (s3 + 1))))) else (some (.cont (wI (s3 + 1)))))) else ((idx a7 s3).bind fun u10 => if (decide (u10.Tx = a0.ID)) then (if (decide (a0.Begin < a1.End)) then ((idx a7 s3).bind fun u11 => (m14_l11_meets (GApiRange.mk u11.Rng.Lo u11.Rng.Hi u11.Rng.Open) a1.Keys).bind fun v12 => if v12 then (some (.ret (!decide (a0.ID = a1.ID)))) else (some (.cont (wI (s3 + 1))))) else (some (.cont (wI (s3 + 1))))) else (some (.cont (wI (s3 + 1)))))) else ((idx a7 s3).bind fun u13 => if (decide (u13.Tx = a0.ID)) then (if (decide (a0.Begin < a1.End)) then ((idx a7 s3).bind fun u14 => (m14_l11_meets (GApiRange.mk u14.Rng.Lo u14.Rng.Hi u14.Rng.Open) a1.Keys).bind fun v15 => if v15 then (some (.ret (!decide (a0.ID = a1.ID)))) else (some (.cont (wI (s3 + 1))))) else (some (.cont (wI (s3 + 1))))) else (some (.cont (wI (s3 + 1)))))) else (some (.brk ()))

def m12_l11_world_aheads1_k1 (a0 : GR11Tx) (a1 : GR11Tx) (a7 : List GR10Read) (b1 : Unit) : Option Bool :=
  (iter (m12_l11_world_aheads1_s3 a0 a1 a7) fuel 0).bind fun x => match x with | .inl r => some r | .inr e16 => m12_l11_world_aheads1_k2 e16

def m12_l11_world_aheads1_k18 (s17 : Int) (b18 : Unit) : Option (LR (Int) (Unit) (Bool)) :=
  some (.cont (wI (s17 + 1)))

def m12_l11_world_aheads1_s19 (a0 : GR11Tx) (a1 : GR11Tx) (s17 : Int) (s19 : Int) : Option (LR (Int) (Unit) (Bool)) :=
  if (decide (s19 < (a1.Keys.length : Int))) then ((idx a0.Keys s17).bind fun u20 => (idx a1.Keys s19).bind fun u21 => if (u20 == u21) then (if (decide (a0.End < a1.End)) then (some (.ret true)) else (some (.cont (wI (s19 + 1))))) else (some (.cont (wI (s19 + 1))))) else (some (.brk ()))

def m12_l11_world_aheads1_s17 (a0 : GR11Tx) (a1 : GR11Tx) (s17 : Int) : Option (LR (Int) (Unit) (Bool)) :=
  if (decide (s17 < (a0.Keys.length : Int))) then ((iter (m12_l11_world_aheads1_s19 a0 a1 s17) fuel 0).bind fun x => match x with | .inl r => some (.ret r) | .inr e22 => m12_l11_world_aheads1_k18 s17 e22) else (some (.brk ()))
def m12_l11_world_aheads1 (a0 : GR11Tx) (a1 : GR11Tx) (a2 : List GSsiTx) (a3 : List GReadsRead) (a4 : Int) (a5 : List Int) (a6 : List GR11Tx) (a7 : List GR10Read) : Option Bool :=
  (iter (m12_l11_world_aheads1_s17 a0 a1) fuel 0).bind fun x => match x with | .inl r => some r | .inr e23 => m12_l11_world_aheads1_k1 a0 a1 a7 e23

set_option maxRecDepth 100000 in
theorem m12_l11_world_aheads1_c {a0 : GR11Tx} {a1 : GR11Tx} {a2 : List GSsiTx} {a3 : List GReadsRead} {a4 : Int} {a5 : List Int} {a6 : List GR11Tx} {a7 : List GR10Read} {r : Bool} (h : m12_l11_world_aheads1 a0 a1 a2 a3 a4 a5 a6 a7 = some r) : CallsB Try.prog 12 [.box [.sl a2.length (a2.flatMap eGSsiTx), .sl a3.length (a3.flatMap eGReadsRead), .i .i64 a4, .ls 1 a5.length, .ls 2 a6.length, .ls 3 a7.length], .arr 3 1 0 (a5.flatMap eI), .arr 46 8 (a6.flatMap eGR11Tx).length (a6.flatMap eGR11Tx), .arr 76 4 0 (a7.flatMap eGR10Read)] [.one (.lp 0 0), .agg a0, .agg a1] (fun y m' => y = .s (.one (.b r)) ∧ m' = [.box [.sl a2.length (a2.flatMap eGSsiTx), .sl a3.length (a3.flatMap eGReadsRead), .i .i64 a4, .ls 1 a5.length, .ls 2 a6.length, .ls 3 a7.length], .arr 3 1 0 (a5.flatMap eI), .arr 46 8 (a6.flatMap eGR11Tx).length (a6.flatMap eGR11Tx), .arr 76 4 0 (a7.flatMap eGR10Read)]) := by
  unfold m12_l11_world_aheads1 at h
  refine callsB_of Try.func12 rfl (nt := 122) rfl (Nat.le_of_ble_eq_true rfl) ?_
  intro w0 S0 X0 H0
  refine cseq ?_
  refine cregion ?_
  refine sbox rfl rfl ?_
  refine sbox rfl rfl ?_
  refine sv rfl (opv_as rfl) ?_
  refine snil ?_
  refine cseq ?_
  refine cseq ?_
  refine cregion ?_
  refine sv rfl (opv_as rfl) ?_
  refine snil ?_
  refine cjoin (Unit) (fun b1 => [(0, .s (.one (.lp 0 0))), (4, .s (.one (.lp 4 0))), (5, .s (.one (.lp 5 0)))]) (fun b1 => [.box [.sl a2.length (a2.flatMap eGSsiTx), .sl a3.length (a3.flatMap eGReadsRead), .i .i64 a4, .ls 1 a5.length, .ls 2 a6.length, .ls 3 a7.length], .arr 3 1 0 (a5.flatMap eI), .arr 46 8 (a6.flatMap eGR11Tx).length (a6.flatMap eGR11Tx), .arr 76 4 0 (a7.flatMap eGR10Read), .box a0, .box a1]) (fun b1 => m12_l11_world_aheads1_k1 a0 a1 a7 b1 = some r) (fun _ _ => inbL_of rfl) (fun _ _ => blkinb_of rfl) (fun _ _ => Nat.le_of_ble_eq_true rfl) (fun b1 h => ?_) ?_
  · unfold m12_l11_world_aheads1_k1 at h
    refine cseq ?_
    refine cseq ?_
    refine cregion ?_
    refine sv rfl (opv_as rfl) ?_
    refine snil ?_
    refine cjoin (Unit) (fun b2 => []) (fun b2 => [.box [.sl a2.length (a2.flatMap eGSsiTx), .sl a3.length (a3.flatMap eGReadsRead), .i .i64 a4, .ls 1 a5.length, .ls 2 a6.length, .ls 3 a7.length], .arr 3 1 0 (a5.flatMap eI), .arr 46 8 (a6.flatMap eGR11Tx).length (a6.flatMap eGR11Tx), .arr 76 4 0 (a7.flatMap eGR10Read), .box a0, .box a1]) (fun b2 => m12_l11_world_aheads1_k2 b2 = some r) (fun _ _ => inbL_of rfl) (fun _ _ => blkinb_of rfl) (fun _ _ => Nat.le_of_ble_eq_true rfl) (fun b2 h => ?_) ?_
    · unfold m12_l11_world_aheads1_k2 at h
      refine cseq ?_
      refine cregion ?_
      refine sv rfl (opv_as rfl) ?_
      refine snil ?_
      refine cret ?_
      obtain rfl := Option.some.inj h
      exact ⟨Or.inr rfl, _, [0, 1, 2, 3], [.one (.b false)], [.box [.sl a2.length (a2.flatMap eGSsiTx), .sl a3.length (a3.flatMap eGReadsRead), .i .i64 a4, .ls 1 a5.length, .ls 2 a6.length, .ls 3 a7.length], .arr 3 1 0 (a5.flatMap eI), .arr 46 8 (a6.flatMap eGR11Tx).length (a6.flatMap eGR11Tx), .arr 76 4 0 (a7.flatMap eGR10Read)], (resVs_cons (ResV.tmp _ _ rfl) resVs_nil), rfl, rfl, ⟨by decide, rfl⟩, rfl, rfl, ⟨rfl, rfl⟩⟩
    · skip
      refine cblock ?_
      obtain ⟨x3, hx3, ho3⟩ := bind_eq h
      refine awc_loop (G := Nat × (Int)) (fun g => [(0, .s (.one (.lp 0 0))), (4, .s (.one (.lp 4 0))), (5, .s (.one (.lp 5 0))), (9, .s (.one (.i .i64 g.2)))]) (fun g => [.box [.sl a2.length (a2.flatMap eGSsiTx), .sl a3.length (a3.flatMap eGReadsRead), .i .i64 a4, .ls 1 a5.length, .ls 2 a6.length, .ls 3 a7.length], .arr 3 1 0 (a5.flatMap eI), .arr 46 8 (a6.flatMap eGR11Tx).length (a6.flatMap eGR11Tx), .arr 76 4 0 (a7.flatMap eGR10Read), .box a0, .box a1]) (fun g => iter (m12_l11_world_aheads1_s3 a0 a1 a7) g.1 g.2 = some x3) (fun g => g.1) (fuel, 0) hx3 ⟨rfl, rfl, rfl, rfl, trivial⟩ [] rfl (fun _ _ => inbL_of rfl) (fun _ _ => blkinb_of rfl) (fun _ _ => Nat.le_of_ble_eq_true rfl) ?_
      clear hx3 h
      rintro ⟨n3, s3⟩ h
      obtain ⟨n3, y3, rfl, h, hk3⟩ := iter_eq h
      unfold m12_l11_world_aheads1_s3 at h
      refine cseq ?_
      refine cseq ?_
      refine cregion ?_
      refine sv rfl (opv_mv rfl) ?_
      refine sv rfl (opv_mv rfl) ?_
      refine sv rfl (opv_nilCheck rfl rfl (fun _ _ _ h => by cases h)) ?_
      refine sv rfl (opv_fieldAddr_lp fi36_4 rfl) ?_
      refine sv rfl (opv_load1 ti34 rfl (.lp _ _ _ rfl) rfl) ?_
      refine sv rfl (opv_len_ls si34 rfl rfl (flat_len (f := eGR10Read) (fun _ => rfl) _).symm) ?_
      refine sv rfl (opv_lss rfl rfl) ?_
      refine snil ?_
      refine ccond rfl (fun hc => ?_) (fun hc => ?_)
      · replace h := ite_t hc h
        clear hc
        refine cskip ?_
        refine then_normal ?_
        refine cseq ?_
        refine cblock ?_
        refine cseq ?_
        refine cdraw mixed (by kernel_rfl) ?_
        refine dv rfl (opv_mv rfl) ?_
        refine dv rfl (opv_nilCheck rfl rfl (fun _ _ _ h => by cases h)) ?_
        refine dv rfl (opv_fieldAddr_lp fi36_4 rfl) ?_
        refine dv rfl (opv_load1 ti34 rfl (.lp _ _ _ rfl) rfl) ?_
        refine dv rfl (opv_mv rfl) ?_
        obtain ⟨u4, hu4, h⟩ := bind_eq h
        refine dv rfl (opv_ixo (f := eGR10Read) si34 (fun _ => rfl) rfl rfl rfl rfl rfl hu4) ?_
        refine dv rfl (opv_fieldAddr_ap fi76_0 rfl rfl (flat_len (f := eGR10Read) (fun _ => rfl) _).symm) ?_
        refine dv rfl (opv_ld1o (f := eGR10Read) 0 ti3 (fun _ => rfl) rfl rfl rfl rfl (idx_eq hu4).2 rfl) ?_
        refine dv rfl (opv_fieldAddr_lp fi46_0 rfl) ?_
        refine dv rfl (opv_load1 ti3 rfl (.lp _ _ _ rfl) rfl) ?_
        refine dv rfl (opv_ieql rfl rfl) ?_
        refine dv rfl (opv_mv rfl) ?_
        refine dsplit 64 rfl (fun hc => ?_) (fun hc => ?_)
        · replace h := ite_t hc h
          clear hc
          refine dvg rfl rfl rfl (opv_fieldAddr_lp fi46_2 rfl) ?_
          refine dvg rfl rfl rfl (opv_load1 ti3 rfl (.lp _ _ _ rfl) rfl) ?_
          refine dvg rfl rfl rfl (opv_fieldAddr_lp fi46_1 rfl) ?_
          refine dvg rfl rfl rfl (opv_load1 ti3 rfl (.lp _ _ _ rfl) rfl) ?_
          refine dvg rfl rfl rfl (opv_leq rfl rfl) ?_
          refine dv rfl (opv_pick_t rfl rfl) ?_
          refine dv rfl (opv_mv rfl) ?_
          refine dsplit 71 rfl (fun hc => ?_) (fun hc => ?_)
          · replace h := ite_t hc h
            clear hc
            refine dvg rfl rfl rfl (opv_mv rfl) ?_
            refine dvg rfl rfl rfl (opv_nilCheck rfl rfl (fun _ _ _ h => by cases h)) ?_
            refine dvg rfl rfl rfl (opv_fieldAddr_lp fi36_4 rfl) ?_
            refine dvg rfl rfl rfl (opv_load1 ti34 rfl (.lp _ _ _ rfl) rfl) ?_
            refine dvg rfl rfl rfl (opv_mv rfl) ?_
            obtain ⟨u5, hu5, h⟩ := bind_eq h
            refine dvg rfl rfl rfl (opv_ixo (f := eGR10Read) si34 (fun _ => rfl) rfl rfl rfl rfl rfl hu5) ?_
            refine dvg rfl rfl rfl (opv_fieldAddr_ap fi76_1 rfl rfl (flat_len (f := eGR10Read) (fun _ => rfl) _).symm) ?_
            refine dvg rfl rfl rfl (opv_ldNo (f := eGR10Read) (sz := 4) 1 ti40 (fun _ => rfl) rfl rfl rfl rfl (idx_eq hu5).2 (Nat.le_of_ble_eq_true rfl) rfl) ?_
            refine dvg rfl rfl rfl (opv_fieldAddr_lp fi46_7 rfl) ?_
            refine dvg rfl rfl rfl (opv_load1 ti41 rfl (.lp _ _ _ rfl) rfl) ?_
            obtain ⟨v6, hv6, h⟩ := bind_eq h
            refine ddg rfl rfl rfl (opD_call fn14 (opnds_cons rfl (opnds_cons rfl opnds_nil)) rfl (m14_l11_meets_c hv6)) ?_
            refine dv rfl (opv_pick_t rfl rfl) ?_
            refine dv rfl (opv_mv rfl) ?_
            refine dsplit 84 rfl (fun hc => ?_) (fun hc => ?_)
            · replace h := ite_t hc h
              clear hc
              refine doff rfl rfl rfl rfl ?_
              refine doff rfl rfl rfl rfl ?_
              refine doff rfl rfl rfl rfl ?_
              refine doff rfl rfl rfl rfl ?_
              refine doff rfl rfl rfl rfl ?_
              refine doff rfl rfl rfl rfl ?_
              refine doff rfl rfl rfl rfl ?_
              refine doff rfl rfl rfl rfl ?_
              refine doff rfl rfl rfl rfl ?_
              refine doff rfl rfl rfl rfl ?_
              refine doff rfl rfl rfl rfl ?_
              refine doff rfl rfl rfl rfl ?_
              refine doffu rfl rfl rfl ?_
              refine doffu rfl rfl rfl ?_
              refine doffu rfl rfl rfl ?_
              refine doffu rfl rfl rfl ?_
              refine doffu rfl rfl rfl ?_
              refine doff rfl rfl rfl rfl ?_
              refine doff rfl rfl rfl rfl ?_
              refine doffu rfl rfl rfl ?_
              refine doffu rfl rfl rfl ?_
              refine doffu rfl rfl rfl ?_
              refine doffu rfl rfl rfl ?_
              refine doffu rfl rfl rfl ?_
              refine doffu rfl rfl rfl ?_
              refine doffu rfl rfl rfl ?_
              refine doffu rfl rfl rfl ?_
              refine doffu rfl rfl rfl ?_
              refine doffu rfl rfl rfl ?_
              refine doffu rfl rfl rfl ?_
              refine doff rfl rfl rfl rfl ?_
              refine dv rfl (opv_pick_t rfl rfl) ?_
              refine dnil ?_
              refine then_normal ?_
              refine ccond rfl (fun _ => ?_) (fun hx => Bool.noConfusion hx)
              refine cseq ?_
              refine cregion ?_
              refine sv rfl (opv_fieldAddr_lp fi46_0 rfl) ?_
              refine sv rfl (opv_load1 ti3 rfl (.lp _ _ _ rfl) rfl) ?_
              refine sv rfl (opv_fieldAddr_lp fi46_0 rfl) ?_
              refine sv rfl (opv_load1 ti3 rfl (.lp _ _ _ rfl) rfl) ?_
              refine sv rfl (opv_ineq rfl rfl) ?_
              refine sv rfl (opv_as rfl) ?_
              refine snil ?_
              refine cret ?_
              refine block_ret ?_
              refine then_ret ?_
              refine then_ret ?_
              refine block_ret ?_
              refine then_ret ?_
              obtain rfl := Option.some.inj h
              obtain rfl : Sum.inl _ = x3 := hk3
              replace ho3 : some _ = some _ := ho3
              obtain rfl := Option.some.inj ho3
              exact ⟨Or.inr rfl, _, [0, 1, 2, 3], [.one (.b (!decide (a0.ID = a1.ID)))], [.box [.sl a2.length (a2.flatMap eGSsiTx), .sl a3.length (a3.flatMap eGReadsRead), .i .i64 a4, .ls 1 a5.length, .ls 2 a6.length, .ls 3 a7.length], .arr 3 1 0 (a5.flatMap eI), .arr 46 8 (a6.flatMap eGR11Tx).length (a6.flatMap eGR11Tx), .arr 76 4 0 (a7.flatMap eGR10Read)], (resVs_cons (ResV.tmp _ _ rfl) resVs_nil), rfl, rfl, ⟨by decide, rfl⟩, rfl, rfl, ⟨rfl, rfl⟩⟩
            · replace h := ite_f hc h
              clear hc
              refine dvg rfl rfl rfl (opv_mv rfl) ?_
              refine dvg rfl rfl rfl (opv_nilCheck rfl rfl (fun _ _ _ h => by cases h)) ?_
              refine dvg rfl rfl rfl (opv_fieldAddr_lp fi36_4 rfl) ?_
              refine dvg rfl rfl rfl (opv_load1 ti34 rfl (.lp _ _ _ rfl) rfl) ?_
              refine dvg rfl rfl rfl (opv_mv rfl) ?_
              obtain ⟨u7, hu7, h⟩ := bind_eq h
              refine dvg rfl rfl rfl (opv_ixo (f := eGR10Read) si34 (fun _ => rfl) rfl rfl rfl rfl rfl hu7) ?_
              refine dvg rfl rfl rfl (opv_fieldAddr_ap fi76_0 rfl rfl (flat_len (f := eGR10Read) (fun _ => rfl) _).symm) ?_
              refine dvg rfl rfl rfl (opv_ld1o (f := eGR10Read) 0 ti3 (fun _ => rfl) rfl rfl rfl rfl (idx_eq hu7).2 rfl) ?_
              refine dvg rfl rfl rfl (opv_fieldAddr_lp fi46_0 rfl) ?_
              refine dvg rfl rfl rfl (opv_load1 ti3 rfl (.lp _ _ _ rfl) rfl) ?_
              refine dvg rfl rfl rfl (opv_ieql rfl rfl) ?_
              refine dvg rfl rfl rfl (opv_mv rfl) ?_
              refine dsplit 96 rfl (fun hc => ?_) (fun hc => ?_)
              · replace h := ite_t hc h
                clear hc
                refine dvg rfl rfl rfl (opv_fieldAddr_lp fi46_2 rfl) ?_
                refine dvg rfl rfl rfl (opv_load1 ti3 rfl (.lp _ _ _ rfl) rfl) ?_
                refine dvg rfl rfl rfl (opv_fieldAddr_lp fi46_1 rfl) ?_
                refine dvg rfl rfl rfl (opv_load1 ti3 rfl (.lp _ _ _ rfl) rfl) ?_
                refine dvg rfl rfl rfl (opv_gtr rfl rfl) ?_
                refine dvg rfl rfl rfl (opv_pick_t rfl rfl) ?_
                refine dvg rfl rfl rfl (opv_mv rfl) ?_
                refine dsplit 103 rfl (fun hc => ?_) (fun hc => ?_)
                · replace h := ite_t hc h
                  clear hc
                  refine dvg rfl rfl rfl (opv_mv rfl) ?_
                  refine dvg rfl rfl rfl (opv_nilCheck rfl rfl (fun _ _ _ h => by cases h)) ?_
                  refine dvg rfl rfl rfl (opv_fieldAddr_lp fi36_4 rfl) ?_
                  refine dvg rfl rfl rfl (opv_load1 ti34 rfl (.lp _ _ _ rfl) rfl) ?_
                  refine dvg rfl rfl rfl (opv_mv rfl) ?_
                  obtain ⟨u8, hu8, h⟩ := bind_eq h
                  refine dvg rfl rfl rfl (opv_ixo (f := eGR10Read) si34 (fun _ => rfl) rfl rfl rfl rfl rfl hu8) ?_
                  refine dvg rfl rfl rfl (opv_fieldAddr_ap fi76_1 rfl rfl (flat_len (f := eGR10Read) (fun _ => rfl) _).symm) ?_
                  refine dvg rfl rfl rfl (opv_ldNo (f := eGR10Read) (sz := 4) 1 ti40 (fun _ => rfl) rfl rfl rfl rfl (idx_eq hu8).2 (Nat.le_of_ble_eq_true rfl) rfl) ?_
                  refine dvg rfl rfl rfl (opv_fieldAddr_lp fi46_7 rfl) ?_
                  refine dvg rfl rfl rfl (opv_load1 ti41 rfl (.lp _ _ _ rfl) rfl) ?_
                  obtain ⟨v9, hv9, h⟩ := bind_eq h
                  refine ddg rfl rfl rfl (opD_call fn14 (opnds_cons rfl (opnds_cons rfl opnds_nil)) rfl (m14_l11_meets_c hv9)) ?_
                  refine dvg rfl rfl rfl (opv_pick_t rfl rfl) ?_
                  refine dv rfl (opv_pick_f rfl rfl) ?_
                  refine dnil ?_
                  refine then_normal ?_
                  refine ccond rfl (fun hc => ?_) (fun hc => ?_)
                  · replace h := ite_t hc h
                    clear hc
                    refine cseq ?_
                    refine cregion ?_
                    refine sv rfl (opv_fieldAddr_lp fi46_0 rfl) ?_
                    refine sv rfl (opv_load1 ti3 rfl (.lp _ _ _ rfl) rfl) ?_
                    refine sv rfl (opv_fieldAddr_lp fi46_0 rfl) ?_
                    refine sv rfl (opv_load1 ti3 rfl (.lp _ _ _ rfl) rfl) ?_
                    refine sv rfl (opv_ineq rfl rfl) ?_
                    refine sv rfl (opv_as rfl) ?_
                    refine snil ?_
                    refine cret ?_
                    refine block_ret ?_
                    refine then_ret ?_
                    refine then_ret ?_
                    refine block_ret ?_
                    refine then_ret ?_
                    obtain rfl := Option.some.inj h
                    obtain rfl : Sum.inl _ = x3 := hk3
                    replace ho3 : some _ = some _ := ho3
                    obtain rfl := Option.some.inj ho3
                    exact ⟨Or.inr rfl, _, [0, 1, 2, 3], [.one (.b (!decide (a0.ID = a1.ID)))], [.box [.sl a2.length (a2.flatMap eGSsiTx), .sl a3.length (a3.flatMap eGReadsRead), .i .i64 a4, .ls 1 a5.length, .ls 2 a6.length, .ls 3 a7.length], .arr 3 1 0 (a5.flatMap eI), .arr 46 8 (a6.flatMap eGR11Tx).length (a6.flatMap eGR11Tx), .arr 76 4 0 (a7.flatMap eGR10Read)], (resVs_cons (ResV.tmp _ _ rfl) resVs_nil), rfl, rfl, ⟨by decide, rfl⟩, rfl, rfl, ⟨rfl, rfl⟩⟩
                  · replace h := ite_f hc h
                    clear hc
                    refine cskip ?_
                    refine block_normal ?_
                    refine then_normal ?_
                    refine cregion ?_
                    refine sv rfl (opv_mv rfl) ?_
                    refine sv rfl (opv_add rfl rfl) ?_
                    refine sv rfl (opv_as rfl) ?_
                    refine snil ?_
                    obtain rfl := Option.some.inj h
                    exact ⟨(n3, (wI (s3 + 1))), _, hk3, ⟨rfl, rfl, rfl, rfl, trivial⟩, rfl, Nat.lt_succ_self _⟩
                · replace h := ite_f hc h
                  clear hc
                  refine doff rfl rfl rfl rfl ?_
                  refine doff rfl rfl rfl rfl ?_
                  refine doff rfl rfl rfl rfl ?_
                  refine doff rfl rfl rfl rfl ?_
                  refine doff rfl rfl rfl rfl ?_
                  refine doff rfl rfl rfl rfl ?_
                  refine doff rfl rfl rfl rfl ?_
                  refine doff rfl rfl rfl rfl ?_
                  refine doff rfl rfl rfl rfl ?_
                  refine doff rfl rfl rfl rfl ?_
                  refine doff rfl rfl rfl rfl ?_
                  refine dvg rfl rfl rfl (opv_pick_f rfl rfl) ?_
                  refine dv rfl (opv_pick_f rfl rfl) ?_
                  refine dnil ?_
                  refine then_normal ?_
                  refine ccond rfl (fun hx => Bool.noConfusion hx) (fun _ => ?_)
                  refine cskip ?_
                  refine block_normal ?_
                  refine then_normal ?_
                  refine cregion ?_
                  refine sv rfl (opv_mv rfl) ?_
                  refine sv rfl (opv_add rfl rfl) ?_
                  refine sv rfl (opv_as rfl) ?_
                  refine snil ?_
                  obtain rfl := Option.some.inj h
                  exact ⟨(n3, (wI (s3 + 1))), _, hk3, ⟨rfl, rfl, rfl, rfl, trivial⟩, rfl, Nat.lt_succ_self _⟩
              · replace h := ite_f hc h
                clear hc
                refine doff rfl rfl rfl rfl ?_
                refine doff rfl rfl rfl rfl ?_
                refine doff rfl rfl rfl rfl ?_
                refine doff rfl rfl rfl rfl ?_
                refine doff rfl rfl rfl rfl ?_
                refine dvg rfl rfl rfl (opv_pick_f rfl rfl) ?_
                refine dvg rfl rfl rfl (opv_mv rfl) ?_
                refine doff rfl rfl rfl rfl ?_
                refine doff rfl rfl rfl rfl ?_
                refine doff rfl rfl rfl rfl ?_
                refine doff rfl rfl rfl rfl ?_
                refine doff rfl rfl rfl rfl ?_
                refine doff rfl rfl rfl rfl ?_
                refine doff rfl rfl rfl rfl ?_
                refine doff rfl rfl rfl rfl ?_
                refine doff rfl rfl rfl rfl ?_
                refine doff rfl rfl rfl rfl ?_
                refine doff rfl rfl rfl rfl ?_
                refine dvg rfl rfl rfl (opv_pick_f rfl rfl) ?_
                refine dv rfl (opv_pick_f rfl rfl) ?_
                refine dnil ?_
                refine then_normal ?_
                refine ccond rfl (fun hx => Bool.noConfusion hx) (fun _ => ?_)
                refine cskip ?_
                refine block_normal ?_
                refine then_normal ?_
                refine cregion ?_
                refine sv rfl (opv_mv rfl) ?_
                refine sv rfl (opv_add rfl rfl) ?_
                refine sv rfl (opv_as rfl) ?_
                refine snil ?_
                obtain rfl := Option.some.inj h
                exact ⟨(n3, (wI (s3 + 1))), _, hk3, ⟨rfl, rfl, rfl, rfl, trivial⟩, rfl, Nat.lt_succ_self _⟩
          · replace h := ite_f hc h
            clear hc
            refine doff rfl rfl rfl rfl ?_
            refine doff rfl rfl rfl rfl ?_
            refine doff rfl rfl rfl rfl ?_
            refine doff rfl rfl rfl rfl ?_
            refine doff rfl rfl rfl rfl ?_
            refine doff rfl rfl rfl rfl ?_
            refine doff rfl rfl rfl rfl ?_
            refine doff rfl rfl rfl rfl ?_
            refine doff rfl rfl rfl rfl ?_
            refine doff rfl rfl rfl rfl ?_
            refine doff rfl rfl rfl rfl ?_
            refine dv rfl (opv_pick_f rfl rfl) ?_
            refine dv rfl (opv_mv rfl) ?_
            refine dvg rfl rfl rfl (opv_mv rfl) ?_
            refine dvg rfl rfl rfl (opv_nilCheck rfl rfl (fun _ _ _ h => by cases h)) ?_
            refine dvg rfl rfl rfl (opv_fieldAddr_lp fi36_4 rfl) ?_
            refine dvg rfl rfl rfl (opv_load1 ti34 rfl (.lp _ _ _ rfl) rfl) ?_
            refine dvg rfl rfl rfl (opv_mv rfl) ?_
            obtain ⟨u10, hu10, h⟩ := bind_eq h
            refine dvg rfl rfl rfl (opv_ixo (f := eGR10Read) si34 (fun _ => rfl) rfl rfl rfl rfl rfl hu10) ?_
            refine dvg rfl rfl rfl (opv_fieldAddr_ap fi76_0 rfl rfl (flat_len (f := eGR10Read) (fun _ => rfl) _).symm) ?_
            refine dvg rfl rfl rfl (opv_ld1o (f := eGR10Read) 0 ti3 (fun _ => rfl) rfl rfl rfl rfl (idx_eq hu10).2 rfl) ?_
            refine dvg rfl rfl rfl (opv_fieldAddr_lp fi46_0 rfl) ?_
            refine dvg rfl rfl rfl (opv_load1 ti3 rfl (.lp _ _ _ rfl) rfl) ?_
            refine dvg rfl rfl rfl (opv_ieql rfl rfl) ?_
            refine dvg rfl rfl rfl (opv_mv rfl) ?_
            refine dsplit 96 rfl (fun hc => ?_) (fun hc => ?_)
            · replace h := ite_t hc h
              clear hc
              refine dvg rfl rfl rfl (opv_fieldAddr_lp fi46_2 rfl) ?_
              refine dvg rfl rfl rfl (opv_load1 ti3 rfl (.lp _ _ _ rfl) rfl) ?_
              refine dvg rfl rfl rfl (opv_fieldAddr_lp fi46_1 rfl) ?_
              refine dvg rfl rfl rfl (opv_load1 ti3 rfl (.lp _ _ _ rfl) rfl) ?_
              refine dvg rfl rfl rfl (opv_gtr rfl rfl) ?_
              refine dvg rfl rfl rfl (opv_pick_t rfl rfl) ?_
              refine dvg rfl rfl rfl (opv_mv rfl) ?_
              refine dsplit 103 rfl (fun hc => ?_) (fun hc => ?_)
              · replace h := ite_t hc h
                clear hc
                refine dvg rfl rfl rfl (opv_mv rfl) ?_
                refine dvg rfl rfl rfl (opv_nilCheck rfl rfl (fun _ _ _ h => by cases h)) ?_
                refine dvg rfl rfl rfl (opv_fieldAddr_lp fi36_4 rfl) ?_
                refine dvg rfl rfl rfl (opv_load1 ti34 rfl (.lp _ _ _ rfl) rfl) ?_
                refine dvg rfl rfl rfl (opv_mv rfl) ?_
                obtain ⟨u11, hu11, h⟩ := bind_eq h
                refine dvg rfl rfl rfl (opv_ixo (f := eGR10Read) si34 (fun _ => rfl) rfl rfl rfl rfl rfl hu11) ?_
                refine dvg rfl rfl rfl (opv_fieldAddr_ap fi76_1 rfl rfl (flat_len (f := eGR10Read) (fun _ => rfl) _).symm) ?_
                refine dvg rfl rfl rfl (opv_ldNo (f := eGR10Read) (sz := 4) 1 ti40 (fun _ => rfl) rfl rfl rfl rfl (idx_eq hu11).2 (Nat.le_of_ble_eq_true rfl) rfl) ?_
                refine dvg rfl rfl rfl (opv_fieldAddr_lp fi46_7 rfl) ?_
                refine dvg rfl rfl rfl (opv_load1 ti41 rfl (.lp _ _ _ rfl) rfl) ?_
                obtain ⟨v12, hv12, h⟩ := bind_eq h
                refine ddg rfl rfl rfl (opD_call fn14 (opnds_cons rfl (opnds_cons rfl opnds_nil)) rfl (m14_l11_meets_c hv12)) ?_
                refine dvg rfl rfl rfl (opv_pick_t rfl rfl) ?_
                refine dv rfl (opv_pick_f rfl rfl) ?_
                refine dnil ?_
                refine then_normal ?_
                refine ccond rfl (fun hc => ?_) (fun hc => ?_)
                · replace h := ite_t hc h
                  clear hc
                  refine cseq ?_
                  refine cregion ?_
                  refine sv rfl (opv_fieldAddr_lp fi46_0 rfl) ?_
                  refine sv rfl (opv_load1 ti3 rfl (.lp _ _ _ rfl) rfl) ?_
                  refine sv rfl (opv_fieldAddr_lp fi46_0 rfl) ?_
                  refine sv rfl (opv_load1 ti3 rfl (.lp _ _ _ rfl) rfl) ?_
                  refine sv rfl (opv_ineq rfl rfl) ?_
                  refine sv rfl (opv_as rfl) ?_
                  refine snil ?_
                  refine cret ?_
                  refine block_ret ?_
                  refine then_ret ?_
                  refine then_ret ?_
                  refine block_ret ?_
                  refine then_ret ?_
                  obtain rfl := Option.some.inj h
                  obtain rfl : Sum.inl _ = x3 := hk3
                  replace ho3 : some _ = some _ := ho3
                  obtain rfl := Option.some.inj ho3
                  exact ⟨Or.inr rfl, _, [0, 1, 2, 3], [.one (.b (!decide (a0.ID = a1.ID)))], [.box [.sl a2.length (a2.flatMap eGSsiTx), .sl a3.length (a3.flatMap eGReadsRead), .i .i64 a4, .ls 1 a5.length, .ls 2 a6.length, .ls 3 a7.length], .arr 3 1 0 (a5.flatMap eI), .arr 46 8 (a6.flatMap eGR11Tx).length (a6.flatMap eGR11Tx), .arr 76 4 0 (a7.flatMap eGR10Read)], (resVs_cons (ResV.tmp _ _ rfl) resVs_nil), rfl, rfl, ⟨by decide, rfl⟩, rfl, rfl, ⟨rfl, rfl⟩⟩
                · replace h := ite_f hc h
                  clear hc
                  refine cskip ?_
                  refine block_normal ?_
                  refine then_normal ?_
                  refine cregion ?_
                  refine sv rfl (opv_mv rfl) ?_
                  refine sv rfl (opv_add rfl rfl) ?_
                  refine sv rfl (opv_as rfl) ?_
                  refine snil ?_
                  obtain rfl := Option.some.inj h
                  exact ⟨(n3, (wI (s3 + 1))), _, hk3, ⟨rfl, rfl, rfl, rfl, trivial⟩, rfl, Nat.lt_succ_self _⟩
              · replace h := ite_f hc h
                clear hc
                refine doff rfl rfl rfl rfl ?_
                refine doff rfl rfl rfl rfl ?_
                refine doff rfl rfl rfl rfl ?_
                refine doff rfl rfl rfl rfl ?_
                refine doff rfl rfl rfl rfl ?_
                refine doff rfl rfl rfl rfl ?_
                refine doff rfl rfl rfl rfl ?_
                refine doff rfl rfl rfl rfl ?_
                refine doff rfl rfl rfl rfl ?_
                refine doff rfl rfl rfl rfl ?_
                refine doff rfl rfl rfl rfl ?_
                refine dvg rfl rfl rfl (opv_pick_f rfl rfl) ?_
                refine dv rfl (opv_pick_f rfl rfl) ?_
                refine dnil ?_
                refine then_normal ?_
                refine ccond rfl (fun hx => Bool.noConfusion hx) (fun _ => ?_)
                refine cskip ?_
                refine block_normal ?_
                refine then_normal ?_
                refine cregion ?_
                refine sv rfl (opv_mv rfl) ?_
                refine sv rfl (opv_add rfl rfl) ?_
                refine sv rfl (opv_as rfl) ?_
                refine snil ?_
                obtain rfl := Option.some.inj h
                exact ⟨(n3, (wI (s3 + 1))), _, hk3, ⟨rfl, rfl, rfl, rfl, trivial⟩, rfl, Nat.lt_succ_self _⟩
            · replace h := ite_f hc h
              clear hc
              refine doff rfl rfl rfl rfl ?_
              refine doff rfl rfl rfl rfl ?_
              refine doff rfl rfl rfl rfl ?_
              refine doff rfl rfl rfl rfl ?_
              refine doff rfl rfl rfl rfl ?_
              refine dvg rfl rfl rfl (opv_pick_f rfl rfl) ?_
              refine dvg rfl rfl rfl (opv_mv rfl) ?_
              refine doff rfl rfl rfl rfl ?_
              refine doff rfl rfl rfl rfl ?_
              refine doff rfl rfl rfl rfl ?_
              refine doff rfl rfl rfl rfl ?_
              refine doff rfl rfl rfl rfl ?_
              refine doff rfl rfl rfl rfl ?_
              refine doff rfl rfl rfl rfl ?_
              refine doff rfl rfl rfl rfl ?_
              refine doff rfl rfl rfl rfl ?_
              refine doff rfl rfl rfl rfl ?_
              refine doff rfl rfl rfl rfl ?_
              refine dvg rfl rfl rfl (opv_pick_f rfl rfl) ?_
              refine dv rfl (opv_pick_f rfl rfl) ?_
              refine dnil ?_
              refine then_normal ?_
              refine ccond rfl (fun hx => Bool.noConfusion hx) (fun _ => ?_)
              refine cskip ?_
              refine block_normal ?_
              refine then_normal ?_
              refine cregion ?_
              refine sv rfl (opv_mv rfl) ?_
              refine sv rfl (opv_add rfl rfl) ?_
              refine sv rfl (opv_as rfl) ?_
              refine snil ?_
              obtain rfl := Option.some.inj h
              exact ⟨(n3, (wI (s3 + 1))), _, hk3, ⟨rfl, rfl, rfl, rfl, trivial⟩, rfl, Nat.lt_succ_self _⟩
        · replace h := ite_f hc h
          clear hc
          refine doff rfl rfl rfl rfl ?_
          refine doff rfl rfl rfl rfl ?_
          refine doff rfl rfl rfl rfl ?_
          refine doff rfl rfl rfl rfl ?_
          refine doff rfl rfl rfl rfl ?_
          refine dv rfl (opv_pick_f rfl rfl) ?_
          refine dv rfl (opv_mv rfl) ?_
          refine doff rfl rfl rfl rfl ?_
          refine doff rfl rfl rfl rfl ?_
          refine doff rfl rfl rfl rfl ?_
          refine doff rfl rfl rfl rfl ?_
          refine doff rfl rfl rfl rfl ?_
          refine doff rfl rfl rfl rfl ?_
          refine doff rfl rfl rfl rfl ?_
          refine doff rfl rfl rfl rfl ?_
          refine doff rfl rfl rfl rfl ?_
          refine doff rfl rfl rfl rfl ?_
          refine doff rfl rfl rfl rfl ?_
          refine dv rfl (opv_pick_f rfl rfl) ?_
          refine dv rfl (opv_mv rfl) ?_
          refine dvg rfl rfl rfl (opv_mv rfl) ?_
          refine dvg rfl rfl rfl (opv_nilCheck rfl rfl (fun _ _ _ h => by cases h)) ?_
          refine dvg rfl rfl rfl (opv_fieldAddr_lp fi36_4 rfl) ?_
          refine dvg rfl rfl rfl (opv_load1 ti34 rfl (.lp _ _ _ rfl) rfl) ?_
          refine dvg rfl rfl rfl (opv_mv rfl) ?_
          obtain ⟨u13, hu13, h⟩ := bind_eq h
          refine dvg rfl rfl rfl (opv_ixo (f := eGR10Read) si34 (fun _ => rfl) rfl rfl rfl rfl rfl hu13) ?_
          refine dvg rfl rfl rfl (opv_fieldAddr_ap fi76_0 rfl rfl (flat_len (f := eGR10Read) (fun _ => rfl) _).symm) ?_
          refine dvg rfl rfl rfl (opv_ld1o (f := eGR10Read) 0 ti3 (fun _ => rfl) rfl rfl rfl rfl (idx_eq hu13).2 rfl) ?_
          refine dvg rfl rfl rfl (opv_fieldAddr_lp fi46_0 rfl) ?_
          refine dvg rfl rfl rfl (opv_load1 ti3 rfl (.lp _ _ _ rfl) rfl) ?_
          refine dvg rfl rfl rfl (opv_ieql rfl rfl) ?_
          refine dvg rfl rfl rfl (opv_mv rfl) ?_
          refine dsplit 96 rfl (fun hc => ?_) (fun hc => ?_)
          · replace h := ite_t hc h
            clear hc
            refine dvg rfl rfl rfl (opv_fieldAddr_lp fi46_2 rfl) ?_
            refine dvg rfl rfl rfl (opv_load1 ti3 rfl (.lp _ _ _ rfl) rfl) ?_
            refine dvg rfl rfl rfl (opv_fieldAddr_lp fi46_1 rfl) ?_
            refine dvg rfl rfl rfl (opv_load1 ti3 rfl (.lp _ _ _ rfl) rfl) ?_
            refine dvg rfl rfl rfl (opv_gtr rfl rfl) ?_
            refine dvg rfl rfl rfl (opv_pick_t rfl rfl) ?_
            refine dvg rfl rfl rfl (opv_mv rfl) ?_
            refine dsplit 103 rfl (fun hc => ?_) (fun hc => ?_)
            · replace h := ite_t hc h
              clear hc
              refine dvg rfl rfl rfl (opv_mv rfl) ?_
              refine dvg rfl rfl rfl (opv_nilCheck rfl rfl (fun _ _ _ h => by cases h)) ?_
              refine dvg rfl rfl rfl (opv_fieldAddr_lp fi36_4 rfl) ?_
              refine dvg rfl rfl rfl (opv_load1 ti34 rfl (.lp _ _ _ rfl) rfl) ?_
              refine dvg rfl rfl rfl (opv_mv rfl) ?_
              obtain ⟨u14, hu14, h⟩ := bind_eq h
              refine dvg rfl rfl rfl (opv_ixo (f := eGR10Read) si34 (fun _ => rfl) rfl rfl rfl rfl rfl hu14) ?_
              refine dvg rfl rfl rfl (opv_fieldAddr_ap fi76_1 rfl rfl (flat_len (f := eGR10Read) (fun _ => rfl) _).symm) ?_
              refine dvg rfl rfl rfl (opv_ldNo (f := eGR10Read) (sz := 4) 1 ti40 (fun _ => rfl) rfl rfl rfl rfl (idx_eq hu14).2 (Nat.le_of_ble_eq_true rfl) rfl) ?_
              refine dvg rfl rfl rfl (opv_fieldAddr_lp fi46_7 rfl) ?_
              refine dvg rfl rfl rfl (opv_load1 ti41 rfl (.lp _ _ _ rfl) rfl) ?_
              obtain ⟨v15, hv15, h⟩ := bind_eq h
              refine ddg rfl rfl rfl (opD_call fn14 (opnds_cons rfl (opnds_cons rfl opnds_nil)) rfl (m14_l11_meets_c hv15)) ?_
              refine dvg rfl rfl rfl (opv_pick_t rfl rfl) ?_
              refine dv rfl (opv_pick_f rfl rfl) ?_
              refine dnil ?_
              refine then_normal ?_
              refine ccond rfl (fun hc => ?_) (fun hc => ?_)
              · replace h := ite_t hc h
                clear hc
                refine cseq ?_
                refine cregion ?_
                refine sv rfl (opv_fieldAddr_lp fi46_0 rfl) ?_
                refine sv rfl (opv_load1 ti3 rfl (.lp _ _ _ rfl) rfl) ?_
                refine sv rfl (opv_fieldAddr_lp fi46_0 rfl) ?_
                refine sv rfl (opv_load1 ti3 rfl (.lp _ _ _ rfl) rfl) ?_
                refine sv rfl (opv_ineq rfl rfl) ?_
                refine sv rfl (opv_as rfl) ?_
                refine snil ?_
                refine cret ?_
                refine block_ret ?_
                refine then_ret ?_
                refine then_ret ?_
                refine block_ret ?_
                refine then_ret ?_
                obtain rfl := Option.some.inj h
                obtain rfl : Sum.inl _ = x3 := hk3
                replace ho3 : some _ = some _ := ho3
                obtain rfl := Option.some.inj ho3
                exact ⟨Or.inr rfl, _, [0, 1, 2, 3], [.one (.b (!decide (a0.ID = a1.ID)))], [.box [.sl a2.length (a2.flatMap eGSsiTx), .sl a3.length (a3.flatMap eGReadsRead), .i .i64 a4, .ls 1 a5.length, .ls 2 a6.length, .ls 3 a7.length], .arr 3 1 0 (a5.flatMap eI), .arr 46 8 (a6.flatMap eGR11Tx).length (a6.flatMap eGR11Tx), .arr 76 4 0 (a7.flatMap eGR10Read)], (resVs_cons (ResV.tmp _ _ rfl) resVs_nil), rfl, rfl, ⟨by decide, rfl⟩, rfl, rfl, ⟨rfl, rfl⟩⟩
              · replace h := ite_f hc h
                clear hc
                refine cskip ?_
                refine block_normal ?_
                refine then_normal ?_
                refine cregion ?_
                refine sv rfl (opv_mv rfl) ?_
                refine sv rfl (opv_add rfl rfl) ?_
                refine sv rfl (opv_as rfl) ?_
                refine snil ?_
                obtain rfl := Option.some.inj h
                exact ⟨(n3, (wI (s3 + 1))), _, hk3, ⟨rfl, rfl, rfl, rfl, trivial⟩, rfl, Nat.lt_succ_self _⟩
            · replace h := ite_f hc h
              clear hc
              refine doff rfl rfl rfl rfl ?_
              refine doff rfl rfl rfl rfl ?_
              refine doff rfl rfl rfl rfl ?_
              refine doff rfl rfl rfl rfl ?_
              refine doff rfl rfl rfl rfl ?_
              refine doff rfl rfl rfl rfl ?_
              refine doff rfl rfl rfl rfl ?_
              refine doff rfl rfl rfl rfl ?_
              refine doff rfl rfl rfl rfl ?_
              refine doff rfl rfl rfl rfl ?_
              refine doff rfl rfl rfl rfl ?_
              refine dvg rfl rfl rfl (opv_pick_f rfl rfl) ?_
              refine dv rfl (opv_pick_f rfl rfl) ?_
              refine dnil ?_
              refine then_normal ?_
              refine ccond rfl (fun hx => Bool.noConfusion hx) (fun _ => ?_)
              refine cskip ?_
              refine block_normal ?_
              refine then_normal ?_
              refine cregion ?_
              refine sv rfl (opv_mv rfl) ?_
              refine sv rfl (opv_add rfl rfl) ?_
              refine sv rfl (opv_as rfl) ?_
              refine snil ?_
              obtain rfl := Option.some.inj h
              exact ⟨(n3, (wI (s3 + 1))), _, hk3, ⟨rfl, rfl, rfl, rfl, trivial⟩, rfl, Nat.lt_succ_self _⟩
          · replace h := ite_f hc h
            clear hc
            refine doff rfl rfl rfl rfl ?_
            refine doff rfl rfl rfl rfl ?_
            refine doff rfl rfl rfl rfl ?_
            refine doff rfl rfl rfl rfl ?_
            refine doff rfl rfl rfl rfl ?_
            refine dvg rfl rfl rfl (opv_pick_f rfl rfl) ?_
            refine dvg rfl rfl rfl (opv_mv rfl) ?_
            refine doff rfl rfl rfl rfl ?_
            refine doff rfl rfl rfl rfl ?_
            refine doff rfl rfl rfl rfl ?_
            refine doff rfl rfl rfl rfl ?_
            refine doff rfl rfl rfl rfl ?_
            refine doff rfl rfl rfl rfl ?_
            refine doff rfl rfl rfl rfl ?_
            refine doff rfl rfl rfl rfl ?_
            refine doff rfl rfl rfl rfl ?_
            refine doff rfl rfl rfl rfl ?_
            refine doff rfl rfl rfl rfl ?_
            refine dvg rfl rfl rfl (opv_pick_f rfl rfl) ?_
            refine dv rfl (opv_pick_f rfl rfl) ?_
            refine dnil ?_
            refine then_normal ?_
            refine ccond rfl (fun hx => Bool.noConfusion hx) (fun _ => ?_)
            refine cskip ?_
            refine block_normal ?_
            refine then_normal ?_
            refine cregion ?_
            refine sv rfl (opv_mv rfl) ?_
            refine sv rfl (opv_add rfl rfl) ?_
            refine sv rfl (opv_as rfl) ?_
            refine snil ?_
            obtain rfl := Option.some.inj h
            exact ⟨(n3, (wI (s3 + 1))), _, hk3, ⟨rfl, rfl, rfl, rfl, trivial⟩, rfl, Nat.lt_succ_self _⟩
      · replace h := ite_f hc h
        clear hc
        refine cexit ?_
        refine then_exit ?_
        refine then_exit ?_
        refine block_hit ?_
        refine then_normal ?_
        obtain rfl := Option.some.inj h
        obtain rfl : _ = x3 := hk3
        exact ⟨(), _, ho3, trivial, rfl⟩
  · skip
    refine cblock ?_
    obtain ⟨x17, hx17, ho17⟩ := bind_eq h
    refine awc_loop (G := Nat × (Int)) (fun g => [(0, .s (.one (.lp 0 0))), (4, .s (.one (.lp 4 0))), (5, .s (.one (.lp 5 0))), (7, .s (.one (.i .i64 g.2)))]) (fun g => [.box [.sl a2.length (a2.flatMap eGSsiTx), .sl a3.length (a3.flatMap eGReadsRead), .i .i64 a4, .ls 1 a5.length, .ls 2 a6.length, .ls 3 a7.length], .arr 3 1 0 (a5.flatMap eI), .arr 46 8 (a6.flatMap eGR11Tx).length (a6.flatMap eGR11Tx), .arr 76 4 0 (a7.flatMap eGR10Read), .box a0, .box a1]) (fun g => iter (m12_l11_world_aheads1_s17 a0 a1) g.1 g.2 = some x17) (fun g => g.1) (fuel, 0) hx17 ⟨rfl, rfl, rfl, rfl, trivial⟩ [] rfl (fun _ _ => inbL_of rfl) (fun _ _ => blkinb_of rfl) (fun _ _ => Nat.le_of_ble_eq_true rfl) ?_
    clear hx17 h
    rintro ⟨n17, s17⟩ h
    obtain ⟨n17, y17, rfl, h, hk17⟩ := iter_eq h
    unfold m12_l11_world_aheads1_s17 at h
    refine cseq ?_
    refine cseq ?_
    refine cregion ?_
    refine sv rfl (opv_mv rfl) ?_
    refine sv rfl (opv_fieldAddr_lp fi46_7 rfl) ?_
    refine sv rfl (opv_load1 ti41 rfl (.lp _ _ _ rfl) rfl) ?_
    refine sv rfl (opv_len_sl si41 rfl) ?_
    refine sv rfl (opv_lss rfl rfl) ?_
    refine snil ?_
    refine ccond rfl (fun hc => ?_) (fun hc => ?_)
    · replace h := ite_t hc h
      clear hc
      refine cskip ?_
      refine then_normal ?_
      refine cseq ?_
      refine cblock ?_
      refine cseq ?_
      refine cregion ?_
      refine sv rfl (opv_as rfl) ?_
      refine snil ?_
      refine cjoinb (Unit) (fun b18 => [(0, .s (.one (.lp 0 0))), (4, .s (.one (.lp 4 0))), (5, .s (.one (.lp 5 0))), (7, .s (.one (.i .i64 s17)))]) (fun b18 => [.box [.sl a2.length (a2.flatMap eGSsiTx), .sl a3.length (a3.flatMap eGReadsRead), .i .i64 a4, .ls 1 a5.length, .ls 2 a6.length, .ls 3 a7.length], .arr 3 1 0 (a5.flatMap eI), .arr 46 8 (a6.flatMap eGR11Tx).length (a6.flatMap eGR11Tx), .arr 76 4 0 (a7.flatMap eGR10Read), .box a0, .box a1]) (fun b18 => m12_l11_world_aheads1_k18 s17 b18 = some y17) (fun _ _ => inbL_of rfl) (fun _ _ => blkinb_of rfl) (fun _ _ => Nat.le_of_ble_eq_true rfl) (fun b18 h => ?_) ?_
      · unfold m12_l11_world_aheads1_k18 at h
        refine cregion ?_
        refine sv rfl (opv_mv rfl) ?_
        refine sv rfl (opv_add rfl rfl) ?_
        refine sv rfl (opv_as rfl) ?_
        refine snil ?_
        obtain rfl := Option.some.inj h
        exact ⟨(n17, (wI (s17 + 1))), _, hk17, ⟨rfl, rfl, rfl, rfl, trivial⟩, rfl, Nat.lt_succ_self _⟩
      · skip
        refine cblock ?_
        obtain ⟨x19, hx19, ho19⟩ := bind_eq h
        refine awc_loop (G := Nat × (Int)) (fun g => [(0, .s (.one (.lp 0 0))), (4, .s (.one (.lp 4 0))), (5, .s (.one (.lp 5 0))), (7, .s (.one (.i .i64 s17))), (8, .s (.one (.i .i64 g.2)))]) (fun g => [.box [.sl a2.length (a2.flatMap eGSsiTx), .sl a3.length (a3.flatMap eGReadsRead), .i .i64 a4, .ls 1 a5.length, .ls 2 a6.length, .ls 3 a7.length], .arr 3 1 0 (a5.flatMap eI), .arr 46 8 (a6.flatMap eGR11Tx).length (a6.flatMap eGR11Tx), .arr 76 4 0 (a7.flatMap eGR10Read), .box a0, .box a1]) (fun g => iter (m12_l11_world_aheads1_s19 a0 a1 s17) g.1 g.2 = some x19) (fun g => g.1) (fuel, 0) hx19 ⟨rfl, rfl, rfl, rfl, rfl, trivial⟩ [] rfl (fun _ _ => inbL_of rfl) (fun _ _ => blkinb_of rfl) (fun _ _ => Nat.le_of_ble_eq_true rfl) ?_
        clear hx19 h
        rintro ⟨n19, s19⟩ h
        obtain ⟨n19, y19, rfl, h, hk19⟩ := iter_eq h
        unfold m12_l11_world_aheads1_s19 at h
        refine cseq ?_
        refine cseq ?_
        refine cregion ?_
        refine sv rfl (opv_mv rfl) ?_
        refine sv rfl (opv_fieldAddr_lp fi46_7 rfl) ?_
        refine sv rfl (opv_load1 ti41 rfl (.lp _ _ _ rfl) rfl) ?_
        refine sv rfl (opv_len_sl si41 rfl) ?_
        refine sv rfl (opv_lss rfl rfl) ?_
        refine snil ?_
        refine ccond rfl (fun hc => ?_) (fun hc => ?_)
        · replace h := ite_t hc h
          clear hc
          refine cskip ?_
          refine then_normal ?_
          refine cseq ?_
          refine cblock ?_
          refine cseq ?_
          refine cdraw mixed (by kernel_rfl) ?_
          refine dv rfl (opv_fieldAddr_lp fi46_7 rfl) ?_
          refine dv rfl (opv_load1 ti41 rfl (.lp _ _ _ rfl) rfl) ?_
          refine dv rfl (opv_mv rfl) ?_
          obtain ⟨u20, hu20, h⟩ := bind_eq h
          refine dv rfl (opv_ix (f := (eL eU8)) si41 (fun _ => rfl) rfl rfl rfl rfl hu20) ?_
          refine dv rfl (opv_load1 ti38 rfl (.cp _) rfl) ?_
          refine dv rfl (opv_bs (l := u20) Try.underlying38 Try.underlying5 Try.underlying9 rfl rfl rfl) ?_
          refine dv rfl (opv_fieldAddr_lp fi46_7 rfl) ?_
          refine dv rfl (opv_load1 ti41 rfl (.lp _ _ _ rfl) rfl) ?_
          refine dv rfl (opv_mv rfl) ?_
          obtain ⟨u21, hu21, h⟩ := bind_eq h
          refine dv rfl (opv_ix (f := (eL eU8)) si41 (fun _ => rfl) rfl rfl rfl rfl hu21) ?_
          refine dv rfl (opv_load1 ti38 rfl (.cp _) rfl) ?_
          refine dv rfl (opv_bs (l := u21) Try.underlying38 Try.underlying5 Try.underlying9 rfl rfl rfl) ?_
          refine dv rfl (opv_seql' rfl rfl) ?_
          refine dv rfl (opv_mv rfl) ?_
          refine dsplit 37 rfl (fun hc => ?_) (fun hc => ?_)
          · replace h := ite_t hc h
            clear hc
            refine dvg rfl rfl rfl (opv_fieldAddr_lp fi46_2 rfl) ?_
            refine dvg rfl rfl rfl (opv_load1 ti3 rfl (.lp _ _ _ rfl) rfl) ?_
            refine dvg rfl rfl rfl (opv_fieldAddr_lp fi46_2 rfl) ?_
            refine dvg rfl rfl rfl (opv_load1 ti3 rfl (.lp _ _ _ rfl) rfl) ?_
            refine dvg rfl rfl rfl (opv_lss rfl rfl) ?_
            refine dv rfl (opv_pick_t rfl rfl) ?_
            refine dnil ?_
            refine then_normal ?_
            refine ccond rfl (fun hc => ?_) (fun hc => ?_)
            · replace h := ite_t hc h
              clear hc
              refine cseq ?_
              refine cregion ?_
              refine sv rfl (opv_as rfl) ?_
              refine snil ?_
              refine cret ?_
              refine block_ret ?_
              refine then_ret ?_
              refine then_ret ?_
              refine block_ret ?_
              refine block_ret ?_
              refine then_ret ?_
              refine then_ret ?_
              refine block_ret ?_
              refine then_ret ?_
              obtain rfl := Option.some.inj h
              obtain rfl : Sum.inl _ = x19 := hk19
              replace ho19 : some _ = some _ := ho19
              obtain rfl := Option.some.inj ho19
              obtain rfl : Sum.inl _ = x17 := hk17
              replace ho17 : some _ = some _ := ho17
              obtain rfl := Option.some.inj ho17
              exact ⟨Or.inr rfl, _, [0, 1, 2, 3], [.one (.b true)], [.box [.sl a2.length (a2.flatMap eGSsiTx), .sl a3.length (a3.flatMap eGReadsRead), .i .i64 a4, .ls 1 a5.length, .ls 2 a6.length, .ls 3 a7.length], .arr 3 1 0 (a5.flatMap eI), .arr 46 8 (a6.flatMap eGR11Tx).length (a6.flatMap eGR11Tx), .arr 76 4 0 (a7.flatMap eGR10Read)], (resVs_cons (ResV.tmp _ _ rfl) resVs_nil), rfl, rfl, ⟨by decide, rfl⟩, rfl, rfl, ⟨rfl, rfl⟩⟩
            · replace h := ite_f hc h
              clear hc
              refine cskip ?_
              refine block_normal ?_
              refine then_normal ?_
              refine cregion ?_
              refine sv rfl (opv_mv rfl) ?_
              refine sv rfl (opv_add rfl rfl) ?_
              refine sv rfl (opv_as rfl) ?_
              refine snil ?_
              obtain rfl := Option.some.inj h
              exact ⟨(n19, (wI (s19 + 1))), _, hk19, ⟨rfl, rfl, rfl, rfl, rfl, trivial⟩, rfl, Nat.lt_succ_self _⟩
          · replace h := ite_f hc h
            clear hc
            refine doff rfl rfl rfl rfl ?_
            refine doff rfl rfl rfl rfl ?_
            refine doff rfl rfl rfl rfl ?_
            refine doff rfl rfl rfl rfl ?_
            refine doff rfl rfl rfl rfl ?_
            refine dv rfl (opv_pick_f rfl rfl) ?_
            refine dnil ?_
            refine then_normal ?_
            refine ccond rfl (fun hx => Bool.noConfusion hx) (fun _ => ?_)
            refine cskip ?_
            refine block_normal ?_
            refine then_normal ?_
            refine cregion ?_
            refine sv rfl (opv_mv rfl) ?_
            refine sv rfl (opv_add rfl rfl) ?_
            refine sv rfl (opv_as rfl) ?_
            refine snil ?_
            obtain rfl := Option.some.inj h
            exact ⟨(n19, (wI (s19 + 1))), _, hk19, ⟨rfl, rfl, rfl, rfl, rfl, trivial⟩, rfl, Nat.lt_succ_self _⟩
        · replace h := ite_f hc h
          clear hc
          refine cexit ?_
          refine then_exit ?_
          refine then_exit ?_
          refine block_hit ?_
          refine block_normal ?_
          refine then_normal ?_
          obtain rfl := Option.some.inj h
          obtain rfl : _ = x19 := hk19
          exact ⟨(), _, ho19, ⟨rfl, rfl, rfl, rfl, trivial⟩, rfl⟩
    · replace h := ite_f hc h
      clear hc
      refine cexit ?_
      refine then_exit ?_
      refine then_exit ?_
      refine block_hit ?_
      refine then_normal ?_
      obtain rfl := Option.some.inj h
      obtain rfl : _ = x17 := hk17
      exact ⟨(), _, ho17, ⟨rfl, rfl, rfl, trivial⟩, rfl⟩

def m3_l11_SsiOrders_k4 (v1 : Bool) (b3 : (List GSsiTx) × (List GReadsRead) × Int × (List Int) × (List GR11Tx) × (List GR10Read)) (b4 : (List GR11Tx)) : Option Bool :=
  if v1 then (if (decide ((b4.length : Int) = 0)) then ((m13_ssi_Sane (GSsiCert.mk b3.1 (GReadsTable.mk b3.2.1))).bind fun v5 => some v5) else (some false)) else (some false)

def m3_l11_SsiOrders_k8 (s6 : (List GR11Tx) × Int) (b8 : (List GR11Tx)) : Option (LR ((List GR11Tx) × Int) ((List GR11Tx)) (Bool)) :=
  if (decide ((b8.length : Int) = (s6.1.length : Int))) then (some (.ret false)) else (some (.cont (b8, (wI (s6.2 + 1)))))

def m3_l11_SsiOrders_k10 (s6 : (List GR11Tx) × Int) (s9 : Int × (List GR11Tx)) (b10 : Bool) : Option (LB (Int × (List GR11Tx)) ((List GR11Tx))) :=
  if b10 then ((idx s6.1 s9.1).bind fun u11 => if (s9.2.length + [u11].length) * 64 ≤ 140737488355328 then (some (.cont ((wI (s9.1 + 1)), (s9.2 ++ [u11])))) else none) else (some (.cont ((wI (s9.1 + 1)), s9.2)))

def m3_l11_SsiOrders_s13 (b3 : (List GSsiTx) × (List GReadsRead) × Int × (List Int) × (List GR11Tx) × (List GR10Read)) (s6 : (List GR11Tx) × Int) (s9 : Int × (List GR11Tx)) (s13 : Bool × Int) : Option (LB (Bool × Int) (Bool)) :=
  if (decide (s13.2 < (s6.1.length : Int))) then (if s13.1 then (some (.cont (true, (wI (s13.2 + 1))))) else (if (!decide (s13.2 = s9.1)) then ((idx s6.1 s13.2).bind fun u16 => (idx s6.1 s9.1).bind fun u17 => (m12_l11_world_aheads1 u16 u17 b3.1 b3.2.1 b3.2.2.1 b3.2.2.2.1 b3.2.2.2.2.1 b3.2.2.2.2.2).bind fun v18 => some (.cont (v18, (wI (s13.2 + 1))))) else (some (.cont (false, (wI (s13.2 + 1))))))) else (some (.brk s13.1))

def m3_l11_SsiOrders_s9 (b3 : (List GSsiTx) × (List GReadsRead) × Int × (List Int) × (List GR11Tx) × (List GR10Read)) (s6 : (List GR11Tx) × Int) (s9 : Int × (List GR11Tx)) : Option (LB (Int × (List GR11Tx)) ((List GR11Tx))) :=
  if (decide (s9.1 < (s6.1.length : Int))) then ((iterB (m3_l11_SsiOrders_s13 b3 s6 s9) fuel (false, 0)).bind fun e19 => m3_l11_SsiOrders_k10 s6 s9 e19) else (some (.brk s9.2))

def m3_l11_SsiOrders_k7 (b3 : (List GSsiTx) × (List GReadsRead) × Int × (List Int) × (List GR11Tx) × (List GR10Read)) (s6 : (List GR11Tx) × Int) (b7 : Unit) : Option (LR ((List GR11Tx) × Int) ((List GR11Tx)) (Bool)) :=
  (iterB (m3_l11_SsiOrders_s9 b3 s6) fuel (0, ([] : List GR11Tx))).bind fun e20 => m3_l11_SsiOrders_k8 s6 e20

def m3_l11_SsiOrders_s6 (b3 : (List GSsiTx) × (List GReadsRead) × Int × (List Int) × (List GR11Tx) × (List GR10Read)) (s6 : (List GR11Tx) × Int) : Option (LR ((List GR11Tx) × Int) ((List GR11Tx)) (Bool)) :=
  if (decide (s6.2 ≤ (b3.2.2.2.2.1.length : Int))) then (if (decide (0 < (s6.1.length : Int))) then (m3_l11_SsiOrders_k7 b3 s6 ()) else (some (.brk s6.1))) else (some (.brk s6.1))

def m3_l11_SsiOrders_k3 (v1 : Bool) (b3 : (List GSsiTx) × (List GReadsRead) × Int × (List Int) × (List GR11Tx) × (List GR10Read)) : Option Bool :=
  (iter (m3_l11_SsiOrders_s6 b3) fuel (b3.2.2.2.2.1, 0)).bind fun x => match x with | .inl r => some r | .inr e21 => m3_l11_SsiOrders_k4 v1 b3 e21

def m3_l11_SsiOrders_s22 (a0 : List GL11Act) (s22 : Int × (List GSsiTx) × (List GReadsRead) × Int × (List Int) × (List GR11Tx) × (List GR10Read)) : Option (LB (Int × (List GSsiTx) × (List GReadsRead) × Int × (List Int) × (List GR11Tx) × (List GR10Read)) ((List GSsiTx) × (List GReadsRead) × Int × (List Int) × (List GR11Tx) × (List GR10Read))) :=
  if (decide (s22.1 < (a0.length : Int))) then ((idx a0 s22.1).bind fun u23 => (m11_l11_world_dos (GL11Act.mk u23.What u23.N u23.RO (GApiRange.mk u23.Rng.Lo u23.Rng.Hi u23.Rng.Open) u23.Keys) s22.2.1 s22.2.2.1 s22.2.2.2.1 s22.2.2.2.2.1 s22.2.2.2.2.2.1 s22.2.2.2.2.2.2).bind fun v24 => some (.cont ((wI (s22.1 + 1)), v24.1, v24.2.1, v24.2.2.1, v24.2.2.2.1, v24.2.2.2.2.1, v24.2.2.2.2.2))) else (some (.brk (s22.2.1, s22.2.2.1, s22.2.2.2.1, s22.2.2.2.2.1, s22.2.2.2.2.2.1, s22.2.2.2.2.2.2)))
def m3_l11_SsiOrders (a0 : List GL11Act) : Option Bool :=
  (m9_l11_awake).bind fun v1 => (m10_l11_small a0).bind fun v2 => if (!v2) then (some v1) else ((iterB (m3_l11_SsiOrders_s22 a0) fuel (0, ([] : List GSsiTx), ([] : List GReadsRead), 0, ([] : List Int), ([] : List GR11Tx), ([] : List GR10Read))).bind fun e25 => m3_l11_SsiOrders_k3 v1 e25)

set_option maxRecDepth 100000 in
theorem m3_l11_SsiOrders_c {a0 : List GL11Act} {r : Bool} (h : m3_l11_SsiOrders a0 = some r) : CallsA Try.prog 3 [.one (.sl a0.length (a0.flatMap eGL11Act))] (· = .s (.one (.b r))) := by
  unfold m3_l11_SsiOrders at h
  refine callsA_of Try.func3 rfl (nt := 106) rfl (Nat.le_of_ble_eq_true rfl) ?_
  intro w0 S0
  refine cseq ?_
  refine cregion ?_
  refine sv rfl (opv_as rfl) ?_
  refine snil ?_
  refine cseq ?_
  refine cregion ?_
  obtain ⟨v1, hv1, h⟩ := bind_eq h
  refine scall1 rfl fn9 opnds_nil (pubA_id rfl) (m9_l11_awake_c hv1) ?_
  refine sv rfl (opv_as rfl) ?_
  refine snil ?_
  refine cseq ?_
  refine cseq ?_
  refine cregion ?_
  refine sv rfl (opv_mv rfl) ?_
  obtain ⟨v2, hv2, h⟩ := bind_eq h
  refine scall1 rfl fn10 (opnds_cons rfl opnds_nil) (pubA_id rfl) (m10_l11_small_c hv2) ?_
  refine sv rfl (opv_not rfl) ?_
  refine snil ?_
  refine ccond rfl (fun hc => ?_) (fun hc => ?_)
  · replace h := ite_t hc h
    clear hc
    refine cseq ?_
    refine cregion ?_
    refine sv rfl (opv_mv rfl) ?_
    refine sv rfl (opv_as rfl) ?_
    refine snil ?_
    refine cret ?_
    refine then_ret ?_
    obtain rfl := Option.some.inj h
    refine ⟨Or.inr rfl, _, _, _, (resVs_cons (ResV.tmp _ _ rfl) resVs_nil), (pubA_id rfl), ?_⟩
    rfl
  · replace h := ite_f hc h
    clear hc
    refine cskip ?_
    refine then_normal ?_
    refine cseq ?_
    refine cregion ?_
    refine sv rfl (opv_build zi36 pi36 parts_nil (.nil _)) ?_
    refine sbox rfl rfl ?_
    refine sv rfl (opv_as rfl) ?_
    refine snil ?_
    refine cseq ?_
    refine cseq ?_
    refine cregion ?_
    refine sv rfl (opv_as rfl) ?_
    refine snil ?_
    refine sadopt_box_c 3 1 0 3 (by decide) rfl rfl ?_
    refine sadopt_box_c 46 8 0 4 (by decide) rfl rfl ?_
    refine sadopt_box_c 76 4 0 5 (by decide) rfl rfl ?_
    refine cjoin ((List GSsiTx) × (List GReadsRead) × Int × (List Int) × (List GR11Tx) × (List GR10Read)) (fun b3 => [(3, .s (.one (.b v1))), (4, .s (.one (.lp 0 0)))]) (fun b3 => [.box [.sl b3.1.length (b3.1.flatMap eGSsiTx), .sl b3.2.1.length (b3.2.1.flatMap eGReadsRead), .i .i64 b3.2.2.1, .ls 1 b3.2.2.2.1.length, .ls 2 b3.2.2.2.2.1.length, .ls 3 b3.2.2.2.2.2.length], .arr 3 1 0 (b3.2.2.2.1.flatMap eI), .arr 46 8 0 (b3.2.2.2.2.1.flatMap eGR11Tx), .arr 76 4 0 (b3.2.2.2.2.2.flatMap eGR10Read)]) (fun b3 => m3_l11_SsiOrders_k3 v1 b3 = some r) (fun _ _ => inbL_of rfl) (fun _ _ => blkinb_of rfl) (fun _ _ => Nat.le_of_ble_eq_true rfl) (fun b3 h => ?_) ?_
    · unfold m3_l11_SsiOrders_k3 at h
      refine cseq ?_
      refine cregion ?_
      refine sv rfl (opv_mv rfl) ?_
      refine sv rfl (opv_nilCheck rfl rfl (fun _ _ _ h => by cases h)) ?_
      refine sv rfl (opv_fieldAddr_lp fi36_3 rfl) ?_
      refine sv rfl (opv_load1 ti33 rfl (.lp _ _ _ rfl) rfl) ?_
      refine sv rfl (opv_as rfl) ?_
      refine snil ?_
      refine cseq ?_
      refine cseq ?_
      refine cregion ?_
      refine sv rfl (opv_as rfl) ?_
      refine snil ?_
      refine cjoin ((List GR11Tx)) (fun b4 => [(3, .s (.one (.b v1))), (4, .s (.one (.lp 0 0))), (6, .s (.one (.sl b4.length (b4.flatMap eGR11Tx))))]) (fun b4 => [.box [.sl b3.1.length (b3.1.flatMap eGSsiTx), .sl b3.2.1.length (b3.2.1.flatMap eGReadsRead), .i .i64 b3.2.2.1, .ls 1 b3.2.2.2.1.length, .ls 2 b3.2.2.2.2.1.length, .ls 3 b3.2.2.2.2.2.length], .arr 3 1 0 (b3.2.2.2.1.flatMap eI), .arr 46 8 (b3.2.2.2.2.1.flatMap eGR11Tx).length (b3.2.2.2.2.1.flatMap eGR11Tx), .arr 76 4 0 (b3.2.2.2.2.2.flatMap eGR10Read)]) (fun b4 => m3_l11_SsiOrders_k4 v1 b3 b4 = some r) (fun _ _ => inbL_of rfl) (fun _ _ => blkinb_of rfl) (fun _ _ => Nat.le_of_ble_eq_true rfl) (fun b4 h => ?_) ?_
      · unfold m3_l11_SsiOrders_k4 at h
        refine cseq ?_
        refine cregion ?_
        refine sv rfl (opv_mv rfl) ?_
        refine sv rfl (opv_mv rfl) ?_
        refine ssplit 94 rfl (fun hc => ?_) (fun hc => ?_)
        · replace h := ite_t hc h
          clear hc
          refine son rfl rfl rfl ?_
          refine sv rfl (opv_mv rfl) ?_
          refine son rfl rfl rfl ?_
          refine sv rfl (opv_len_sl si33 rfl) ?_
          refine son rfl rfl rfl ?_
          refine sv rfl (opv_ieql rfl rfl) ?_
          refine sv rfl (opv_pick_t rfl rfl) ?_
          refine sv rfl (opv_mv rfl) ?_
          refine ssplit 99 rfl (fun hc => ?_) (fun hc => ?_)
          · replace h := ite_t hc h
            clear hc
            refine son rfl rfl rfl ?_
            refine sv rfl (opv_mv rfl) ?_
            refine son rfl rfl rfl ?_
            refine sv rfl (opv_nilCheck rfl rfl (fun _ _ _ h => by cases h)) ?_
            refine son rfl rfl rfl ?_
            refine sv rfl (opv_fieldAddr_lp fi36_0 rfl) ?_
            refine son rfl rfl rfl ?_
            refine sv rfl (opv_loadN ti31 rfl (.lp _ _ _ rfl) (Nat.le_of_ble_eq_true rfl)) ?_
            refine son rfl rfl rfl ?_
            obtain ⟨v5, hv5, h⟩ := bind_eq h
            refine scall1 rfl fn13 (opnds_cons rfl opnds_nil) (pubA_id rfl) (m13_ssi_Sane_c hv5) ?_
            refine sv rfl (opv_pick_t rfl rfl) ?_
            refine sv rfl (opv_as rfl) ?_
            refine snil ?_
            refine cret ?_
            obtain rfl := Option.some.inj h
            refine ⟨Or.inr rfl, _, _, _, (resVs_cons (ResV.tmp _ _ rfl) resVs_nil), (pubA_id rfl), ?_⟩
            rfl
          · replace h := ite_f hc h
            clear hc
            refine soff rfl rfl rfl rfl ?_
            refine soff rfl rfl rfl rfl ?_
            refine soff rfl rfl rfl rfl ?_
            refine soff rfl rfl rfl rfl ?_
            refine soff rfl rfl rfl rfl ?_
            refine sv rfl (opv_pick_f rfl rfl) ?_
            refine sv rfl (opv_as rfl) ?_
            refine snil ?_
            refine cret ?_
            obtain rfl := Option.some.inj h
            refine ⟨Or.inr rfl, _, _, _, (resVs_cons (ResV.tmp _ _ rfl) resVs_nil), (pubA_id rfl), ?_⟩
            rfl
        · replace h := ite_f hc h
          clear hc
          refine soff rfl rfl rfl rfl ?_
          refine soff rfl rfl rfl rfl ?_
          refine soff rfl rfl rfl rfl ?_
          refine sv rfl (opv_pick_f rfl rfl) ?_
          refine sv rfl (opv_mv rfl) ?_
          refine soff rfl rfl rfl rfl ?_
          refine soff rfl rfl rfl rfl ?_
          refine soff rfl rfl rfl rfl ?_
          refine soff rfl rfl rfl rfl ?_
          refine soff rfl rfl rfl rfl ?_
          refine sv rfl (opv_pick_f rfl rfl) ?_
          refine sv rfl (opv_as rfl) ?_
          refine snil ?_
          refine cret ?_
          obtain rfl := Option.some.inj h
          refine ⟨Or.inr rfl, _, _, _, (resVs_cons (ResV.tmp _ _ rfl) resVs_nil), (pubA_id rfl), ?_⟩
          rfl
      · skip
        refine cblock ?_
        refine cpub 6 rfl (by (repeat' first | exact PubA.nil _ | apply PubA.cons | apply PubV.one | apply PubV.agg | exact PubL.nil | exact PubL.ls _ _ _ _ _ _ rfl (flat_len (f := eGR10Read) (fun _ => rfl) _).symm | exact PubL.ls _ _ _ _ _ _ rfl (flat_len (f := eGR11Tx) (fun _ => rfl) _).symm | exact PubL.ls _ _ _ _ _ _ rfl (flat_len (f := eI) (fun _ => rfl) _).symm | exact PubL.id _ rfl | exact PubLs.nil _ | apply PubLs.cons)) ?_
        obtain ⟨x6, hx6, ho6⟩ := bind_eq h
        refine awc_loop (G := Nat × ((List GR11Tx) × Int)) (fun g => [(3, .s (.one (.b v1))), (4, .s (.one (.lp 0 0))), (6, .s (.one (.sl g.2.1.length (g.2.1.flatMap eGR11Tx)))), (7, .s (.one (.i .i64 g.2.2)))]) (fun g => [.box [.sl b3.1.length (b3.1.flatMap eGSsiTx), .sl b3.2.1.length (b3.2.1.flatMap eGReadsRead), .i .i64 b3.2.2.1, .ls 1 b3.2.2.2.1.length, .ls 2 b3.2.2.2.2.1.length, .ls 3 b3.2.2.2.2.2.length], .arr 3 1 0 (b3.2.2.2.1.flatMap eI), .arr 46 8 (b3.2.2.2.2.1.flatMap eGR11Tx).length (b3.2.2.2.2.1.flatMap eGR11Tx), .arr 76 4 0 (b3.2.2.2.2.2.flatMap eGR10Read)]) (fun g => iter (m3_l11_SsiOrders_s6 b3) g.1 g.2 = some x6) (fun g => g.1) (fuel, (b3.2.2.2.2.1, 0)) hx6 ⟨rfl, rfl, rfl, rfl, trivial⟩ [] rfl (fun _ _ => inbL_of rfl) (fun _ _ => blkinb_of rfl) (fun _ _ => Nat.le_of_ble_eq_true rfl) ?_
        clear hx6 h
        rintro ⟨n6, s6⟩ h
        obtain ⟨n6, y6, rfl, h, hk6⟩ := iter_eq h
        unfold m3_l11_SsiOrders_s6 at h
        refine cseq ?_
        refine cseq ?_
        refine cjoin3 (Unit) (fun b7 => [(3, .s (.one (.b v1))), (4, .s (.one (.lp 0 0))), (6, .s (.one (.sl s6.1.length (s6.1.flatMap eGR11Tx)))), (7, .s (.one (.i .i64 s6.2)))]) (fun b7 => [.box [.sl b3.1.length (b3.1.flatMap eGSsiTx), .sl b3.2.1.length (b3.2.1.flatMap eGReadsRead), .i .i64 b3.2.2.1, .ls 1 b3.2.2.2.1.length, .ls 2 b3.2.2.2.2.1.length, .ls 3 b3.2.2.2.2.2.length], .arr 3 1 0 (b3.2.2.2.1.flatMap eI), .arr 46 8 (b3.2.2.2.2.1.flatMap eGR11Tx).length (b3.2.2.2.2.1.flatMap eGR11Tx), .arr 76 4 0 (b3.2.2.2.2.2.flatMap eGR10Read)]) (fun b7 => m3_l11_SsiOrders_k7 b3 s6 b7 = some y6) (fun _ _ => inbL_of rfl) (fun _ _ => blkinb_of rfl) (fun _ _ => Nat.le_of_ble_eq_true rfl) (fun b7 h => ?_) ?_
        · unfold m3_l11_SsiOrders_k7 at h
          refine cseq ?_
          refine cblock ?_
          refine cseq ?_
          refine cregion ?_
          refine sv rfl (opv_as rfl) ?_
          refine snil ?_
          refine cseq ?_
          refine cseq ?_
          refine cregion ?_
          refine sv rfl (opv_as rfl) ?_
          refine snil ?_
          refine sadopt_c 46 8 8 (by decide) rfl ?_
          refine cjoin ((List GR11Tx)) (fun b8 => [(3, .s (.one (.b v1))), (4, .s (.one (.lp 0 0))), (6, .s (.one (.sl s6.1.length (s6.1.flatMap eGR11Tx)))), (7, .s (.one (.i .i64 s6.2))), (8, .s (.one (.ls 4 b8.length)))]) (fun b8 => [.box [.sl b3.1.length (b3.1.flatMap eGSsiTx), .sl b3.2.1.length (b3.2.1.flatMap eGReadsRead), .i .i64 b3.2.2.1, .ls 1 b3.2.2.2.1.length, .ls 2 b3.2.2.2.2.1.length, .ls 3 b3.2.2.2.2.2.length], .arr 3 1 0 (b3.2.2.2.1.flatMap eI), .arr 46 8 (b3.2.2.2.2.1.flatMap eGR11Tx).length (b3.2.2.2.2.1.flatMap eGR11Tx), .arr 76 4 0 (b3.2.2.2.2.2.flatMap eGR10Read), .arr 46 8 0 (b8.flatMap eGR11Tx)]) (fun b8 => m3_l11_SsiOrders_k8 s6 b8 = some y6) (fun _ _ => inbL_of rfl) (fun _ _ => blkinb_of rfl) (fun _ _ => Nat.le_of_ble_eq_true rfl) (fun b8 h => ?_) ?_
          · unfold m3_l11_SsiOrders_k8 at h
            refine cseq ?_
            refine cseq ?_
            refine cregion ?_
            refine sv rfl (opv_mv rfl) ?_
            refine sv rfl (opv_len_ls si33 rfl rfl (flat_len (f := eGR11Tx) (fun _ => rfl) _).symm) ?_
            refine sv rfl (opv_mv rfl) ?_
            refine sv rfl (opv_len_sl si33 rfl) ?_
            refine sv rfl (opv_ieql rfl rfl) ?_
            refine snil ?_
            refine ccond rfl (fun hc => ?_) (fun hc => ?_)
            · replace h := ite_t hc h
              clear hc
              refine cseq ?_
              refine cregion ?_
              refine sv rfl (opv_as rfl) ?_
              refine snil ?_
              refine cret ?_
              refine then_ret ?_
              refine block_ret ?_
              refine then_ret ?_
              refine then_ret ?_
              refine block_ret ?_
              refine then_ret ?_
              obtain rfl := Option.some.inj h
              obtain rfl : Sum.inl _ = x6 := hk6
              replace ho6 : some _ = some _ := ho6
              obtain rfl := Option.some.inj ho6
              refine ⟨Or.inr rfl, _, _, _, (resVs_cons (ResV.tmp _ _ rfl) resVs_nil), (pubA_id rfl), ?_⟩
              rfl
            · replace h := ite_f hc h
              clear hc
              refine cskip ?_
              refine then_normal ?_
              refine cregion ?_
              refine sv rfl (opv_mv rfl) ?_
              refine sv rfl (opv_as rfl) ?_
              refine snil0 ?_
              refine block_normal ?_
              refine then_normal ?_
              refine cregion ?_
              refine sv rfl (opv_mv rfl) ?_
              refine sv rfl (opv_add rfl rfl) ?_
              refine sv rfl (opv_as rfl) ?_
              refine spub 6 rfl (by (repeat' first | exact PubA.nil _ | apply PubA.cons | apply PubV.one | apply PubV.agg | exact PubL.nil | exact PubL.ls _ _ _ _ _ _ rfl (flat_len (f := eGR10Read) (fun _ => rfl) _).symm | exact PubL.ls _ _ _ _ _ _ rfl (flat_len (f := eGR11Tx) (fun _ => rfl) _).symm | exact PubL.ls _ _ _ _ _ _ rfl (flat_len (f := eI) (fun _ => rfl) _).symm | exact PubL.id _ rfl | exact PubLs.nil _ | apply PubLs.cons)) ?_
              refine snil ?_
              obtain rfl := Option.some.inj h
              exact ⟨(n6, (b8, (wI (s6.2 + 1)))), _, hk6, ⟨rfl, rfl, rfl, rfl, trivial⟩, rfl, Nat.lt_succ_self _⟩
          · skip
            refine cblock ?_
            obtain ⟨x9, hx9, ho9⟩ := bind_eq h
            refine awc_loop (G := Nat × (Int × (List GR11Tx))) (fun g => [(3, .s (.one (.b v1))), (4, .s (.one (.lp 0 0))), (6, .s (.one (.sl s6.1.length (s6.1.flatMap eGR11Tx)))), (7, .s (.one (.i .i64 s6.2))), (8, .s (.one (.ls 4 g.2.2.length))), (9, .s (.one (.i .i64 g.2.1)))]) (fun g => [.box [.sl b3.1.length (b3.1.flatMap eGSsiTx), .sl b3.2.1.length (b3.2.1.flatMap eGReadsRead), .i .i64 b3.2.2.1, .ls 1 b3.2.2.2.1.length, .ls 2 b3.2.2.2.2.1.length, .ls 3 b3.2.2.2.2.2.length], .arr 3 1 0 (b3.2.2.2.1.flatMap eI), .arr 46 8 (b3.2.2.2.2.1.flatMap eGR11Tx).length (b3.2.2.2.2.1.flatMap eGR11Tx), .arr 76 4 0 (b3.2.2.2.2.2.flatMap eGR10Read), .arr 46 8 0 (g.2.2.flatMap eGR11Tx)]) (fun g => iterB (m3_l11_SsiOrders_s9 b3 s6) g.1 g.2 = some x9) (fun g => g.1) (fuel, (0, ([] : List GR11Tx))) hx9 ⟨rfl, rfl, rfl, rfl, rfl, rfl, trivial⟩ [] rfl (fun _ _ => inbL_of rfl) (fun _ _ => blkinb_of rfl) (fun _ _ => Nat.le_of_ble_eq_true rfl) ?_
            clear hx9 h
            rintro ⟨n9, s9⟩ h
            obtain ⟨n9, y9, rfl, h, hk9⟩ := iterB_eq h
            unfold m3_l11_SsiOrders_s9 at h
            refine cseq ?_
            refine cseq ?_
            refine cregion ?_
            refine sv rfl (opv_mv rfl) ?_
            refine sv rfl (opv_mv rfl) ?_
            refine sv rfl (opv_len_sl si33 rfl) ?_
            refine sv rfl (opv_lss rfl rfl) ?_
            refine snil ?_
            refine ccond rfl (fun hc => ?_) (fun hc => ?_)
            · replace h := ite_t hc h
              clear hc
              refine cskip ?_
              refine then_normal ?_
              refine cseq ?_
              refine cblock ?_
              refine cseq ?_
              refine cregion ?_
              refine sv rfl (opv_as rfl) ?_
              refine snil ?_
              refine cseq ?_
              refine cseq ?_
              refine cregion ?_
              refine sv rfl (opv_as rfl) ?_
              refine snil ?_
              refine cjoin (Bool) (fun b10 => [(3, .s (.one (.b v1))), (4, .s (.one (.lp 0 0))), (6, .s (.one (.sl s6.1.length (s6.1.flatMap eGR11Tx)))), (7, .s (.one (.i .i64 s6.2))), (8, .s (.one (.ls 4 s9.2.length))), (9, .s (.one (.i .i64 s9.1))), (10, .s (.one (.b b10)))]) (fun b10 => [.box [.sl b3.1.length (b3.1.flatMap eGSsiTx), .sl b3.2.1.length (b3.2.1.flatMap eGReadsRead), .i .i64 b3.2.2.1, .ls 1 b3.2.2.2.1.length, .ls 2 b3.2.2.2.2.1.length, .ls 3 b3.2.2.2.2.2.length], .arr 3 1 0 (b3.2.2.2.1.flatMap eI), .arr 46 8 (b3.2.2.2.2.1.flatMap eGR11Tx).length (b3.2.2.2.2.1.flatMap eGR11Tx), .arr 76 4 0 (b3.2.2.2.2.2.flatMap eGR10Read), .arr 46 8 0 (s9.2.flatMap eGR11Tx)]) (fun b10 => m3_l11_SsiOrders_k10 s6 s9 b10 = some y9) (fun _ _ => inbL_of rfl) (fun _ _ => blkinb_of rfl) (fun _ _ => Nat.le_of_ble_eq_true rfl) (fun b10 h => ?_) ?_
              · unfold m3_l11_SsiOrders_k10 at h
                refine cseq ?_
                refine cregion ?_
                refine sv rfl (opv_mv rfl) ?_
                refine snil ?_
                refine ccond rfl (fun hc => ?_) (fun hc => ?_)
                · replace h := ite_t hc h
                  clear hc
                  refine cregion ?_
                  refine sv rfl (opv_mv rfl) ?_
                  refine sv rfl (opv_mv rfl) ?_
                  refine sv rfl (opv_mv rfl) ?_
                  obtain ⟨u11, hu11, h⟩ := bind_eq h
                  refine sv rfl (opv_ix (f := eGR11Tx) si33 (fun _ => rfl) rfl rfl rfl rfl hu11) ?_
                  refine sv rfl (opv_loadNe (ys := [.i .i64 u11.ID, .i .i64 u11.Begin, .i .i64 u11.End, .i .i64 u11.State, .b u11.In, .b u11.Out, .b u11.RO, .sl u11.Keys.length (u11.Keys.flatMap (eL eU8))]) ti46 rfl (.cp _) rfl rfl) ?_
                  refine sbuild1 rfl Try.underlying33 ei46 rfl rfl (List.all_eq_true.1 rfl) (by decide) ?_
                  refine smem [.box [.sl b3.1.length (b3.1.flatMap eGSsiTx), .sl b3.2.1.length (b3.2.1.flatMap eGReadsRead), .i .i64 b3.2.2.1, .ls 1 b3.2.2.2.1.length, .ls 2 b3.2.2.2.2.1.length, .ls 3 b3.2.2.2.2.2.length], .arr 3 1 0 (b3.2.2.2.1.flatMap eI), .arr 46 8 (b3.2.2.2.2.1.flatMap eGR11Tx).length (b3.2.2.2.2.1.flatMap eGR11Tx), .arr 76 4 0 (b3.2.2.2.2.2.flatMap eGR10Read), .arr 46 8 0 (s9.2.flatMap eGR11Tx), .arr 46 8 0 ([u11].flatMap eGR11Tx)] rfl ?_
                  obtain ⟨hb12, h⟩ := chk_eq h
                  refine sapp (f := eGR11Tx) (xs := s9.2) (us := [u11]) rfl Try.underlying33 ei46 ni33 (fun _ => rfl) rfl rfl (.one _ _ _ _ (.ls _ _ _ _ _ _ rfl (flat_len (f := eGR11Tx) (fun _ => rfl) [u11]).symm)) rfl rfl rfl (.sl _ _ _ (flat_len (f := eGR11Tx) (fun _ => rfl) _)) rfl rfl hb12 (by decide) ?_
                  refine sv rfl (opv_as rfl) ?_
                  refine snil0 ?_
                  refine block_normal ?_
                  refine then_normal ?_
                  refine cregion ?_
                  refine sv rfl (opv_mv rfl) ?_
                  refine sv rfl (opv_add rfl rfl) ?_
                  refine sv rfl (opv_as rfl) ?_
                  refine snil ?_
                  obtain rfl := Option.some.inj h
                  exact ⟨(n9, ((wI (s9.1 + 1)), (s9.2 ++ [u11]))), _, hk9, ⟨rfl, rfl, rfl, rfl, rfl, rfl, trivial⟩, rfl, Nat.lt_succ_self _⟩
                · replace h := ite_f hc h
                  clear hc
                  refine cskip ?_
                  refine block_normal ?_
                  refine then_normal ?_
                  refine cregion ?_
                  refine sv rfl (opv_mv rfl) ?_
                  refine sv rfl (opv_add rfl rfl) ?_
                  refine sv rfl (opv_as rfl) ?_
                  refine snil ?_
                  obtain rfl := Option.some.inj h
                  exact ⟨(n9, ((wI (s9.1 + 1)), s9.2)), _, hk9, ⟨rfl, rfl, rfl, rfl, rfl, rfl, trivial⟩, rfl, Nat.lt_succ_self _⟩
              · skip
                refine cblock ?_
                obtain ⟨x13, hx13, ho13⟩ := bind_eq h
                refine awc_loop (G := Nat × (Bool × Int)) (fun g => [(3, .s (.one (.b v1))), (4, .s (.one (.lp 0 0))), (6, .s (.one (.sl s6.1.length (s6.1.flatMap eGR11Tx)))), (7, .s (.one (.i .i64 s6.2))), (8, .s (.one (.ls 4 s9.2.length))), (9, .s (.one (.i .i64 s9.1))), (10, .s (.one (.b g.2.1))), (11, .s (.one (.i .i64 g.2.2)))]) (fun g => [.box [.sl b3.1.length (b3.1.flatMap eGSsiTx), .sl b3.2.1.length (b3.2.1.flatMap eGReadsRead), .i .i64 b3.2.2.1, .ls 1 b3.2.2.2.1.length, .ls 2 b3.2.2.2.2.1.length, .ls 3 b3.2.2.2.2.2.length], .arr 3 1 0 (b3.2.2.2.1.flatMap eI), .arr 46 8 (b3.2.2.2.2.1.flatMap eGR11Tx).length (b3.2.2.2.2.1.flatMap eGR11Tx), .arr 76 4 0 (b3.2.2.2.2.2.flatMap eGR10Read), .arr 46 8 0 (s9.2.flatMap eGR11Tx)]) (fun g => iterB (m3_l11_SsiOrders_s13 b3 s6 s9) g.1 g.2 = some x13) (fun g => g.1) (fuel, (false, 0)) hx13 ⟨rfl, rfl, rfl, rfl, rfl, rfl, rfl, rfl, trivial⟩ [] rfl (fun _ _ => inbL_of rfl) (fun _ _ => blkinb_of rfl) (fun _ _ => Nat.le_of_ble_eq_true rfl) ?_
                clear hx13 h
                rintro ⟨n13, s13⟩ h
                obtain ⟨n13, y13, rfl, h, hk13⟩ := iterB_eq h
                unfold m3_l11_SsiOrders_s13 at h
                refine cseq ?_
                refine cseq ?_
                refine cregion ?_
                refine sv rfl (opv_mv rfl) ?_
                refine sv rfl (opv_mv rfl) ?_
                refine sv rfl (opv_len_sl si33 rfl) ?_
                refine sv rfl (opv_lss rfl rfl) ?_
                refine snil ?_
                refine ccond rfl (fun hc => ?_) (fun hc => ?_)
                · replace h := ite_t hc h
                  clear hc
                  refine cskip ?_
                  refine then_normal ?_
                  refine cseq ?_
                  refine cblock ?_
                  rcases Bool.eq_false_or_eq_true s13.1 with hg14 | hg14
                  · replace h := ite_t hg14 h
                    refine cdraw_eL [] [0, 1, 3, 3, 15, 31, 63, 63, 63, 447, 959, 63, 63, 6207, 14399, 32767, 65535, 131071] [[.box [.sl b3.1.length (b3.1.flatMap eGSsiTx), .sl b3.2.1.length (b3.2.1.flatMap eGReadsRead), .i .i64 b3.2.2.1, .ls 1 b3.2.2.2.1.length, .ls 2 b3.2.2.2.2.1.length, .ls 3 b3.2.2.2.2.2.length], .arr 3 1 0 (b3.2.2.2.1.flatMap eI), .arr 46 8 (b3.2.2.2.2.1.flatMap eGR11Tx).length (b3.2.2.2.2.1.flatMap eGR11Tx), .arr 76 4 0 (b3.2.2.2.2.2.flatMap eGR10Read), .arr 46 8 0 (s9.2.flatMap eGR11Tx)]] (by kernel_rfl) mixed (List.cons_ne_nil _ _) (by kernel_rfl) (by kernel_rfl) (by decide) rfl rfl rfl rfl ?_
                    refine ev (sees_at 0 rfl rfl) rfl rfl (opv_mv rfl) ?_
                    refine ev (sees_at 0 rfl rfl) rfl rfl (opv_mv rfl) ?_
                    refine esplit 62 rfl (fun _ => ?_) (fun hx => Bool.noConfusion (hg14.symm.trans hx))
                    refine eoffv rfl rfl rfl rfl rfl ?_
                    refine eoffv rfl rfl rfl rfl rfl ?_
                    refine eoffv rfl rfl rfl rfl rfl ?_
                    refine eoffv rfl rfl rfl rfl rfl ?_
                    refine eoffuv rfl rfl rfl rfl ?_
                    refine eoffuv rfl rfl rfl rfl ?_
                    refine eoffuv rfl rfl rfl rfl ?_
                    refine eoffuv rfl rfl rfl rfl ?_
                    refine eoffuv rfl rfl rfl rfl ?_
                    refine eoffuv rfl rfl rfl rfl ?_
                    refine eoffuv rfl rfl rfl rfl ?_
                    refine eoffuv rfl rfl rfl rfl ?_
                    refine eoffuv rfl rfl rfl rfl ?_
                    refine eoffuv rfl rfl rfl rfl ?_
                    refine eoffv rfl rfl rfl rfl rfl ?_
                    refine ev (sees_at 0 rfl rfl) rfl rfl (opv_pick_t rfl rfl) ?_
                    refine enil ?_
                    refine sv rfl (opv_as rfl) ?_
                    refine snil0 ?_
                    refine block_normal ?_
                    refine then_normal ?_
                    refine cregion ?_
                    refine sv rfl (opv_mv rfl) ?_
                    refine sv rfl (opv_add rfl rfl) ?_
                    refine sv rfl (opv_as rfl) ?_
                    refine snil ?_
                    obtain rfl := Option.some.inj h
                    exact ⟨(n13, (true, (wI (s13.2 + 1)))), _, hk13, ⟨rfl, rfl, rfl, rfl, rfl, rfl, rfl, rfl, trivial⟩, rfl, Nat.lt_succ_self _⟩
                  · replace h := ite_f hg14 h
                    rcases Bool.eq_false_or_eq_true (!decide (s13.2 = s9.1)) with hg15 | hg15
                    · replace h := ite_t hg15 h
                      obtain ⟨u16, hu16, h⟩ := bind_eq h
                      obtain ⟨u17, hu17, h⟩ := bind_eq h
                      obtain ⟨v18, hv18, h⟩ := bind_eq h
                      refine cdraw_eL [15] [0, 1, 3, 3, 15, 31, 63, 63, 63, 447, 959, 63, 63, 6207, 14399, 32767, 65535, 131071] [[.box [.sl b3.1.length (b3.1.flatMap eGSsiTx), .sl b3.2.1.length (b3.2.1.flatMap eGReadsRead), .i .i64 b3.2.2.1, .ls 1 b3.2.2.2.1.length, .ls 2 b3.2.2.2.2.1.length, .ls 3 b3.2.2.2.2.2.length], .arr 3 1 0 (b3.2.2.2.1.flatMap eI), .arr 46 8 (b3.2.2.2.2.1.flatMap eGR11Tx).length (b3.2.2.2.2.1.flatMap eGR11Tx), .arr 76 4 0 (b3.2.2.2.2.2.flatMap eGR10Read), .arr 46 8 0 (s9.2.flatMap eGR11Tx)], [.box [.sl b3.1.length (b3.1.flatMap eGSsiTx), .sl b3.2.1.length (b3.2.1.flatMap eGReadsRead), .i .i64 b3.2.2.1, .ls 1 b3.2.2.2.1.length, .ls 2 b3.2.2.2.2.1.length, .ls 3 b3.2.2.2.2.2.length], .arr 3 1 0 (b3.2.2.2.1.flatMap eI), .arr 46 8 (b3.2.2.2.2.1.flatMap eGR11Tx).length (b3.2.2.2.2.1.flatMap eGR11Tx), .arr 76 4 0 (b3.2.2.2.2.2.flatMap eGR10Read), .arr 46 8 0 (s9.2.flatMap eGR11Tx)]] (by kernel_rfl) mixed (List.cons_ne_nil _ _) (by kernel_rfl) (by kernel_rfl) (by decide) rfl rfl rfl rfl ?_
                      refine ev (sees_at 0 rfl rfl) rfl rfl (opv_mv rfl) ?_
                      refine ev (sees_at 0 rfl rfl) rfl rfl (opv_mv rfl) ?_
                      refine esplit 62 rfl (fun hx => Bool.noConfusion (hg14.symm.trans hx)) (fun _ => ?_)
                      refine evg (sees_at 0 rfl rfl) rfl rfl rfl rfl (opv_mv rfl) ?_
                      refine evg (sees_at 0 rfl rfl) rfl rfl rfl rfl (opv_mv rfl) ?_
                      refine evg (sees_at 0 rfl rfl) rfl rfl rfl rfl (opv_ineq rfl rfl) ?_
                      refine evg (sees_at 0 rfl rfl) rfl rfl rfl rfl (opv_mv rfl) ?_
                      refine esplit 66 rfl (fun _ => ?_) (fun hx => Bool.noConfusion (hg15.symm.trans hx))
                      refine evg (sees_at 0 rfl rfl) rfl rfl rfl rfl (opv_mv rfl) ?_
                      refine evg (sees_at 0 rfl rfl) rfl rfl rfl rfl (opv_mv rfl) ?_
                      refine evg (sees_at 0 rfl rfl) rfl rfl rfl rfl (opv_mv rfl) ?_
                      refine evg (sees_at 0 rfl rfl) rfl rfl rfl rfl (opv_ix (f := eGR11Tx) si33 (fun _ => rfl) rfl rfl rfl rfl hu16) ?_
                      refine evg (sees_at 0 rfl rfl) rfl rfl rfl rfl (opv_loadNe (ys := [.i .i64 u16.ID, .i .i64 u16.Begin, .i .i64 u16.End, .i .i64 u16.State, .b u16.In, .b u16.Out, .b u16.RO, .sl u16.Keys.length (u16.Keys.flatMap (eL eU8))]) ti46 rfl (.cp _) rfl rfl) ?_
                      refine evg (sees_at 0 rfl rfl) rfl rfl rfl rfl (opv_mv rfl) ?_
                      refine evg (sees_at 0 rfl rfl) rfl rfl rfl rfl (opv_mv rfl) ?_
                      refine evg (sees_at 0 rfl rfl) rfl rfl rfl rfl (opv_ix (f := eGR11Tx) si33 (fun _ => rfl) rfl rfl rfl rfl hu17) ?_
                      refine evg (sees_at 0 rfl rfl) rfl rfl rfl rfl (opv_loadNe (ys := [.i .i64 u17.ID, .i .i64 u17.Begin, .i .i64 u17.End, .i .i64 u17.State, .b u17.In, .b u17.Out, .b u17.RO, .sl u17.Keys.length (u17.Keys.flatMap (eL eU8))]) ti46 rfl (.cp _) rfl rfl) ?_
                      refine eeg (x := .s (.one (.b v18))) 0 rfl rfl rfl rfl rfl rfl rfl (fun ζ => ?_) ?_
                      · refine scallB (x' := .s (.one (.b v18))) (M' := [.box [.sl b3.1.length (b3.1.flatMap eGSsiTx), .sl b3.2.1.length (b3.2.1.flatMap eGReadsRead), .i .i64 b3.2.2.1, .ls 1 b3.2.2.2.1.length, .ls 2 b3.2.2.2.2.1.length, .ls 3 b3.2.2.2.2.2.length], .arr 3 1 0 (b3.2.2.2.1.flatMap eI), .arr 46 8 (b3.2.2.2.2.1.flatMap eGR11Tx).length (b3.2.2.2.2.1.flatMap eGR11Tx), .arr 76 4 0 (b3.2.2.2.2.2.flatMap eGR10Read), .arr 46 8 0 (s9.2.flatMap eGR11Tx)]) [0, 1, 2, 3] rfl fn12 (.func _) (opnds_cons rfl (opnds_cons rfl (opnds_cons rfl opnds_nil))) (m12_l11_world_aheads1_c hv18) rfl rfl (by decide) rfl rfl rfl ?_
                        exact eend
                      refine evg (sees_at 1 rfl rfl) rfl rfl rfl rfl (opv_pick_t rfl rfl) ?_
                      refine ev (sees_at 1 rfl rfl) rfl rfl (opv_pick_f rfl rfl) ?_
                      refine enil ?_
                      refine sv rfl (opv_as rfl) ?_
                      refine snil0 ?_
                      refine block_normal ?_
                      refine then_normal ?_
                      refine cregion ?_
                      refine sv rfl (opv_mv rfl) ?_
                      refine sv rfl (opv_add rfl rfl) ?_
                      refine sv rfl (opv_as rfl) ?_
                      refine snil ?_
                      obtain rfl := Option.some.inj h
                      exact ⟨(n13, (v18, (wI (s13.2 + 1)))), _, hk13, ⟨rfl, rfl, rfl, rfl, rfl, rfl, rfl, rfl, trivial⟩, rfl, Nat.lt_succ_self _⟩
                    · replace h := ite_f hg15 h
                      refine cdraw_eL [] [0, 1, 3, 3, 15, 31, 63, 63, 63, 447, 959, 63, 63, 6207, 14399, 32767, 65535, 131071] [[.box [.sl b3.1.length (b3.1.flatMap eGSsiTx), .sl b3.2.1.length (b3.2.1.flatMap eGReadsRead), .i .i64 b3.2.2.1, .ls 1 b3.2.2.2.1.length, .ls 2 b3.2.2.2.2.1.length, .ls 3 b3.2.2.2.2.2.length], .arr 3 1 0 (b3.2.2.2.1.flatMap eI), .arr 46 8 (b3.2.2.2.2.1.flatMap eGR11Tx).length (b3.2.2.2.2.1.flatMap eGR11Tx), .arr 76 4 0 (b3.2.2.2.2.2.flatMap eGR10Read), .arr 46 8 0 (s9.2.flatMap eGR11Tx)]] (by kernel_rfl) mixed (List.cons_ne_nil _ _) (by kernel_rfl) (by kernel_rfl) (by decide) rfl rfl rfl rfl ?_
                      refine ev (sees_at 0 rfl rfl) rfl rfl (opv_mv rfl) ?_
                      refine ev (sees_at 0 rfl rfl) rfl rfl (opv_mv rfl) ?_
                      refine esplit 62 rfl (fun hx => Bool.noConfusion (hg14.symm.trans hx)) (fun _ => ?_)
                      refine evg (sees_at 0 rfl rfl) rfl rfl rfl rfl (opv_mv rfl) ?_
                      refine evg (sees_at 0 rfl rfl) rfl rfl rfl rfl (opv_mv rfl) ?_
                      refine evg (sees_at 0 rfl rfl) rfl rfl rfl rfl (opv_ineq rfl rfl) ?_
                      refine evg (sees_at 0 rfl rfl) rfl rfl rfl rfl (opv_mv rfl) ?_
                      refine esplit 66 rfl (fun hx => Bool.noConfusion (hg15.symm.trans hx)) (fun _ => ?_)
                      refine eoffv rfl rfl rfl rfl rfl ?_
                      refine eoffv rfl rfl rfl rfl rfl ?_
                      refine eoffv rfl rfl rfl rfl rfl ?_
                      refine eoffv rfl rfl rfl rfl rfl ?_
                      refine eoffv rfl rfl rfl rfl rfl ?_
                      refine eoffv rfl rfl rfl rfl rfl ?_
                      refine eoffv rfl rfl rfl rfl rfl ?_
                      refine eoffv rfl rfl rfl rfl rfl ?_
                      refine eoffv rfl rfl rfl rfl rfl ?_
                      refine eoffv rfl rfl rfl rfl rfl ?_
                      refine evg (sees_at 0 rfl rfl) rfl rfl rfl rfl (opv_pick_f rfl rfl) ?_
                      refine ev (sees_at 0 rfl rfl) rfl rfl (opv_pick_f rfl rfl) ?_
                      refine enil ?_
                      refine sv rfl (opv_as rfl) ?_
                      refine snil0 ?_
                      refine block_normal ?_
                      refine then_normal ?_
                      refine cregion ?_
                      refine sv rfl (opv_mv rfl) ?_
                      refine sv rfl (opv_add rfl rfl) ?_
                      refine sv rfl (opv_as rfl) ?_
                      refine snil ?_
                      obtain rfl := Option.some.inj h
                      exact ⟨(n13, (false, (wI (s13.2 + 1)))), _, hk13, ⟨rfl, rfl, rfl, rfl, rfl, rfl, rfl, rfl, trivial⟩, rfl, Nat.lt_succ_self _⟩
                · replace h := ite_f hc h
                  clear hc
                  refine cexit ?_
                  refine then_exit ?_
                  refine then_exit ?_
                  refine block_hit ?_
                  refine then_normal ?_
                  obtain rfl := Option.some.inj h
                  obtain rfl : _ = x13 := hk13
                  exact ⟨s13.1, _, ho13, ⟨rfl, rfl, rfl, rfl, rfl, rfl, rfl, trivial⟩, rfl⟩
            · replace h := ite_f hc h
              clear hc
              refine cexit ?_
              refine then_exit ?_
              refine then_exit ?_
              refine block_hit ?_
              refine then_normal ?_
              obtain rfl := Option.some.inj h
              obtain rfl : _ = x9 := hk9
              exact ⟨s9.2, _, ho9, ⟨rfl, rfl, rfl, rfl, rfl, trivial⟩, rfl⟩
        · skip
          refine cregion ?_
          refine sv rfl (opv_mv rfl) ?_
          refine sv rfl (opv_mv rfl) ?_
          refine sv rfl (opv_nilCheck rfl rfl (fun _ _ _ h => by cases h)) ?_
          refine sv rfl (opv_fieldAddr_lp fi36_3 rfl) ?_
          refine sv rfl (opv_load1 ti33 rfl (.lp _ _ _ rfl) rfl) ?_
          refine sv rfl (opv_len_ls si33 rfl rfl (flat_len (f := eGR11Tx) (fun _ => rfl) _).symm) ?_
          refine sv rfl (opv_leq rfl rfl) ?_
          refine sv rfl (opv_mv rfl) ?_
          refine ssplit 42 rfl (fun hc => ?_) (fun hc => ?_)
          · replace h := ite_t hc h
            clear hc
            refine son rfl rfl rfl ?_
            refine sv rfl (opv_mv rfl) ?_
            refine son rfl rfl rfl ?_
            refine sv rfl (opv_len_sl si33 rfl) ?_
            refine son rfl rfl rfl ?_
            refine sv rfl (opv_gtr rfl rfl) ?_
            refine sv rfl (opv_pick_t rfl rfl) ?_
            refine snil ?_
            refine ccond rfl (fun hc => ?_) (fun hc => ?_)
            · replace h := ite_t hc h
              clear hc
              refine cskip ?_
              refine then_normal ?_
              exact ⟨(), _, h, ⟨rfl, rfl, rfl, rfl, trivial⟩, rfl⟩
            · replace h := ite_f hc h
              clear hc
              refine cexit ?_
              refine then_exit ?_
              refine then_exit ?_
              refine block_hit ?_
              refine then_normal ?_
              obtain rfl := Option.some.inj h
              obtain rfl : _ = x6 := hk6
              exact ⟨s6.1, _, ho6, ⟨rfl, rfl, rfl, trivial⟩, rfl⟩
          · replace h := ite_f hc h
            clear hc
            refine soff rfl rfl rfl rfl ?_
            refine soff rfl rfl rfl rfl ?_
            refine soff rfl rfl rfl rfl ?_
            refine sv rfl (opv_pick_f rfl rfl) ?_
            refine snil ?_
            refine ccond rfl (fun hx => Bool.noConfusion hx) (fun _ => ?_)
            refine cexit ?_
            refine then_exit ?_
            refine then_exit ?_
            refine block_hit ?_
            refine then_normal ?_
            obtain rfl := Option.some.inj h
            obtain rfl : _ = x6 := hk6
            exact ⟨s6.1, _, ho6, ⟨rfl, rfl, rfl, trivial⟩, rfl⟩
    · skip
      refine cblock ?_
      refine cpubbox 0 0 rfl rfl PubL.nil rfl ?_
      refine cpubbox 0 1 rfl rfl PubL.nil rfl ?_
      obtain ⟨x22, hx22, ho22⟩ := bind_eq h
      refine awc_loop (G := Nat × (Int × (List GSsiTx) × (List GReadsRead) × Int × (List Int) × (List GR11Tx) × (List GR10Read))) (fun g => [(0, .s (.one (.sl a0.length (a0.flatMap eGL11Act)))), (3, .s (.one (.b v1))), (4, .s (.one (.lp 0 0))), (5, .s (.one (.i .i64 g.2.1)))]) (fun g => [.box [.sl g.2.2.1.length (g.2.2.1.flatMap eGSsiTx), .sl g.2.2.2.1.length (g.2.2.2.1.flatMap eGReadsRead), .i .i64 g.2.2.2.2.1, .ls 1 g.2.2.2.2.2.1.length, .ls 2 g.2.2.2.2.2.2.1.length, .ls 3 g.2.2.2.2.2.2.2.length], .arr 3 1 0 (g.2.2.2.2.2.1.flatMap eI), .arr 46 8 0 (g.2.2.2.2.2.2.1.flatMap eGR11Tx), .arr 76 4 0 (g.2.2.2.2.2.2.2.flatMap eGR10Read)]) (fun g => iterB (m3_l11_SsiOrders_s22 a0) g.1 g.2 = some x22) (fun g => g.1) (fuel, (0, ([] : List GSsiTx), ([] : List GReadsRead), 0, ([] : List Int), ([] : List GR11Tx), ([] : List GR10Read))) hx22 ⟨rfl, rfl, rfl, rfl, trivial⟩ [] rfl (fun _ _ => inbL_of rfl) (fun _ _ => blkinb_of rfl) (fun _ _ => Nat.le_of_ble_eq_true rfl) ?_
      clear hx22 h
      rintro ⟨n22, s22⟩ h
      obtain ⟨n22, y22, rfl, h, hk22⟩ := iterB_eq h
      unfold m3_l11_SsiOrders_s22 at h
      refine cseq ?_
      refine cseq ?_
      refine cregion ?_
      refine sv rfl (opv_mv rfl) ?_
      refine sv rfl (opv_mv rfl) ?_
      refine sv rfl (opv_len_sl si22 rfl) ?_
      refine sv rfl (opv_lss rfl rfl) ?_
      refine snil ?_
      refine ccond rfl (fun hc => ?_) (fun hc => ?_)
      · replace h := ite_t hc h
        clear hc
        refine cskip ?_
        refine then_normal ?_
        refine cseq ?_
        refine cblock ?_
        refine cregion ?_
        refine sv rfl (opv_mv rfl) ?_
        refine sv rfl (opv_mv rfl) ?_
        refine sv rfl (opv_mv rfl) ?_
        obtain ⟨u23, hu23, h⟩ := bind_eq h
        refine sv rfl (opv_ix (f := eGL11Act) si22 (fun _ => rfl) rfl rfl rfl rfl hu23) ?_
        refine sv rfl (opv_loadNe (ys := [.i .i64 u23.What, .i .i64 u23.N, .b u23.RO, .sl u23.Rng.Lo.length (u23.Rng.Lo.flatMap eU8), .sl u23.Rng.Hi.length (u23.Rng.Hi.flatMap eU8), .b u23.Rng.Open, .sl u23.Keys.length (u23.Keys.flatMap (eL eU8))]) ti43 rfl (.cp _) rfl rfl) ?_
        obtain ⟨v24, hv24, h⟩ := bind_eq h
        refine scallB (x' := .tup []) (M' := [.box [.sl v24.1.length (v24.1.flatMap eGSsiTx), .sl v24.2.1.length (v24.2.1.flatMap eGReadsRead), .i .i64 v24.2.2.1, .ls 1 v24.2.2.2.1.length, .ls 2 v24.2.2.2.2.1.length, .ls 3 v24.2.2.2.2.2.length], .arr 3 1 0 (v24.2.2.2.1.flatMap eI), .arr 46 8 0 (v24.2.2.2.2.1.flatMap eGR11Tx), .arr 76 4 0 (v24.2.2.2.2.2.flatMap eGR10Read)]) [0, 1, 2, 3] rfl fn11 (.func _) (opnds_cons rfl (opnds_cons rfl opnds_nil)) (m11_l11_world_dos_c hv24) rfl rfl (by decide) rfl rfl rfl ?_
        refine snil0 ?_
        refine block_normal ?_
        refine then_normal ?_
        refine cregion ?_
        refine sv rfl (opv_mv rfl) ?_
        refine sv rfl (opv_add rfl rfl) ?_
        refine sv rfl (opv_as rfl) ?_
        refine snil ?_
        obtain rfl := Option.some.inj h
        exact ⟨(n22, ((wI (s22.1 + 1)), v24.1, v24.2.1, v24.2.2.1, v24.2.2.2.1, v24.2.2.2.2.1, v24.2.2.2.2.2)), _, hk22, ⟨rfl, rfl, rfl, rfl, trivial⟩, rfl, Nat.lt_succ_self _⟩
      · replace h := ite_f hc h
        clear hc
        refine cexit ?_
        refine then_exit ?_
        refine then_exit ?_
        refine block_hit ?_
        refine then_normal ?_
        obtain rfl := Option.some.inj h
        obtain rfl : _ = x22 := hk22
        exact ⟨(s22.2.1, s22.2.2.1, s22.2.2.2.1, s22.2.2.2.2.1, s22.2.2.2.2.2.1, s22.2.2.2.2.2.2), _, ho22, ⟨rfl, rfl, trivial⟩, rfl⟩

def m4_l11_SsiPivots_k4 (v1 : Bool) (b4 : Unit) : Option Bool :=
  some v1

def m4_l11_SsiPivots_k6 (s5 : Int) (b6 : Unit) : Option (LR (Int) (Unit) (Bool)) :=
  some (.cont (wI (s5 + 1)))

def m4_l11_SsiPivots_k11 (s7 : Int) (b11 : Unit) : Option (LR (Int) (Unit) (Bool)) :=
  some (.cont (wI (s7 + 1)))

def m4_l11_SsiPivots_k13 (s12 : Int) (b13 : Unit) : Option (LR (Int) (Unit) (Bool)) :=
  some (.cont (wI (s12 + 1)))

def m4_l11_SsiPivots_s14 (u8 : GR11Tx) (u9 : GR11Tx) (s12 : Int) (s14 : Int) : Option (LR (Int) (Unit) (Bool)) :=
  if (decide (s14 < (u9.Keys.length : Int))) then ((idx u8.Keys s12).bind fun u15 => (idx u9.Keys s14).bind fun u16 => if (u15 == u16) then (some (.ret false)) else (some (.cont (wI (s14 + 1))))) else (some (.brk ()))

def m4_l11_SsiPivots_s12 (u8 : GR11Tx) (u9 : GR11Tx) (s12 : Int) : Option (LR (Int) (Unit) (Bool)) :=
  if (decide (s12 < (u8.Keys.length : Int))) then ((iter (m4_l11_SsiPivots_s14 u8 u9 s12) fuel 0).bind fun x => match x with | .inl r => some (.ret r) | .inr e17 => m4_l11_SsiPivots_k13 s12 e17) else (some (.brk ()))

def m4_l11_SsiPivots_s7 (b3 : (List GSsiTx) × (List GReadsRead) × Int × (List Int) × (List GR11Tx) × (List GR10Read)) (s5 : Int) (s7 : Int) : Option (LR (Int) (Unit) (Bool)) :=
  if (decide (s7 < s5)) then ((idx b3.2.2.2.2.1 s7).bind fun u8 => (idx b3.2.2.2.2.1 s5).bind fun u9 => if (decide (u9.Begin < u8.End)) then ((m14_l11_meets (GApiRange.mk ([] : List UInt8) ([] : List UInt8) true) u8.Keys).bind fun v10 => if v10 then ((iter (m4_l11_SsiPivots_s12 u8 u9) fuel 0).bind fun x => match x with | .inl r => some (.ret r) | .inr e18 => m4_l11_SsiPivots_k11 s7 e18) else (some (.cont (wI (s7 + 1))))) else (some (.cont (wI (s7 + 1))))) else (some (.brk ()))

def m4_l11_SsiPivots_s5 (b3 : (List GSsiTx) × (List GReadsRead) × Int × (List Int) × (List GR11Tx) × (List GR10Read)) (s5 : Int) : Option (LR (Int) (Unit) (Bool)) :=
  if (decide (s5 < (b3.2.2.2.2.1.length : Int))) then ((iter (m4_l11_SsiPivots_s7 b3 s5) fuel 0).bind fun x => match x with | .inl r => some (.ret r) | .inr e19 => m4_l11_SsiPivots_k6 s5 e19) else (some (.brk ()))

def m4_l11_SsiPivots_k3 (v1 : Bool) (b3 : (List GSsiTx) × (List GReadsRead) × Int × (List Int) × (List GR11Tx) × (List GR10Read)) : Option Bool :=
  (iter (m4_l11_SsiPivots_s5 b3) fuel 0).bind fun x => match x with | .inl r => some r | .inr e20 => m4_l11_SsiPivots_k4 v1 e20

def m4_l11_SsiPivots_k24 (s21 : Int × (List GSsiTx) × (List GReadsRead) × Int × (List Int) × (List GR11Tx) × (List GR10Read)) (v23 : (List GSsiTx) × (List GReadsRead) × Int × (List Int) × (List GR11Tx) × (List GR10Read)) (b24 : Unit) : Option (LR (Int × (List GSsiTx) × (List GReadsRead) × Int × (List Int) × (List GR11Tx) × (List GR10Read)) ((List GSsiTx) × (List GReadsRead) × Int × (List Int) × (List GR11Tx) × (List GR10Read)) (Bool)) :=
  some (.cont ((wI (s21.1 + 1)), v23.1, v23.2.1, v23.2.2.1, v23.2.2.2.1, v23.2.2.2.2.1, v23.2.2.2.2.2))

def m4_l11_SsiPivots_s25 (v23 : (List GSsiTx) × (List GReadsRead) × Int × (List Int) × (List GR11Tx) × (List GR10Read)) (s25 : Int) : Option (LR (Int) (Unit) (Bool)) :=
  if (decide (s25 < (v23.1.length : Int))) then ((idx v23.1 s25).bind fun u26 => if (decide (u26.State = 2)) then (if u26.In then (if u26.Out then (some (.ret false)) else (some (.cont (wI (s25 + 1))))) else (some (.cont (wI (s25 + 1))))) else (some (.cont (wI (s25 + 1))))) else (some (.brk ()))

def m4_l11_SsiPivots_s21 (a0 : List GL11Act) (s21 : Int × (List GSsiTx) × (List GReadsRead) × Int × (List Int) × (List GR11Tx) × (List GR10Read)) : Option (LR (Int × (List GSsiTx) × (List GReadsRead) × Int × (List Int) × (List GR11Tx) × (List GR10Read)) ((List GSsiTx) × (List GReadsRead) × Int × (List Int) × (List GR11Tx) × (List GR10Read)) (Bool)) :=
  if (decide (s21.1 < (a0.length : Int))) then ((idx a0 s21.1).bind fun u22 => (m11_l11_world_dos (GL11Act.mk u22.What u22.N u22.RO (GApiRange.mk u22.Rng.Lo u22.Rng.Hi u22.Rng.Open) u22.Keys) s21.2.1 s21.2.2.1 s21.2.2.2.1 s21.2.2.2.2.1 s21.2.2.2.2.2.1 s21.2.2.2.2.2.2).bind fun v23 => (iter (m4_l11_SsiPivots_s25 v23) fuel 0).bind fun x => match x with | .inl r => some (.ret r) | .inr e27 => m4_l11_SsiPivots_k24 s21 v23 e27) else (some (.brk (s21.2.1, s21.2.2.1, s21.2.2.2.1, s21.2.2.2.2.1, s21.2.2.2.2.2.1, s21.2.2.2.2.2.2)))
def m4_l11_SsiPivots (a0 : List GL11Act) : Option Bool :=
  (m9_l11_awake).bind fun v1 => (m10_l11_small a0).bind fun v2 => if (!v2) then (some v1) else ((iter (m4_l11_SsiPivots_s21 a0) fuel (0, ([] : List GSsiTx), ([] : List GReadsRead), 0, ([] : List Int), ([] : List GR11Tx), ([] : List GR10Read))).bind fun x => match x with | .inl r => some r | .inr e28 => m4_l11_SsiPivots_k3 v1 e28)

set_option maxRecDepth 100000 in
theorem m4_l11_SsiPivots_c {a0 : List GL11Act} {r : Bool} (h : m4_l11_SsiPivots a0 = some r) : CallsA Try.prog 4 [.one (.sl a0.length (a0.flatMap eGL11Act))] (· = .s (.one (.b r))) := by
  unfold m4_l11_SsiPivots at h
  refine callsA_of Try.func4 rfl (nt := 129) rfl (Nat.le_of_ble_eq_true rfl) ?_
  intro w0 S0
  refine cseq ?_
  refine cregion ?_
  refine sv rfl (opv_as rfl) ?_
  refine snil ?_
  refine cseq ?_
  refine cregion ?_
  obtain ⟨v1, hv1, h⟩ := bind_eq h
  refine scall1 rfl fn9 opnds_nil (pubA_id rfl) (m9_l11_awake_c hv1) ?_
  refine sv rfl (opv_as rfl) ?_
  refine snil ?_
  refine cseq ?_
  refine cseq ?_
  refine cregion ?_
  refine sv rfl (opv_mv rfl) ?_
  obtain ⟨v2, hv2, h⟩ := bind_eq h
  refine scall1 rfl fn10 (opnds_cons rfl opnds_nil) (pubA_id rfl) (m10_l11_small_c hv2) ?_
  refine sv rfl (opv_not rfl) ?_
  refine snil ?_
  refine ccond rfl (fun hc => ?_) (fun hc => ?_)
  · replace h := ite_t hc h
    clear hc
    refine cseq ?_
    refine cregion ?_
    refine sv rfl (opv_mv rfl) ?_
    refine sv rfl (opv_as rfl) ?_
    refine snil ?_
    refine cret ?_
    refine then_ret ?_
    obtain rfl := Option.some.inj h
    refine ⟨Or.inr rfl, _, _, _, (resVs_cons (ResV.tmp _ _ rfl) resVs_nil), (pubA_id rfl), ?_⟩
    rfl
  · replace h := ite_f hc h
    clear hc
    refine cskip ?_
    refine then_normal ?_
    refine cseq ?_
    refine cregion ?_
    refine sv rfl (opv_build zi36 pi36 parts_nil (.nil _)) ?_
    refine sbox rfl rfl ?_
    refine sv rfl (opv_as rfl) ?_
    refine snil ?_
    refine cseq ?_
    refine cseq ?_
    refine cregion ?_
    refine sv rfl (opv_as rfl) ?_
    refine snil ?_
    refine sadopt_box_c 3 1 0 3 (by decide) rfl rfl ?_
    refine sadopt_box_c 46 8 0 4 (by decide) rfl rfl ?_
    refine sadopt_box_c 76 4 0 5 (by decide) rfl rfl ?_
    refine cjoin ((List GSsiTx) × (List GReadsRead) × Int × (List Int) × (List GR11Tx) × (List GR10Read)) (fun b3 => [(3, .s (.one (.b v1))), (4, .s (.one (.lp 0 0)))]) (fun b3 => [.box [.sl b3.1.length (b3.1.flatMap eGSsiTx), .sl b3.2.1.length (b3.2.1.flatMap eGReadsRead), .i .i64 b3.2.2.1, .ls 1 b3.2.2.2.1.length, .ls 2 b3.2.2.2.2.1.length, .ls 3 b3.2.2.2.2.2.length], .arr 3 1 0 (b3.2.2.2.1.flatMap eI), .arr 46 8 0 (b3.2.2.2.2.1.flatMap eGR11Tx), .arr 76 4 0 (b3.2.2.2.2.2.flatMap eGR10Read)]) (fun b3 => m4_l11_SsiPivots_k3 v1 b3 = some r) (fun _ _ => inbL_of rfl) (fun _ _ => blkinb_of rfl) (fun _ _ => Nat.le_of_ble_eq_true rfl) (fun b3 h => ?_) ?_
    · unfold m4_l11_SsiPivots_k3 at h
      refine cseq ?_
      refine cseq ?_
      refine cregion ?_
      refine sv rfl (opv_as rfl) ?_
      refine snil ?_
      refine cjoin (Unit) (fun b4 => [(3, .s (.one (.b v1)))]) (fun b4 => [.box [.sl b3.1.length (b3.1.flatMap eGSsiTx), .sl b3.2.1.length (b3.2.1.flatMap eGReadsRead), .i .i64 b3.2.2.1, .ls 1 b3.2.2.2.1.length, .ls 2 b3.2.2.2.2.1.length, .ls 3 b3.2.2.2.2.2.length], .arr 3 1 0 (b3.2.2.2.1.flatMap eI), .arr 46 8 0 (b3.2.2.2.2.1.flatMap eGR11Tx), .arr 76 4 0 (b3.2.2.2.2.2.flatMap eGR10Read)]) (fun b4 => m4_l11_SsiPivots_k4 v1 b4 = some r) (fun _ _ => inbL_of rfl) (fun _ _ => blkinb_of rfl) (fun _ _ => Nat.le_of_ble_eq_true rfl) (fun b4 h => ?_) ?_
      · unfold m4_l11_SsiPivots_k4 at h
        refine cseq ?_
        refine cregion ?_
        refine sv rfl (opv_mv rfl) ?_
        refine sv rfl (opv_as rfl) ?_
        refine snil ?_
        refine cret ?_
        obtain rfl := Option.some.inj h
        refine ⟨Or.inr rfl, _, _, _, (resVs_cons (ResV.tmp _ _ rfl) resVs_nil), (pubA_id rfl), ?_⟩
        rfl
      · skip
        refine cblock ?_
        obtain ⟨x5, hx5, ho5⟩ := bind_eq h
        refine awc_loop (G := Nat × (Int)) (fun g => [(3, .s (.one (.b v1))), (4, .s (.one (.lp 0 0))), (8, .s (.one (.i .i64 g.2)))]) (fun g => [.box [.sl b3.1.length (b3.1.flatMap eGSsiTx), .sl b3.2.1.length (b3.2.1.flatMap eGReadsRead), .i .i64 b3.2.2.1, .ls 1 b3.2.2.2.1.length, .ls 2 b3.2.2.2.2.1.length, .ls 3 b3.2.2.2.2.2.length], .arr 3 1 0 (b3.2.2.2.1.flatMap eI), .arr 46 8 0 (b3.2.2.2.2.1.flatMap eGR11Tx), .arr 76 4 0 (b3.2.2.2.2.2.flatMap eGR10Read)]) (fun g => iter (m4_l11_SsiPivots_s5 b3) g.1 g.2 = some x5) (fun g => g.1) (fuel, 0) hx5 ⟨rfl, rfl, rfl, trivial⟩ [] rfl (fun _ _ => inbL_of rfl) (fun _ _ => blkinb_of rfl) (fun _ _ => Nat.le_of_ble_eq_true rfl) ?_
        clear hx5 h
        rintro ⟨n5, s5⟩ h
        obtain ⟨n5, y5, rfl, h, hk5⟩ := iter_eq h
        unfold m4_l11_SsiPivots_s5 at h
        refine cseq ?_
        refine cseq ?_
        refine cregion ?_
        refine sv rfl (opv_mv rfl) ?_
        refine sv rfl (opv_mv rfl) ?_
        refine sv rfl (opv_nilCheck rfl rfl (fun _ _ _ h => by cases h)) ?_
        refine sv rfl (opv_fieldAddr_lp fi36_3 rfl) ?_
        refine sv rfl (opv_load1 ti33 rfl (.lp _ _ _ rfl) rfl) ?_
        refine sv rfl (opv_len_ls si33 rfl rfl (flat_len (f := eGR11Tx) (fun _ => rfl) _).symm) ?_
        refine sv rfl (opv_lss rfl rfl) ?_
        refine snil ?_
        refine ccond rfl (fun hc => ?_) (fun hc => ?_)
        · replace h := ite_t hc h
          clear hc
          refine cskip ?_
          refine then_normal ?_
          refine cseq ?_
          refine cblock ?_
          refine cseq ?_
          refine cregion ?_
          refine sv rfl (opv_as rfl) ?_
          refine snil ?_
          refine cjoinb (Unit) (fun b6 => [(3, .s (.one (.b v1))), (4, .s (.one (.lp 0 0))), (8, .s (.one (.i .i64 s5)))]) (fun b6 => [.box [.sl b3.1.length (b3.1.flatMap eGSsiTx), .sl b3.2.1.length (b3.2.1.flatMap eGReadsRead), .i .i64 b3.2.2.1, .ls 1 b3.2.2.2.1.length, .ls 2 b3.2.2.2.2.1.length, .ls 3 b3.2.2.2.2.2.length], .arr 3 1 0 (b3.2.2.2.1.flatMap eI), .arr 46 8 0 (b3.2.2.2.2.1.flatMap eGR11Tx), .arr 76 4 0 (b3.2.2.2.2.2.flatMap eGR10Read)]) (fun b6 => m4_l11_SsiPivots_k6 s5 b6 = some y5) (fun _ _ => inbL_of rfl) (fun _ _ => blkinb_of rfl) (fun _ _ => Nat.le_of_ble_eq_true rfl) (fun b6 h => ?_) ?_
          · unfold m4_l11_SsiPivots_k6 at h
            refine cregion ?_
            refine sv rfl (opv_mv rfl) ?_
            refine sv rfl (opv_add rfl rfl) ?_
            refine sv rfl (opv_as rfl) ?_
            refine snil ?_
            obtain rfl := Option.some.inj h
            exact ⟨(n5, (wI (s5 + 1))), _, hk5, ⟨rfl, rfl, rfl, trivial⟩, rfl, Nat.lt_succ_self _⟩
          · skip
            refine cblock ?_
            obtain ⟨x7, hx7, ho7⟩ := bind_eq h
            refine awc_loop (G := Nat × (Int)) (fun g => [(3, .s (.one (.b v1))), (4, .s (.one (.lp 0 0))), (8, .s (.one (.i .i64 s5))), (9, .s (.one (.i .i64 g.2)))]) (fun g => [.box [.sl b3.1.length (b3.1.flatMap eGSsiTx), .sl b3.2.1.length (b3.2.1.flatMap eGReadsRead), .i .i64 b3.2.2.1, .ls 1 b3.2.2.2.1.length, .ls 2 b3.2.2.2.2.1.length, .ls 3 b3.2.2.2.2.2.length], .arr 3 1 0 (b3.2.2.2.1.flatMap eI), .arr 46 8 0 (b3.2.2.2.2.1.flatMap eGR11Tx), .arr 76 4 0 (b3.2.2.2.2.2.flatMap eGR10Read)]) (fun g => iter (m4_l11_SsiPivots_s7 b3 s5) g.1 g.2 = some x7) (fun g => g.1) (fuel, 0) hx7 ⟨rfl, rfl, rfl, rfl, trivial⟩ [] rfl (fun _ _ => inbL_of rfl) (fun _ _ => blkinb_of rfl) (fun _ _ => Nat.le_of_ble_eq_true rfl) ?_
            clear hx7 h
            rintro ⟨n7, s7⟩ h
            obtain ⟨n7, y7, rfl, h, hk7⟩ := iter_eq h
            unfold m4_l11_SsiPivots_s7 at h
            refine cseq ?_
            refine cseq ?_
            refine cregion ?_
            refine sv rfl (opv_mv rfl) ?_
            refine sv rfl (opv_mv rfl) ?_
            refine sv rfl (opv_lss rfl rfl) ?_
            refine snil ?_
            refine ccond rfl (fun hc => ?_) (fun hc => ?_)
            · replace h := ite_t hc h
              clear hc
              refine cskip ?_
              refine then_normal ?_
              refine cseq ?_
              refine cblock ?_
              refine cseq ?_
              refine cregion ?_
              refine sv rfl (opv_mv rfl) ?_
              refine sv rfl (opv_nilCheck rfl rfl (fun _ _ _ h => by cases h)) ?_
              refine sv rfl (opv_fieldAddr_lp fi36_3 rfl) ?_
              refine sv rfl (opv_load1 ti33 rfl (.lp _ _ _ rfl) rfl) ?_
              refine sv rfl (opv_mv rfl) ?_
              obtain ⟨u8, hu8, h⟩ := bind_eq h
              refine sv rfl (opv_ixo (f := eGR11Tx) si33 (fun _ => rfl) rfl rfl rfl rfl rfl hu8) ?_
              refine sv rfl (opv_ldNo (f := eGR11Tx) (sz := 8) 0 ti46 (fun _ => rfl) rfl rfl rfl rfl (idx_eq hu8).2 (Nat.le_of_ble_eq_true rfl) rfl) ?_
              refine salloc rfl zi46 ?_
              refine sstore sz46 rfl rfl rfl rfl (Nat.le_of_ble_eq_true rfl) ?_
              refine smem [.box [.sl b3.1.length (b3.1.flatMap eGSsiTx), .sl b3.2.1.length (b3.2.1.flatMap eGReadsRead), .i .i64 b3.2.2.1, .ls 1 b3.2.2.2.1.length, .ls 2 b3.2.2.2.2.1.length, .ls 3 b3.2.2.2.2.2.length], .arr 3 1 0 (b3.2.2.2.1.flatMap eI), .arr 46 8 0 (b3.2.2.2.2.1.flatMap eGR11Tx), .arr 76 4 0 (b3.2.2.2.2.2.flatMap eGR10Read), .box u8] rfl ?_
              refine snil ?_
              refine cseq ?_
              refine cregion ?_
              refine sv rfl (opv_mv rfl) ?_
              refine sv rfl (opv_nilCheck rfl rfl (fun _ _ _ h => by cases h)) ?_
              refine sv rfl (opv_fieldAddr_lp fi36_3 rfl) ?_
              refine sv rfl (opv_load1 ti33 rfl (.lp _ _ _ rfl) rfl) ?_
              refine sv rfl (opv_mv rfl) ?_
              obtain ⟨u9, hu9, h⟩ := bind_eq h
              refine sv rfl (opv_ixo (f := eGR11Tx) si33 (fun _ => rfl) rfl rfl rfl rfl rfl hu9) ?_
              refine sv rfl (opv_ldNo (f := eGR11Tx) (sz := 8) 0 ti46 (fun _ => rfl) rfl rfl rfl rfl (idx_eq hu9).2 (Nat.le_of_ble_eq_true rfl) rfl) ?_
              refine salloc rfl zi46 ?_
              refine sstore sz46 rfl rfl rfl rfl (Nat.le_of_ble_eq_true rfl) ?_
              refine smem [.box [.sl b3.1.length (b3.1.flatMap eGSsiTx), .sl b3.2.1.length (b3.2.1.flatMap eGReadsRead), .i .i64 b3.2.2.1, .ls 1 b3.2.2.2.1.length, .ls 2 b3.2.2.2.2.1.length, .ls 3 b3.2.2.2.2.2.length], .arr 3 1 0 (b3.2.2.2.1.flatMap eI), .arr 46 8 0 (b3.2.2.2.2.1.flatMap eGR11Tx), .arr 76 4 0 (b3.2.2.2.2.2.flatMap eGR10Read), .box u8, .box u9] rfl ?_
              refine snil ?_
              refine cseq ?_
              refine cregion ?_
              refine sv rfl (opv_fieldAddr_lp fi46_2 rfl) ?_
              refine sv rfl (opv_load1 ti3 rfl (.lp _ _ _ rfl) rfl) ?_
              refine sv rfl (opv_fieldAddr_lp fi46_1 rfl) ?_
              refine sv rfl (opv_load1 ti3 rfl (.lp _ _ _ rfl) rfl) ?_
              refine sv rfl (opv_gtr rfl rfl) ?_
              refine sv rfl (opv_mv rfl) ?_
              refine ssplit 95 rfl (fun hc => ?_) (fun hc => ?_)
              · replace h := ite_t hc h
                clear hc
                refine son rfl rfl rfl ?_
                refine sv rfl (opv_build zi40 pi40 (parts_cons rfl parts_nil) (.cons _ _ _ _ _ _ _ rfl rfl (Nat.le_of_ble_eq_true rfl) (.nil _))) ?_
                refine son rfl rfl rfl ?_
                refine sv rfl (opv_fieldAddr_lp fi46_7 rfl) ?_
                refine son rfl rfl rfl ?_
                refine sv rfl (opv_load1 ti41 rfl (.lp _ _ _ rfl) rfl) ?_
                refine son rfl rfl rfl ?_
                obtain ⟨v10, hv10, h⟩ := bind_eq h
                refine scall1 rfl fn14 (opnds_cons rfl (opnds_cons rfl opnds_nil)) (pubC rfl) (m14_l11_meets_c hv10) ?_
                refine sv rfl (opv_pick_t rfl rfl) ?_
                refine snil ?_
                refine ccond rfl (fun hc => ?_) (fun hc => ?_)
                · replace h := ite_t hc h
                  clear hc
                  refine cseq ?_
                  refine cregion ?_
                  refine sv rfl (opv_as rfl) ?_
                  refine snil ?_
                  refine cjoinb (Unit) (fun b11 => [(3, .s (.one (.b v1))), (4, .s (.one (.lp 0 0))), (8, .s (.one (.i .i64 s5))), (9, .s (.one (.i .i64 s7)))]) (fun b11 => [.box [.sl b3.1.length (b3.1.flatMap eGSsiTx), .sl b3.2.1.length (b3.2.1.flatMap eGReadsRead), .i .i64 b3.2.2.1, .ls 1 b3.2.2.2.1.length, .ls 2 b3.2.2.2.2.1.length, .ls 3 b3.2.2.2.2.2.length], .arr 3 1 0 (b3.2.2.2.1.flatMap eI), .arr 46 8 0 (b3.2.2.2.2.1.flatMap eGR11Tx), .arr 76 4 0 (b3.2.2.2.2.2.flatMap eGR10Read), .box u8, .box u9]) (fun b11 => m4_l11_SsiPivots_k11 s7 b11 = some y7) (fun _ _ => inbL_of rfl) (fun _ _ => blkinb_of rfl) (fun _ _ => Nat.le_of_ble_eq_true rfl) (fun b11 h => ?_) ?_
                  · unfold m4_l11_SsiPivots_k11 at h
                    refine cregion ?_
                    refine sv rfl (opv_mv rfl) ?_
                    refine sv rfl (opv_add rfl rfl) ?_
                    refine sv rfl (opv_as rfl) ?_
                    refine snil ?_
                    obtain rfl := Option.some.inj h
                    exact ⟨(n7, (wI (s7 + 1))), _, hk7, ⟨rfl, rfl, rfl, rfl, trivial⟩, rfl, Nat.lt_succ_self _⟩
                  · skip
                    refine cblock ?_
                    obtain ⟨x12, hx12, ho12⟩ := bind_eq h
                    refine awc_loop (G := Nat × (Int)) (fun g => [(3, .s (.one (.b v1))), (4, .s (.one (.lp 0 0))), (8, .s (.one (.i .i64 s5))), (9, .s (.one (.i .i64 s7))), (10, .s (.one (.lp 4 0))), (11, .s (.one (.lp 5 0))), (12, .s (.one (.i .i64 g.2)))]) (fun g => [.box [.sl b3.1.length (b3.1.flatMap eGSsiTx), .sl b3.2.1.length (b3.2.1.flatMap eGReadsRead), .i .i64 b3.2.2.1, .ls 1 b3.2.2.2.1.length, .ls 2 b3.2.2.2.2.1.length, .ls 3 b3.2.2.2.2.2.length], .arr 3 1 0 (b3.2.2.2.1.flatMap eI), .arr 46 8 0 (b3.2.2.2.2.1.flatMap eGR11Tx), .arr 76 4 0 (b3.2.2.2.2.2.flatMap eGR10Read), .box u8, .box u9]) (fun g => iter (m4_l11_SsiPivots_s12 u8 u9) g.1 g.2 = some x12) (fun g => g.1) (fuel, 0) hx12 ⟨rfl, rfl, rfl, rfl, rfl, rfl, rfl, trivial⟩ [] rfl (fun _ _ => inbL_of rfl) (fun _ _ => blkinb_of rfl) (fun _ _ => Nat.le_of_ble_eq_true rfl) ?_
                    clear hx12 h
                    rintro ⟨n12, s12⟩ h
                    obtain ⟨n12, y12, rfl, h, hk12⟩ := iter_eq h
                    unfold m4_l11_SsiPivots_s12 at h
                    refine cseq ?_
                    refine cseq ?_
                    refine cregion ?_
                    refine sv rfl (opv_mv rfl) ?_
                    refine sv rfl (opv_fieldAddr_lp fi46_7 rfl) ?_
                    refine sv rfl (opv_load1 ti41 rfl (.lp _ _ _ rfl) rfl) ?_
                    refine sv rfl (opv_len_sl si41 rfl) ?_
                    refine sv rfl (opv_lss rfl rfl) ?_
                    refine snil ?_
                    refine ccond rfl (fun hc => ?_) (fun hc => ?_)
                    · replace h := ite_t hc h
                      clear hc
                      refine cskip ?_
                      refine then_normal ?_
                      refine cseq ?_
                      refine cblock ?_
                      refine cseq ?_
                      refine cregion ?_
                      refine sv rfl (opv_as rfl) ?_
                      refine snil ?_
                      refine cjoinb (Unit) (fun b13 => [(3, .s (.one (.b v1))), (4, .s (.one (.lp 0 0))), (8, .s (.one (.i .i64 s5))), (9, .s (.one (.i .i64 s7))), (10, .s (.one (.lp 4 0))), (11, .s (.one (.lp 5 0))), (12, .s (.one (.i .i64 s12)))]) (fun b13 => [.box [.sl b3.1.length (b3.1.flatMap eGSsiTx), .sl b3.2.1.length (b3.2.1.flatMap eGReadsRead), .i .i64 b3.2.2.1, .ls 1 b3.2.2.2.1.length, .ls 2 b3.2.2.2.2.1.length, .ls 3 b3.2.2.2.2.2.length], .arr 3 1 0 (b3.2.2.2.1.flatMap eI), .arr 46 8 0 (b3.2.2.2.2.1.flatMap eGR11Tx), .arr 76 4 0 (b3.2.2.2.2.2.flatMap eGR10Read), .box u8, .box u9]) (fun b13 => m4_l11_SsiPivots_k13 s12 b13 = some y12) (fun _ _ => inbL_of rfl) (fun _ _ => blkinb_of rfl) (fun _ _ => Nat.le_of_ble_eq_true rfl) (fun b13 h => ?_) ?_
                      · unfold m4_l11_SsiPivots_k13 at h
                        refine cregion ?_
                        refine sv rfl (opv_mv rfl) ?_
                        refine sv rfl (opv_add rfl rfl) ?_
                        refine sv rfl (opv_as rfl) ?_
                        refine snil ?_
                        obtain rfl := Option.some.inj h
                        exact ⟨(n12, (wI (s12 + 1))), _, hk12, ⟨rfl, rfl, rfl, rfl, rfl, rfl, rfl, trivial⟩, rfl, Nat.lt_succ_self _⟩
                      · skip
                        refine cblock ?_
                        obtain ⟨x14, hx14, ho14⟩ := bind_eq h
                        refine awc_loop (G := Nat × (Int)) (fun g => [(3, .s (.one (.b v1))), (4, .s (.one (.lp 0 0))), (8, .s (.one (.i .i64 s5))), (9, .s (.one (.i .i64 s7))), (10, .s (.one (.lp 4 0))), (11, .s (.one (.lp 5 0))), (12, .s (.one (.i .i64 s12))), (13, .s (.one (.i .i64 g.2)))]) (fun g => [.box [.sl b3.1.length (b3.1.flatMap eGSsiTx), .sl b3.2.1.length (b3.2.1.flatMap eGReadsRead), .i .i64 b3.2.2.1, .ls 1 b3.2.2.2.1.length, .ls 2 b3.2.2.2.2.1.length, .ls 3 b3.2.2.2.2.2.length], .arr 3 1 0 (b3.2.2.2.1.flatMap eI), .arr 46 8 0 (b3.2.2.2.2.1.flatMap eGR11Tx), .arr 76 4 0 (b3.2.2.2.2.2.flatMap eGR10Read), .box u8, .box u9]) (fun g => iter (m4_l11_SsiPivots_s14 u8 u9 s12) g.1 g.2 = some x14) (fun g => g.1) (fuel, 0) hx14 ⟨rfl, rfl, rfl, rfl, rfl, rfl, rfl, rfl, trivial⟩ [] rfl (fun _ _ => inbL_of rfl) (fun _ _ => blkinb_of rfl) (fun _ _ => Nat.le_of_ble_eq_true rfl) ?_
                        clear hx14 h
                        rintro ⟨n14, s14⟩ h
                        obtain ⟨n14, y14, rfl, h, hk14⟩ := iter_eq h
                        unfold m4_l11_SsiPivots_s14 at h
                        refine cseq ?_
                        refine cseq ?_
                        refine cregion ?_
                        refine sv rfl (opv_mv rfl) ?_
                        refine sv rfl (opv_fieldAddr_lp fi46_7 rfl) ?_
                        refine sv rfl (opv_load1 ti41 rfl (.lp _ _ _ rfl) rfl) ?_
                        refine sv rfl (opv_len_sl si41 rfl) ?_
                        refine sv rfl (opv_lss rfl rfl) ?_
                        refine snil ?_
                        refine ccond rfl (fun hc => ?_) (fun hc => ?_)
                        · replace h := ite_t hc h
                          clear hc
                          refine cskip ?_
                          refine then_normal ?_
                          refine cseq ?_
                          refine cblock ?_
                          refine cseq ?_
                          refine cdraw mixed (by kernel_rfl) ?_
                          refine dv rfl (opv_fieldAddr_lp fi46_7 rfl) ?_
                          refine dv rfl (opv_load1 ti41 rfl (.lp _ _ _ rfl) rfl) ?_
                          refine dv rfl (opv_mv rfl) ?_
                          obtain ⟨u15, hu15, h⟩ := bind_eq h
                          refine dv rfl (opv_ix (f := (eL eU8)) si41 (fun _ => rfl) rfl rfl rfl rfl hu15) ?_
                          refine dv rfl (opv_load1 ti38 rfl (.cp _) rfl) ?_
                          refine dv rfl (opv_bs (l := u15) Try.underlying38 Try.underlying5 Try.underlying9 rfl rfl rfl) ?_
                          refine dv rfl (opv_fieldAddr_lp fi46_7 rfl) ?_
                          refine dv rfl (opv_load1 ti41 rfl (.lp _ _ _ rfl) rfl) ?_
                          refine dv rfl (opv_mv rfl) ?_
                          obtain ⟨u16, hu16, h⟩ := bind_eq h
                          refine dv rfl (opv_ix (f := (eL eU8)) si41 (fun _ => rfl) rfl rfl rfl rfl hu16) ?_
                          refine dv rfl (opv_load1 ti38 rfl (.cp _) rfl) ?_
                          refine dv rfl (opv_bs (l := u16) Try.underlying38 Try.underlying5 Try.underlying9 rfl rfl rfl) ?_
                          refine dv rfl (opv_seql' rfl rfl) ?_
                          refine dnil ?_
                          refine then_normal ?_
                          refine ccond rfl (fun hc => ?_) (fun hc => ?_)
                          · replace h := ite_t hc h
                            clear hc
                            refine cseq ?_
                            refine cregion ?_
                            refine sv rfl (opv_as rfl) ?_
                            refine snil ?_
                            refine cret ?_
                            refine block_ret ?_
                            refine then_ret ?_
                            refine then_ret ?_
                            refine block_ret ?_
                            refine block_ret ?_
                            refine then_ret ?_
                            refine then_ret ?_
                            refine block_ret ?_
                            refine block_ret ?_
                            refine then_ret ?_
                            refine then_ret ?_
                            refine block_ret ?_
                            refine block_ret ?_
                            refine then_ret ?_
                            refine then_ret ?_
                            refine block_ret ?_
                            refine then_ret ?_
                            obtain rfl := Option.some.inj h
                            obtain rfl : Sum.inl _ = x14 := hk14
                            replace ho14 : some _ = some _ := ho14
                            obtain rfl := Option.some.inj ho14
                            obtain rfl : Sum.inl _ = x12 := hk12
                            replace ho12 : some _ = some _ := ho12
                            obtain rfl := Option.some.inj ho12
                            obtain rfl : Sum.inl _ = x7 := hk7
                            replace ho7 : some _ = some _ := ho7
                            obtain rfl := Option.some.inj ho7
                            obtain rfl : Sum.inl _ = x5 := hk5
                            replace ho5 : some _ = some _ := ho5
                            obtain rfl := Option.some.inj ho5
                            refine ⟨Or.inr rfl, _, _, _, (resVs_cons (ResV.tmp _ _ rfl) resVs_nil), (pubA_id rfl), ?_⟩
                            rfl
                          · replace h := ite_f hc h
                            clear hc
                            refine cskip ?_
                            refine block_normal ?_
                            refine then_normal ?_
                            refine cregion ?_
                            refine sv rfl (opv_mv rfl) ?_
                            refine sv rfl (opv_add rfl rfl) ?_
                            refine sv rfl (opv_as rfl) ?_
                            refine snil ?_
                            obtain rfl := Option.some.inj h
                            exact ⟨(n14, (wI (s14 + 1))), _, hk14, ⟨rfl, rfl, rfl, rfl, rfl, rfl, rfl, rfl, trivial⟩, rfl, Nat.lt_succ_self _⟩
                        · replace h := ite_f hc h
                          clear hc
                          refine cexit ?_
                          refine then_exit ?_
                          refine then_exit ?_
                          refine block_hit ?_
                          refine block_normal ?_
                          refine then_normal ?_
                          obtain rfl := Option.some.inj h
                          obtain rfl : _ = x14 := hk14
                          exact ⟨(), _, ho14, ⟨rfl, rfl, rfl, rfl, rfl, rfl, rfl, trivial⟩, rfl⟩
                    · replace h := ite_f hc h
                      clear hc
                      refine cexit ?_
                      refine then_exit ?_
                      refine then_exit ?_
                      refine block_hit ?_
                      refine block_normal ?_
                      refine then_normal ?_
                      obtain rfl := Option.some.inj h
                      obtain rfl : _ = x12 := hk12
                      exact ⟨(), _, ho12, ⟨rfl, rfl, rfl, rfl, trivial⟩, rfl⟩
                · replace h := ite_f hc h
                  clear hc
                  refine cskip ?_
                  refine block_normal ?_
                  refine then_normal ?_
                  refine cregion ?_
                  refine sv rfl (opv_mv rfl) ?_
                  refine sv rfl (opv_add rfl rfl) ?_
                  refine sv rfl (opv_as rfl) ?_
                  refine snil ?_
                  obtain rfl := Option.some.inj h
                  exact ⟨(n7, (wI (s7 + 1))), _, hk7, ⟨rfl, rfl, rfl, rfl, trivial⟩, rfl, Nat.lt_succ_self _⟩
              · replace h := ite_f hc h
                clear hc
                refine soff rfl rfl rfl rfl ?_
                refine soff rfl rfl rfl rfl ?_
                refine soff rfl rfl rfl rfl ?_
                refine soff rfl rfl rfl rfl ?_
                refine sv rfl (opv_pick_f rfl rfl) ?_
                refine snil ?_
                refine ccond rfl (fun hx => Bool.noConfusion hx) (fun _ => ?_)
                refine cskip ?_
                refine block_normal ?_
                refine then_normal ?_
                refine cregion ?_
                refine sv rfl (opv_mv rfl) ?_
                refine sv rfl (opv_add rfl rfl) ?_
                refine sv rfl (opv_as rfl) ?_
                refine snil ?_
                obtain rfl := Option.some.inj h
                exact ⟨(n7, (wI (s7 + 1))), _, hk7, ⟨rfl, rfl, rfl, rfl, trivial⟩, rfl, Nat.lt_succ_self _⟩
            · replace h := ite_f hc h
              clear hc
              refine cexit ?_
              refine then_exit ?_
              refine then_exit ?_
              refine block_hit ?_
              refine block_normal ?_
              refine then_normal ?_
              obtain rfl := Option.some.inj h
              obtain rfl : _ = x7 := hk7
              exact ⟨(), _, ho7, ⟨rfl, rfl, rfl, trivial⟩, rfl⟩
        · replace h := ite_f hc h
          clear hc
          refine cexit ?_
          refine then_exit ?_
          refine then_exit ?_
          refine block_hit ?_
          refine then_normal ?_
          obtain rfl := Option.some.inj h
          obtain rfl : _ = x5 := hk5
          exact ⟨(), _, ho5, ⟨rfl, trivial⟩, rfl⟩
    · skip
      refine cblock ?_
      refine cpubbox 0 0 rfl rfl PubL.nil rfl ?_
      refine cpubbox 0 1 rfl rfl PubL.nil rfl ?_
      obtain ⟨x21, hx21, ho21⟩ := bind_eq h
      refine awc_loop (G := Nat × (Int × (List GSsiTx) × (List GReadsRead) × Int × (List Int) × (List GR11Tx) × (List GR10Read))) (fun g => [(0, .s (.one (.sl a0.length (a0.flatMap eGL11Act)))), (3, .s (.one (.b v1))), (4, .s (.one (.lp 0 0))), (5, .s (.one (.i .i64 g.2.1)))]) (fun g => [.box [.sl g.2.2.1.length (g.2.2.1.flatMap eGSsiTx), .sl g.2.2.2.1.length (g.2.2.2.1.flatMap eGReadsRead), .i .i64 g.2.2.2.2.1, .ls 1 g.2.2.2.2.2.1.length, .ls 2 g.2.2.2.2.2.2.1.length, .ls 3 g.2.2.2.2.2.2.2.length], .arr 3 1 0 (g.2.2.2.2.2.1.flatMap eI), .arr 46 8 0 (g.2.2.2.2.2.2.1.flatMap eGR11Tx), .arr 76 4 0 (g.2.2.2.2.2.2.2.flatMap eGR10Read)]) (fun g => iter (m4_l11_SsiPivots_s21 a0) g.1 g.2 = some x21) (fun g => g.1) (fuel, (0, ([] : List GSsiTx), ([] : List GReadsRead), 0, ([] : List Int), ([] : List GR11Tx), ([] : List GR10Read))) hx21 ⟨rfl, rfl, rfl, rfl, trivial⟩ [] rfl (fun _ _ => inbL_of rfl) (fun _ _ => blkinb_of rfl) (fun _ _ => Nat.le_of_ble_eq_true rfl) ?_
      clear hx21 h
      rintro ⟨n21, s21⟩ h
      obtain ⟨n21, y21, rfl, h, hk21⟩ := iter_eq h
      unfold m4_l11_SsiPivots_s21 at h
      refine cseq ?_
      refine cseq ?_
      refine cregion ?_
      refine sv rfl (opv_mv rfl) ?_
      refine sv rfl (opv_mv rfl) ?_
      refine sv rfl (opv_len_sl si22 rfl) ?_
      refine sv rfl (opv_lss rfl rfl) ?_
      refine snil ?_
      refine ccond rfl (fun hc => ?_) (fun hc => ?_)
      · replace h := ite_t hc h
        clear hc
        refine cskip ?_
        refine then_normal ?_
        refine cseq ?_
        refine cblock ?_
        refine cseq ?_
        refine cregion ?_
        refine sv rfl (opv_mv rfl) ?_
        refine sv rfl (opv_mv rfl) ?_
        refine sv rfl (opv_mv rfl) ?_
        obtain ⟨u22, hu22, h⟩ := bind_eq h
        refine sv rfl (opv_ix (f := eGL11Act) si22 (fun _ => rfl) rfl rfl rfl rfl hu22) ?_
        refine sv rfl (opv_loadNe (ys := [.i .i64 u22.What, .i .i64 u22.N, .b u22.RO, .sl u22.Rng.Lo.length (u22.Rng.Lo.flatMap eU8), .sl u22.Rng.Hi.length (u22.Rng.Hi.flatMap eU8), .b u22.Rng.Open, .sl u22.Keys.length (u22.Keys.flatMap (eL eU8))]) ti43 rfl (.cp _) rfl rfl) ?_
        obtain ⟨v23, hv23, h⟩ := bind_eq h
        refine scallB (x' := .tup []) (M' := [.box [.sl v23.1.length (v23.1.flatMap eGSsiTx), .sl v23.2.1.length (v23.2.1.flatMap eGReadsRead), .i .i64 v23.2.2.1, .ls 1 v23.2.2.2.1.length, .ls 2 v23.2.2.2.2.1.length, .ls 3 v23.2.2.2.2.2.length], .arr 3 1 0 (v23.2.2.2.1.flatMap eI), .arr 46 8 0 (v23.2.2.2.2.1.flatMap eGR11Tx), .arr 76 4 0 (v23.2.2.2.2.2.flatMap eGR10Read)]) [0, 1, 2, 3] rfl fn11 (.func _) (opnds_cons rfl (opnds_cons rfl opnds_nil)) (m11_l11_world_dos_c hv23) rfl rfl (by decide) rfl rfl rfl ?_
        refine snil ?_
        refine cseq ?_
        refine cregion ?_
        refine sv rfl (opv_as rfl) ?_
        refine snil ?_
        refine cjoinb (Unit) (fun b24 => [(0, .s (.one (.sl a0.length (a0.flatMap eGL11Act)))), (3, .s (.one (.b v1))), (4, .s (.one (.lp 0 0))), (5, .s (.one (.i .i64 s21.1)))]) (fun b24 => [.box [.sl v23.1.length (v23.1.flatMap eGSsiTx), .sl v23.2.1.length (v23.2.1.flatMap eGReadsRead), .i .i64 v23.2.2.1, .ls 1 v23.2.2.2.1.length, .ls 2 v23.2.2.2.2.1.length, .ls 3 v23.2.2.2.2.2.length], .arr 3 1 0 (v23.2.2.2.1.flatMap eI), .arr 46 8 0 (v23.2.2.2.2.1.flatMap eGR11Tx), .arr 76 4 0 (v23.2.2.2.2.2.flatMap eGR10Read)]) (fun b24 => m4_l11_SsiPivots_k24 s21 v23 b24 = some y21) (fun _ _ => inbL_of rfl) (fun _ _ => blkinb_of rfl) (fun _ _ => Nat.le_of_ble_eq_true rfl) (fun b24 h => ?_) ?_
        · unfold m4_l11_SsiPivots_k24 at h
          refine cregion ?_
          refine sv rfl (opv_mv rfl) ?_
          refine sv rfl (opv_add rfl rfl) ?_
          refine sv rfl (opv_as rfl) ?_
          refine snil ?_
          obtain rfl := Option.some.inj h
          exact ⟨(n21, ((wI (s21.1 + 1)), v23.1, v23.2.1, v23.2.2.1, v23.2.2.2.1, v23.2.2.2.2.1, v23.2.2.2.2.2)), _, hk21, ⟨rfl, rfl, rfl, rfl, trivial⟩, rfl, Nat.lt_succ_self _⟩
        · skip
          refine cblock ?_
          obtain ⟨x25, hx25, ho25⟩ := bind_eq h
          refine awc_loop (G := Nat × (Int)) (fun g => [(0, .s (.one (.sl a0.length (a0.flatMap eGL11Act)))), (3, .s (.one (.b v1))), (4, .s (.one (.lp 0 0))), (5, .s (.one (.i .i64 s21.1))), (6, .s (.one (.i .i64 g.2)))]) (fun g => [.box [.sl v23.1.length (v23.1.flatMap eGSsiTx), .sl v23.2.1.length (v23.2.1.flatMap eGReadsRead), .i .i64 v23.2.2.1, .ls 1 v23.2.2.2.1.length, .ls 2 v23.2.2.2.2.1.length, .ls 3 v23.2.2.2.2.2.length], .arr 3 1 0 (v23.2.2.2.1.flatMap eI), .arr 46 8 0 (v23.2.2.2.2.1.flatMap eGR11Tx), .arr 76 4 0 (v23.2.2.2.2.2.flatMap eGR10Read)]) (fun g => iter (m4_l11_SsiPivots_s25 v23) g.1 g.2 = some x25) (fun g => g.1) (fuel, 0) hx25 ⟨rfl, rfl, rfl, rfl, rfl, trivial⟩ [] rfl (fun _ _ => inbL_of rfl) (fun _ _ => blkinb_of rfl) (fun _ _ => Nat.le_of_ble_eq_true rfl) ?_
          clear hx25 h
          rintro ⟨n25, s25⟩ h
          obtain ⟨n25, y25, rfl, h, hk25⟩ := iter_eq h
          unfold m4_l11_SsiPivots_s25 at h
          refine cseq ?_
          refine cseq ?_
          refine cregion ?_
          refine sv rfl (opv_mv rfl) ?_
          refine sv rfl (opv_mv rfl) ?_
          refine sv rfl (opv_nilCheck rfl rfl (fun _ _ _ h => by cases h)) ?_
          refine sv rfl (opv_fieldAddr_lp fi36_0 rfl) ?_
          refine sv rfl (opv_fieldAddr_lp fi31_0 rfl) ?_
          refine sv rfl (opv_load1 ti26 rfl (.lp _ _ _ rfl) rfl) ?_
          refine sv rfl (opv_len_sl si26 rfl) ?_
          refine sv rfl (opv_lss rfl rfl) ?_
          refine snil ?_
          refine ccond rfl (fun hc => ?_) (fun hc => ?_)
          · replace h := ite_t hc h
            clear hc
            refine cskip ?_
            refine then_normal ?_
            refine cseq ?_
            refine cblock ?_
            refine cseq ?_
            refine cregion ?_
            refine sv rfl (opv_mv rfl) ?_
            refine sv rfl (opv_nilCheck rfl rfl (fun _ _ _ h => by cases h)) ?_
            refine sv rfl (opv_fieldAddr_lp fi36_0 rfl) ?_
            refine sv rfl (opv_fieldAddr_lp fi31_0 rfl) ?_
            refine sv rfl (opv_load1 ti26 rfl (.lp _ _ _ rfl) rfl) ?_
            refine sv rfl (opv_mv rfl) ?_
            obtain ⟨u26, hu26, h⟩ := bind_eq h
            refine sv rfl (opv_ix (f := eGSsiTx) si26 (fun _ => rfl) rfl rfl rfl rfl hu26) ?_
            refine sv rfl (opv_loadNe (ys := [.i .i64 u26.ID, .i .i64 u26.Begin, .i .i64 u26.End, .i .i64 u26.State, .b u26.In, .b u26.Out, .b u26.RO, .sl u26.Keys.length (u26.Keys.flatMap (eL eU8))]) ti48 rfl (.cp _) rfl rfl) ?_
            refine salloc rfl zi48 ?_
            refine sstore sz48 rfl rfl rfl rfl (Nat.le_of_ble_eq_true rfl) ?_
            refine smem [.box [.sl v23.1.length (v23.1.flatMap eGSsiTx), .sl v23.2.1.length (v23.2.1.flatMap eGReadsRead), .i .i64 v23.2.2.1, .ls 1 v23.2.2.2.1.length, .ls 2 v23.2.2.2.2.1.length, .ls 3 v23.2.2.2.2.2.length], .arr 3 1 0 (v23.2.2.2.1.flatMap eI), .arr 46 8 0 (v23.2.2.2.2.1.flatMap eGR11Tx), .arr 76 4 0 (v23.2.2.2.2.2.flatMap eGR10Read), .box u26] rfl ?_
            refine snil ?_
            refine cseq ?_
            refine cregion ?_
            refine sv rfl (opv_fieldAddr_lp fi48_3 rfl) ?_
            refine sv rfl (opv_load1 ti3 rfl (.lp _ _ _ rfl) rfl) ?_
            refine sv rfl (opv_ieql rfl rfl) ?_
            refine sv rfl (opv_mv rfl) ?_
            refine ssplit 54 rfl (fun hc => ?_) (fun hc => ?_)
            · replace h := ite_t hc h
              clear hc
              refine son rfl rfl rfl ?_
              refine sv rfl (opv_fieldAddr_lp fi48_4 rfl) ?_
              refine son rfl rfl rfl ?_
              refine sv rfl (opv_load1 ti4 rfl (.lp _ _ _ rfl) rfl) ?_
              refine sv rfl (opv_pick_t rfl rfl) ?_
              refine sv rfl (opv_mv rfl) ?_
              refine ssplit 58 rfl (fun hc => ?_) (fun hc => ?_)
              · replace h := ite_t hc h
                clear hc
                refine son rfl rfl rfl ?_
                refine sv rfl (opv_fieldAddr_lp fi48_5 rfl) ?_
                refine son rfl rfl rfl ?_
                refine sv rfl (opv_load1 ti4 rfl (.lp _ _ _ rfl) rfl) ?_
                refine sv rfl (opv_pick_t rfl rfl) ?_
                refine snil ?_
                refine ccond rfl (fun hc => ?_) (fun hc => ?_)
                · replace h := ite_t hc h
                  clear hc
                  refine cseq ?_
                  refine cregion ?_
                  refine sv rfl (opv_as rfl) ?_
                  refine snil ?_
                  refine cret ?_
                  refine block_ret ?_
                  refine then_ret ?_
                  refine then_ret ?_
                  refine block_ret ?_
                  refine block_ret ?_
                  refine then_ret ?_
                  refine then_ret ?_
                  refine block_ret ?_
                  refine then_ret ?_
                  obtain rfl := Option.some.inj h
                  obtain rfl : Sum.inl _ = x25 := hk25
                  replace ho25 : some _ = some _ := ho25
                  obtain rfl := Option.some.inj ho25
                  obtain rfl : Sum.inl _ = x21 := hk21
                  replace ho21 : some _ = some _ := ho21
                  obtain rfl := Option.some.inj ho21
                  refine ⟨Or.inr rfl, _, _, _, (resVs_cons (ResV.tmp _ _ rfl) resVs_nil), (pubA_id rfl), ?_⟩
                  rfl
                · replace h := ite_f hc h
                  clear hc
                  refine cskip ?_
                  refine block_normal ?_
                  refine then_normal ?_
                  refine cregion ?_
                  refine sv rfl (opv_mv rfl) ?_
                  refine sv rfl (opv_add rfl rfl) ?_
                  refine sv rfl (opv_as rfl) ?_
                  refine snil ?_
                  obtain rfl := Option.some.inj h
                  exact ⟨(n25, (wI (s25 + 1))), _, hk25, ⟨rfl, rfl, rfl, rfl, rfl, trivial⟩, rfl, Nat.lt_succ_self _⟩
              · replace h := ite_f hc h
                clear hc
                refine soff rfl rfl rfl rfl ?_
                refine soff rfl rfl rfl rfl ?_
                refine sv rfl (opv_pick_f rfl rfl) ?_
                refine snil ?_
                refine ccond rfl (fun hx => Bool.noConfusion hx) (fun _ => ?_)
                refine cskip ?_
                refine block_normal ?_
                refine then_normal ?_
                refine cregion ?_
                refine sv rfl (opv_mv rfl) ?_
                refine sv rfl (opv_add rfl rfl) ?_
                refine sv rfl (opv_as rfl) ?_
                refine snil ?_
                obtain rfl := Option.some.inj h
                exact ⟨(n25, (wI (s25 + 1))), _, hk25, ⟨rfl, rfl, rfl, rfl, rfl, trivial⟩, rfl, Nat.lt_succ_self _⟩
            · replace h := ite_f hc h
              clear hc
              refine soff rfl rfl rfl rfl ?_
              refine soff rfl rfl rfl rfl ?_
              refine sv rfl (opv_pick_f rfl rfl) ?_
              refine sv rfl (opv_mv rfl) ?_
              refine soff rfl rfl rfl rfl ?_
              refine soff rfl rfl rfl rfl ?_
              refine sv rfl (opv_pick_f rfl rfl) ?_
              refine snil ?_
              refine ccond rfl (fun hx => Bool.noConfusion hx) (fun _ => ?_)
              refine cskip ?_
              refine block_normal ?_
              refine then_normal ?_
              refine cregion ?_
              refine sv rfl (opv_mv rfl) ?_
              refine sv rfl (opv_add rfl rfl) ?_
              refine sv rfl (opv_as rfl) ?_
              refine snil ?_
              obtain rfl := Option.some.inj h
              exact ⟨(n25, (wI (s25 + 1))), _, hk25, ⟨rfl, rfl, rfl, rfl, rfl, trivial⟩, rfl, Nat.lt_succ_self _⟩
          · replace h := ite_f hc h
            clear hc
            refine cexit ?_
            refine then_exit ?_
            refine then_exit ?_
            refine block_hit ?_
            refine block_normal ?_
            refine then_normal ?_
            obtain rfl := Option.some.inj h
            obtain rfl : _ = x25 := hk25
            exact ⟨(), _, ho25, ⟨rfl, rfl, rfl, rfl, trivial⟩, rfl⟩
      · replace h := ite_f hc h
        clear hc
        refine cexit ?_
        refine then_exit ?_
        refine then_exit ?_
        refine block_hit ?_
        refine then_normal ?_
        obtain rfl := Option.some.inj h
        obtain rfl : _ = x21 := hk21
        exact ⟨(s21.2.1, s21.2.2.1, s21.2.2.2.1, s21.2.2.2.2.1, s21.2.2.2.2.2.1, s21.2.2.2.2.2.2), _, ho21, ⟨rfl, rfl, trivial⟩, rfl⟩


end Go.Proofs.Ytbmciegldpeaiaa.Abs
