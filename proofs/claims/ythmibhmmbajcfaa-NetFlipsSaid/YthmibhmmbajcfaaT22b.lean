/-
  t
-/
import Derived.Test.YthmibhmmbajcfaaT22a
namespace Go.Proofs.Ythmibhmmbajcfaa.Abs
open Go.RowKit Go.Proofs
def m31_r22_Sane (a0 : GR22Net) : Option Bool :=
  if (decide (8 < (a0.Links.length : Int))) then (some false) else (if (decide (a0.Next < 0)) then (some false) else (if (decide (1099511627776 < a0.Next)) then (some false) else (if (decide (64 < (a0.Packets.length : Int))) then (some false) else (m31_r22_Sane_k1 a0 ()))))

set_option maxRecDepth 100000 in
theorem m31_r22_Sane_c {a0 : GR22Net} {r : Bool} (h : m31_r22_Sane a0 = some r) : CallsA Try.prog 31 [.agg a0] (· = .s (.one (.b r))) := by
  unfold m31_r22_Sane at h
  refine callsA_of Try.func31 rfl (nt := 140) rfl (Nat.le_of_ble_eq_true rfl) ?_
  intro w0 S0
  refine cseq ?_
  refine cregion ?_
  refine sbox rfl rfl ?_
  refine sv rfl (opv_as rfl) ?_
  refine snil ?_
  refine cseq ?_
  refine cseq ?_
  refine cjoin3 (Unit) (fun b1 => [(1, .s (.one (.lp 0 0)))]) (fun b1 => [.box a0]) (fun b1 => m31_r22_Sane_k1 a0 b1 = some r) (fun _ _ => inbL_of rfl) (fun _ _ => blkinb_of rfl) (fun _ _ => Nat.le_of_ble_eq_true rfl) (fun b1 h => ?_) ?_
  · unfold m31_r22_Sane_k1 at h
    refine cseq ?_
    refine cseq ?_
    refine cregion ?_
    refine sv rfl (opv_as rfl) ?_
    refine snil ?_
    refine cjoin (Unit) (fun b2 => [(1, .s (.one (.lp 0 0)))]) (fun b2 => [.box a0]) (fun b2 => m31_r22_Sane_k2 a0 b2 = some r) (fun _ _ => inbL_of rfl) (fun _ _ => blkinb_of rfl) (fun _ _ => Nat.le_of_ble_eq_true rfl) (fun b2 h => ?_) ?_
    · unfold m31_r22_Sane_k2 at h
      refine cseq ?_
      refine cseq ?_
      refine cregion ?_
      refine sv rfl (opv_as rfl) ?_
      refine snil ?_
      refine cjoin (Unit) (fun b3 => []) (fun b3 => [.box a0]) (fun b3 => m31_r22_Sane_k3 b3 = some r) (fun _ _ => inbL_of rfl) (fun _ _ => blkinb_of rfl) (fun _ _ => Nat.le_of_ble_eq_true rfl) (fun b3 h => ?_) ?_
      · unfold m31_r22_Sane_k3 at h
        refine cseq ?_
        refine cregion ?_
        refine sv rfl (opv_as rfl) ?_
        refine snil ?_
        refine cret ?_
        obtain rfl := Option.some.inj h
        refine ⟨Or.inr rfl, _, _, _, (resVs_cons (ResV.tmp _ _ rfl) resVs_nil), (pubA_id rfl), ?_⟩
        rfl
      · skip
        refine cblock ?_
        obtain ⟨x4, hx4, ho4⟩ := bind_eq h
        refine awc_loop (G := Nat × (Int)) (fun g => [(1, .s (.one (.lp 0 0))), (6, .s (.one (.i .i64 g.2)))]) (fun g => [.box a0]) (fun g => iter (m31_r22_Sane_s4 a0) g.1 g.2 = some x4) (fun g => g.1) (fuel, 0) hx4 ⟨rfl, rfl, trivial⟩ [] rfl (fun _ _ => inbL_of rfl) (fun _ _ => blkinb_of rfl) (fun _ _ => Nat.le_of_ble_eq_true rfl) ?_
        clear hx4 h
        rintro ⟨n4, s4⟩ h
        obtain ⟨n4, y4, rfl, h, hk4⟩ := iter_eq h
        unfold m31_r22_Sane_s4 at h
        refine cseq ?_
        refine cseq ?_
        refine cregion ?_
        refine sv rfl (opv_mv rfl) ?_
        refine sv rfl (opv_fieldAddr_lp fi25_1 rfl) ?_
        refine sv rfl (opv_load1 ti23 rfl (.lp _ _ _ rfl) rfl) ?_
        refine sv rfl (opv_len_sl si23 rfl) ?_
        refine sv rfl (opv_lss rfl rfl) ?_
        refine snil ?_
        refine ccond rfl (fun hc => ?_) (fun hc => ?_)
        · replace h := ite_t hc h
          clear hc
          refine cskip ?_
          refine then_normal ?_
          refine cseq ?_
          refine cblock ?_
          refine cseq ?_
          refine cregion ?_
          refine sv rfl (opv_fieldAddr_lp fi25_1 rfl) ?_
          refine sv rfl (opv_load1 ti23 rfl (.lp _ _ _ rfl) rfl) ?_
          refine sv rfl (opv_mv rfl) ?_
          obtain ⟨u5, hu5, h⟩ := bind_eq h
          refine sv rfl (opv_ix (f := eGR22Packet) si23 (fun _ => rfl) rfl rfl rfl rfl hu5) ?_
          refine sv rfl (opv_loadNe (ys := [.i .i64 u5.Link, .b u5.Up, .sl u5.Bytes.length (u5.Bytes.flatMap eU8)]) ti49 rfl (.cp _) rfl rfl) ?_
          refine salloc rfl zi49 ?_
          refine sstore sz49 rfl rfl rfl rfl (Nat.le_of_ble_eq_true rfl) ?_
          refine smem [.box a0, .box u5] rfl ?_
          refine snil ?_
          refine cseq ?_
          refine cregion ?_
          refine sv rfl (opv_fieldAddr_lp fi49_0 rfl) ?_
          refine sv rfl (opv_load1 ti3 rfl (.lp _ _ _ rfl) rfl) ?_
          refine sv rfl (opv_lss rfl rfl) ?_
          refine sv rfl (opv_mv rfl) ?_
          refine ssplit 121 rfl (fun hc => ?_) (fun hc => ?_)
          · replace h := ite_t hc h
            clear hc
            refine soff rfl rfl rfl rfl ?_
            refine soff rfl rfl rfl rfl ?_
            refine soff rfl rfl rfl rfl ?_
            refine soff rfl rfl rfl rfl ?_
            refine soff rfl rfl rfl rfl ?_
            refine sv rfl (opv_pick_t rfl rfl) ?_
            refine sv rfl (opv_mv rfl) ?_
            refine soff rfl rfl rfl rfl ?_
            refine soff rfl rfl rfl rfl ?_
            refine soff rfl rfl rfl rfl ?_
            refine soff rfl rfl rfl rfl ?_
            refine sv rfl (opv_pick_t rfl rfl) ?_
            refine sv rfl (opv_mv rfl) ?_
            refine soff rfl rfl rfl rfl ?_
            refine soff rfl rfl rfl rfl ?_
            refine soff rfl rfl rfl rfl ?_
            refine soff rfl rfl rfl rfl ?_
            refine sv rfl (opv_pick_t rfl rfl) ?_
            refine snil ?_
            refine ccond rfl (fun _ => ?_) (fun hx => Bool.noConfusion hx)
            refine cseq ?_
            refine cregion ?_
            refine sv rfl (opv_as rfl) ?_
            refine snil ?_
            refine cret ?_
            refine block_ret ?_
            refine then_ret ?_
            refine then_ret ?_
            refine block_ret ?_
            refine then_ret ?_
            obtain rfl := Option.some.inj h
            obtain rfl : Sum.inl _ = x4 := hk4
            replace ho4 : some _ = some _ := ho4
            obtain rfl := Option.some.inj ho4
            refine ⟨Or.inr rfl, _, _, _, (resVs_cons (ResV.tmp _ _ rfl) resVs_nil), (pubA_id rfl), ?_⟩
            rfl
          · replace h := ite_f hc h
            clear hc
            refine son rfl rfl rfl ?_
            refine sv rfl (opv_fieldAddr_lp fi49_0 rfl) ?_
            refine son rfl rfl rfl ?_
            refine sv rfl (opv_load1 ti3 rfl (.lp _ _ _ rfl) rfl) ?_
            refine son rfl rfl rfl ?_
            refine sv rfl (opv_fieldAddr_lp fi25_2 rfl) ?_
            refine son rfl rfl rfl ?_
            refine sv rfl (opv_load1 ti3 rfl (.lp _ _ _ rfl) rfl) ?_
            refine son rfl rfl rfl ?_
            refine sv rfl (opv_geq rfl rfl) ?_
            refine sv rfl (opv_pick_f rfl rfl) ?_
            refine sv rfl (opv_mv rfl) ?_
            refine ssplit 128 rfl (fun hc => ?_) (fun hc => ?_)
            · replace h := ite_t hc h
              clear hc
              refine soff rfl rfl rfl rfl ?_
              refine soff rfl rfl rfl rfl ?_
              refine soff rfl rfl rfl rfl ?_
              refine soff rfl rfl rfl rfl ?_
              refine sv rfl (opv_pick_t rfl rfl) ?_
              refine sv rfl (opv_mv rfl) ?_
              refine soff rfl rfl rfl rfl ?_
              refine soff rfl rfl rfl rfl ?_
              refine soff rfl rfl rfl rfl ?_
              refine soff rfl rfl rfl rfl ?_
              refine sv rfl (opv_pick_t rfl rfl) ?_
              refine snil ?_
              refine ccond rfl (fun _ => ?_) (fun hx => Bool.noConfusion hx)
              refine cseq ?_
              refine cregion ?_
              refine sv rfl (opv_as rfl) ?_
              refine snil ?_
              refine cret ?_
              refine block_ret ?_
              refine then_ret ?_
              refine then_ret ?_
              refine block_ret ?_
              refine then_ret ?_
              obtain rfl := Option.some.inj h
              obtain rfl : Sum.inl _ = x4 := hk4
              replace ho4 : some _ = some _ := ho4
              obtain rfl := Option.some.inj ho4
              refine ⟨Or.inr rfl, _, _, _, (resVs_cons (ResV.tmp _ _ rfl) resVs_nil), (pubA_id rfl), ?_⟩
              rfl
            · replace h := ite_f hc h
              clear hc
              refine son rfl rfl rfl ?_
              refine sv rfl (opv_fieldAddr_lp fi49_2 rfl) ?_
              refine son rfl rfl rfl ?_
              refine sv rfl (opv_load1 ti26 rfl (.lp _ _ _ rfl) rfl) ?_
              refine son rfl rfl rfl ?_
              refine sv rfl (opv_len_sl si26 rfl) ?_
              refine son rfl rfl rfl ?_
              refine sv rfl (opv_lss rfl rfl) ?_
              refine sv rfl (opv_pick_f rfl rfl) ?_
              refine sv rfl (opv_mv rfl) ?_
              refine ssplit 134 rfl (fun hc => ?_) (fun hc => ?_)
              · replace h := ite_t hc h
                clear hc
                refine soff rfl rfl rfl rfl ?_
                refine soff rfl rfl rfl rfl ?_
                refine soff rfl rfl rfl rfl ?_
                refine soff rfl rfl rfl rfl ?_
                refine sv rfl (opv_pick_t rfl rfl) ?_
                refine snil ?_
                refine ccond rfl (fun _ => ?_) (fun hx => Bool.noConfusion hx)
                refine cseq ?_
                refine cregion ?_
                refine sv rfl (opv_as rfl) ?_
                refine snil ?_
                refine cret ?_
                refine block_ret ?_
                refine then_ret ?_
                refine then_ret ?_
                refine block_ret ?_
                refine then_ret ?_
                obtain rfl := Option.some.inj h
                obtain rfl : Sum.inl _ = x4 := hk4
                replace ho4 : some _ = some _ := ho4
                obtain rfl := Option.some.inj ho4
                refine ⟨Or.inr rfl, _, _, _, (resVs_cons (ResV.tmp _ _ rfl) resVs_nil), (pubA_id rfl), ?_⟩
                rfl
              · replace h := ite_f hc h
                clear hc
                refine son rfl rfl rfl ?_
                refine sv rfl (opv_fieldAddr_lp fi49_2 rfl) ?_
                refine son rfl rfl rfl ?_
                refine sv rfl (opv_load1 ti26 rfl (.lp _ _ _ rfl) rfl) ?_
                refine son rfl rfl rfl ?_
                refine sv rfl (opv_len_sl si26 rfl) ?_
                refine son rfl rfl rfl ?_
                refine sv rfl (opv_gtr rfl rfl) ?_
                refine sv rfl (opv_pick_f rfl rfl) ?_
                refine snil ?_
                refine ccond rfl (fun hc => ?_) (fun hc => ?_)
                · replace h := ite_t hc h
                  clear hc
                  refine cseq ?_
                  refine cregion ?_
                  refine sv rfl (opv_as rfl) ?_
                  refine snil ?_
                  refine cret ?_
                  refine block_ret ?_
                  refine then_ret ?_
                  refine then_ret ?_
                  refine block_ret ?_
                  refine then_ret ?_
                  obtain rfl := Option.some.inj h
                  obtain rfl : Sum.inl _ = x4 := hk4
                  replace ho4 : some _ = some _ := ho4
                  obtain rfl := Option.some.inj ho4
                  refine ⟨Or.inr rfl, _, _, _, (resVs_cons (ResV.tmp _ _ rfl) resVs_nil), (pubA_id rfl), ?_⟩
                  rfl
                · replace h := ite_f hc h
                  clear hc
                  refine cskip ?_
                  refine block_normal ?_
                  refine then_normal ?_
                  refine cregion ?_
                  refine sv rfl (opv_mv rfl) ?_
                  refine sv rfl (opv_add rfl rfl) ?_
                  refine sv rfl (opv_as rfl) ?_
                  refine snil ?_
                  obtain rfl := Option.some.inj h
                  exact ⟨(n4, (wI (s4 + 1))), _, hk4, ⟨rfl, rfl, trivial⟩, rfl, Nat.lt_succ_self _⟩
        · replace h := ite_f hc h
          clear hc
          refine cexit ?_
          refine then_exit ?_
          refine then_exit ?_
          refine block_hit ?_
          refine then_normal ?_
          obtain rfl := Option.some.inj h
          obtain rfl : _ = x4 := hk4
          exact ⟨(), _, ho4, trivial, rfl⟩
    · skip
      refine cblock ?_
      obtain ⟨x7, hx7, ho7⟩ := bind_eq h
      refine awc_loop (G := Nat × (Int)) (fun g => [(1, .s (.one (.lp 0 0))), (3, .s (.one (.i .i64 g.2)))]) (fun g => [.box a0]) (fun g => iter (m31_r22_Sane_s7 a0) g.1 g.2 = some x7) (fun g => g.1) (fuel, 0) hx7 ⟨rfl, rfl, trivial⟩ [] rfl (fun _ _ => inbL_of rfl) (fun _ _ => blkinb_of rfl) (fun _ _ => Nat.le_of_ble_eq_true rfl) ?_
      clear hx7 h
      rintro ⟨n7, s7⟩ h
      obtain ⟨n7, y7, rfl, h, hk7⟩ := iter_eq h
      unfold m31_r22_Sane_s7 at h
      refine cseq ?_
      refine cseq ?_
      refine cregion ?_
      refine sv rfl (opv_mv rfl) ?_
      refine sv rfl (opv_fieldAddr_lp fi25_0 rfl) ?_
      refine sv rfl (opv_load1 ti22 rfl (.lp _ _ _ rfl) rfl) ?_
      refine sv rfl (opv_len_sl si22 rfl) ?_
      refine sv rfl (opv_lss rfl rfl) ?_
      refine snil ?_
      refine ccond rfl (fun hc => ?_) (fun hc => ?_)
      · replace h := ite_t hc h
        clear hc
        refine cskip ?_
        refine then_normal ?_
        refine cseq ?_
        refine cblock ?_
        refine cseq ?_
        refine cregion ?_
        refine sv rfl (opv_fieldAddr_lp fi25_0 rfl) ?_
        refine sv rfl (opv_load1 ti22 rfl (.lp _ _ _ rfl) rfl) ?_
        refine sv rfl (opv_mv rfl) ?_
        obtain ⟨u8, hu8, h⟩ := bind_eq h
        refine sv rfl (opv_ix (f := eGR22Link) si22 (fun _ => rfl) rfl rfl rfl rfl hu8) ?_
        refine sv rfl (opv_loadNe (ys := [.i .i64 u8.ID, .i .i64 u8.Client, .i .i64 u8.Conn]) ti75 rfl (.cp _) rfl rfl) ?_
        refine salloc rfl zi75 ?_
        refine sstore sz75 rfl rfl rfl rfl (Nat.le_of_ble_eq_true rfl) ?_
        refine smem [.box a0, .box u8] rfl ?_
        refine snil ?_
        refine cseq ?_
        refine cseq ?_
        refine cjoin3 (Unit) (fun b9 => [(1, .s (.one (.lp 0 0))), (3, .s (.one (.i .i64 s7))), (4, .s (.one (.lp 1 0)))]) (fun b9 => [.box a0, .box u8]) (fun b9 => m31_r22_Sane_k9 a0 s7 u8 b9 = some y7) (fun _ _ => inbL_of rfl) (fun _ _ => blkinb_of rfl) (fun _ _ => Nat.le_of_ble_eq_true rfl) (fun b9 h => ?_) ?_
        · unfold m31_r22_Sane_k9 at h
          refine cseq ?_
          refine cregion ?_
          refine sv rfl (opv_as rfl) ?_
          refine snil ?_
          refine cjoinb (Unit) (fun b10 => [(1, .s (.one (.lp 0 0))), (3, .s (.one (.i .i64 s7)))]) (fun b10 => [.box a0, .box u8]) (fun b10 => m31_r22_Sane_k10 s7 b10 = some y7) (fun _ _ => inbL_of rfl) (fun _ _ => blkinb_of rfl) (fun _ _ => Nat.le_of_ble_eq_true rfl) (fun b10 h => ?_) ?_
          · unfold m31_r22_Sane_k10 at h
            refine cregion ?_
            refine sv rfl (opv_mv rfl) ?_
            refine sv rfl (opv_add rfl rfl) ?_
            refine sv rfl (opv_as rfl) ?_
            refine snil ?_
            obtain rfl := Option.some.inj h
            exact ⟨(n7, (wI (s7 + 1))), _, hk7, ⟨rfl, rfl, trivial⟩, rfl, Nat.lt_succ_self _⟩
          · skip
            refine cblock ?_
            obtain ⟨x11, hx11, ho11⟩ := bind_eq h
            refine awc_loop (G := Nat × (Int)) (fun g => [(1, .s (.one (.lp 0 0))), (3, .s (.one (.i .i64 s7))), (4, .s (.one (.lp 1 0))), (5, .s (.one (.i .i64 g.2)))]) (fun g => [.box a0, .box u8]) (fun g => iter (m31_r22_Sane_s11 a0 s7 u8) g.1 g.2 = some x11) (fun g => g.1) (fuel, 0) hx11 ⟨rfl, rfl, rfl, rfl, trivial⟩ [] rfl (fun _ _ => inbL_of rfl) (fun _ _ => blkinb_of rfl) (fun _ _ => Nat.le_of_ble_eq_true rfl) ?_
            clear hx11 h
            rintro ⟨n11, s11⟩ h
            obtain ⟨n11, y11, rfl, h, hk11⟩ := iter_eq h
            unfold m31_r22_Sane_s11 at h
            refine cseq ?_
            refine cseq ?_
            refine cregion ?_
            refine sv rfl (opv_mv rfl) ?_
            refine sv rfl (opv_mv rfl) ?_
            refine sv rfl (opv_lss rfl rfl) ?_
            refine snil ?_
            refine ccond rfl (fun hc => ?_) (fun hc => ?_)
            · replace h := ite_t hc h
              clear hc
              refine cskip ?_
              refine then_normal ?_
              refine cseq ?_
              refine cblock ?_
              refine cseq ?_
              refine cdraw mixed (by kernel_rfl) ?_
              refine dv rfl (opv_fieldAddr_lp fi25_0 rfl) ?_
              refine dv rfl (opv_load1 ti22 rfl (.lp _ _ _ rfl) rfl) ?_
              refine dv rfl (opv_mv rfl) ?_
              obtain ⟨u12, hu12, h⟩ := bind_eq h
              refine dv rfl (opv_ix (f := eGR22Link) si22 (fun _ => rfl) rfl rfl rfl rfl hu12) ?_
              refine dv rfl (opv_fieldAddr_cp fi75_1 rfl) ?_
              refine dv rfl (opv_load1 ti3 rfl (.cp _) rfl) ?_
              refine dv rfl (opv_fieldAddr_lp fi75_1 rfl) ?_
              refine dv rfl (opv_load1 ti3 rfl (.lp _ _ _ rfl) rfl) ?_
              refine dv rfl (opv_ieql rfl rfl) ?_
              refine dv rfl (opv_mv rfl) ?_
              refine dsplit 95 rfl (fun hc => ?_) (fun hc => ?_)
              · replace h := ite_t hc h
                clear hc
                refine doff rfl rfl rfl rfl ?_
                refine doff rfl rfl rfl rfl ?_
                refine doff rfl rfl rfl rfl ?_
                refine doff rfl rfl rfl rfl ?_
                refine doff rfl rfl rfl rfl ?_
                refine doff rfl rfl rfl rfl ?_
                refine doff rfl rfl rfl rfl ?_
                refine doff rfl rfl rfl rfl ?_
                refine doff rfl rfl rfl rfl ?_
                refine dv rfl (opv_pick_t rfl rfl) ?_
                refine dnil ?_
                refine then_normal ?_
                refine ccond rfl (fun _ => ?_) (fun hx => Bool.noConfusion hx)
                refine cseq ?_
                refine cregion ?_
                refine sv rfl (opv_as rfl) ?_
                refine snil ?_
                refine cret ?_
                refine block_ret ?_
                refine then_ret ?_
                refine then_ret ?_
                refine block_ret ?_
                refine block_ret ?_
                refine then_ret ?_
                refine then_ret ?_
                refine block_ret ?_
                refine then_ret ?_
                obtain rfl := Option.some.inj h
                obtain rfl : Sum.inl _ = x11 := hk11
                replace ho11 : some _ = some _ := ho11
                obtain rfl := Option.some.inj ho11
                obtain rfl : Sum.inl _ = x7 := hk7
                replace ho7 : some _ = some _ := ho7
                obtain rfl := Option.some.inj ho7
                refine ⟨Or.inr rfl, _, _, _, (resVs_cons (ResV.tmp _ _ rfl) resVs_nil), (pubA_id rfl), ?_⟩
                rfl
              · replace h := ite_f hc h
                clear hc
                refine dvg rfl rfl rfl (opv_fieldAddr_lp fi25_0 rfl) ?_
                refine dvg rfl rfl rfl (opv_load1 ti22 rfl (.lp _ _ _ rfl) rfl) ?_
                refine dvg rfl rfl rfl (opv_mv rfl) ?_
                obtain ⟨u13, hu13, h⟩ := bind_eq h
                refine dvg rfl rfl rfl (opv_ix (f := eGR22Link) si22 (fun _ => rfl) rfl rfl rfl rfl hu13) ?_
                refine dvg rfl rfl rfl (opv_fieldAddr_cp fi75_2 rfl) ?_
                refine dvg rfl rfl rfl (opv_load1 ti3 rfl (.cp _) rfl) ?_
                refine dvg rfl rfl rfl (opv_fieldAddr_lp fi75_2 rfl) ?_
                refine dvg rfl rfl rfl (opv_load1 ti3 rfl (.lp _ _ _ rfl) rfl) ?_
                refine dvg rfl rfl rfl (opv_ieql rfl rfl) ?_
                refine dv rfl (opv_pick_f rfl rfl) ?_
                refine dnil ?_
                refine then_normal ?_
                refine ccond rfl (fun hc => ?_) (fun hc => ?_)
                · replace h := ite_t hc h
                  clear hc
                  refine cseq ?_
                  refine cregion ?_
                  refine sv rfl (opv_as rfl) ?_
                  refine snil ?_
                  refine cret ?_
                  refine block_ret ?_
                  refine then_ret ?_
                  refine then_ret ?_
                  refine block_ret ?_
                  refine block_ret ?_
                  refine then_ret ?_
                  refine then_ret ?_
                  refine block_ret ?_
                  refine then_ret ?_
                  obtain rfl := Option.some.inj h
                  obtain rfl : Sum.inl _ = x11 := hk11
                  replace ho11 : some _ = some _ := ho11
                  obtain rfl := Option.some.inj ho11
                  obtain rfl : Sum.inl _ = x7 := hk7
                  replace ho7 : some _ = some _ := ho7
                  obtain rfl := Option.some.inj ho7
                  refine ⟨Or.inr rfl, _, _, _, (resVs_cons (ResV.tmp _ _ rfl) resVs_nil), (pubA_id rfl), ?_⟩
                  rfl
                · replace h := ite_f hc h
                  clear hc
                  refine cskip ?_
                  refine block_normal ?_
                  refine then_normal ?_
                  refine cregion ?_
                  refine sv rfl (opv_mv rfl) ?_
                  refine sv rfl (opv_add rfl rfl) ?_
                  refine sv rfl (opv_as rfl) ?_
                  refine snil ?_
                  obtain rfl := Option.some.inj h
                  exact ⟨(n11, (wI (s11 + 1))), _, hk11, ⟨rfl, rfl, rfl, rfl, trivial⟩, rfl, Nat.lt_succ_self _⟩
            · replace h := ite_f hc h
              clear hc
              refine cexit ?_
              refine then_exit ?_
              refine then_exit ?_
              refine block_hit ?_
              refine block_normal ?_
              refine then_normal ?_
              obtain rfl := Option.some.inj h
              obtain rfl : _ = x11 := hk11
              exact ⟨(), _, ho11, ⟨rfl, rfl, trivial⟩, rfl⟩
        · skip
          refine cdraw mixed (by kernel_rfl) ?_
          refine dv rfl (opv_fieldAddr_lp fi75_0 rfl) ?_
          refine dv rfl (opv_load1 ti3 rfl (.lp _ _ _ rfl) rfl) ?_
          refine dv rfl (opv_lss rfl rfl) ?_
          refine dv rfl (opv_mv rfl) ?_
          refine dsplit 43 rfl (fun hc => ?_) (fun hc => ?_)
          · replace h := ite_t hc h
            clear hc
            refine doff rfl rfl rfl rfl ?_
            refine doff rfl rfl rfl rfl ?_
            refine doff rfl rfl rfl rfl ?_
            refine doff rfl rfl rfl rfl ?_
            refine doff rfl rfl rfl rfl ?_
            refine dv rfl (opv_pick_t rfl rfl) ?_
            refine dv rfl (opv_mv rfl) ?_
            refine doff rfl rfl rfl rfl ?_
            refine doff rfl rfl rfl rfl ?_
            refine doff rfl rfl rfl rfl ?_
            refine dv rfl (opv_pick_t rfl rfl) ?_
            refine dv rfl (opv_mv rfl) ?_
            refine doff rfl rfl rfl rfl ?_
            refine doff rfl rfl rfl rfl ?_
            refine doff rfl rfl rfl rfl ?_
            refine dv rfl (opv_pick_t rfl rfl) ?_
            refine dv rfl (opv_mv rfl) ?_
            refine doff rfl rfl rfl rfl ?_
            refine doff rfl rfl rfl rfl ?_
            refine doff rfl rfl rfl rfl ?_
            refine dv rfl (opv_pick_t rfl rfl) ?_
            refine dv rfl (opv_mv rfl) ?_
            refine doff rfl rfl rfl rfl ?_
            refine doff rfl rfl rfl rfl ?_
            refine doff rfl rfl rfl rfl ?_
            refine doffu rfl rfl rfl ?_
            refine doffu rfl rfl rfl ?_
            refine doffu rfl rfl rfl ?_
            refine doffu rfl rfl rfl ?_
            refine doffu rfl rfl rfl ?_
            refine doffu rfl rfl rfl ?_
            refine doffu rfl rfl rfl ?_
            refine doffu rfl rfl rfl ?_
            refine doffu rfl rfl rfl ?_
            refine doffu rfl rfl rfl ?_
            refine doff rfl rfl rfl rfl ?_
            refine dv rfl (opv_pick_t rfl rfl) ?_
            refine dnil ?_
            refine then_normal ?_
            refine ccond rfl (fun _ => ?_) (fun hx => Bool.noConfusion hx)
            refine cseq ?_
            refine cregion ?_
            refine sv rfl (opv_as rfl) ?_
            refine snil ?_
            refine cret ?_
            refine then_ret ?_
            refine block_ret ?_
            refine then_ret ?_
            refine then_ret ?_
            refine block_ret ?_
            refine then_ret ?_
            obtain rfl := Option.some.inj h
            obtain rfl : Sum.inl _ = x7 := hk7
            replace ho7 : some _ = some _ := ho7
            obtain rfl := Option.some.inj ho7
            refine ⟨Or.inr rfl, _, _, _, (resVs_cons (ResV.tmp _ _ rfl) resVs_nil), (pubA_id rfl), ?_⟩
            rfl
          · replace h := ite_f hc h
            clear hc
            refine dvg rfl rfl rfl (opv_fieldAddr_lp fi75_0 rfl) ?_
            refine dvg rfl rfl rfl (opv_load1 ti3 rfl (.lp _ _ _ rfl) rfl) ?_
            refine dvg rfl rfl rfl (opv_fieldAddr_lp fi25_2 rfl) ?_
            refine dvg rfl rfl rfl (opv_load1 ti3 rfl (.lp _ _ _ rfl) rfl) ?_
            refine dvg rfl rfl rfl (opv_geq rfl rfl) ?_
            refine dv rfl (opv_pick_f rfl rfl) ?_
            refine dv rfl (opv_mv rfl) ?_
            refine dsplit 50 rfl (fun hc => ?_) (fun hc => ?_)
            · replace h := ite_t hc h
              clear hc
              refine doff rfl rfl rfl rfl ?_
              refine doff rfl rfl rfl rfl ?_
              refine doff rfl rfl rfl rfl ?_
              refine dv rfl (opv_pick_t rfl rfl) ?_
              refine dv rfl (opv_mv rfl) ?_
              refine doff rfl rfl rfl rfl ?_
              refine doff rfl rfl rfl rfl ?_
              refine doff rfl rfl rfl rfl ?_
              refine dv rfl (opv_pick_t rfl rfl) ?_
              refine dv rfl (opv_mv rfl) ?_
              refine doff rfl rfl rfl rfl ?_
              refine doff rfl rfl rfl rfl ?_
              refine doff rfl rfl rfl rfl ?_
              refine dv rfl (opv_pick_t rfl rfl) ?_
              refine dv rfl (opv_mv rfl) ?_
              refine doff rfl rfl rfl rfl ?_
              refine doff rfl rfl rfl rfl ?_
              refine doff rfl rfl rfl rfl ?_
              refine doffu rfl rfl rfl ?_
              refine doffu rfl rfl rfl ?_
              refine doffu rfl rfl rfl ?_
              refine doffu rfl rfl rfl ?_
              refine doffu rfl rfl rfl ?_
              refine doffu rfl rfl rfl ?_
              refine doffu rfl rfl rfl ?_
              refine doffu rfl rfl rfl ?_
              refine doffu rfl rfl rfl ?_
              refine doffu rfl rfl rfl ?_
              refine doff rfl rfl rfl rfl ?_
              refine dv rfl (opv_pick_t rfl rfl) ?_
              refine dnil ?_
              refine then_normal ?_
              refine ccond rfl (fun _ => ?_) (fun hx => Bool.noConfusion hx)
              refine cseq ?_
              refine cregion ?_
              refine sv rfl (opv_as rfl) ?_
              refine snil ?_
              refine cret ?_
              refine then_ret ?_
              refine block_ret ?_
              refine then_ret ?_
              refine then_ret ?_
              refine block_ret ?_
              refine then_ret ?_
              obtain rfl := Option.some.inj h
              obtain rfl : Sum.inl _ = x7 := hk7
              replace ho7 : some _ = some _ := ho7
              obtain rfl := Option.some.inj ho7
              refine ⟨Or.inr rfl, _, _, _, (resVs_cons (ResV.tmp _ _ rfl) resVs_nil), (pubA_id rfl), ?_⟩
              rfl
            · replace h := ite_f hc h
              clear hc
              refine dvg rfl rfl rfl (opv_fieldAddr_lp fi75_1 rfl) ?_
              refine dvg rfl rfl rfl (opv_load1 ti3 rfl (.lp _ _ _ rfl) rfl) ?_
              refine dvg rfl rfl rfl (opv_lss rfl rfl) ?_
              refine dv rfl (opv_pick_f rfl rfl) ?_
              refine dv rfl (opv_mv rfl) ?_
              refine dsplit 55 rfl (fun hc => ?_) (fun hc => ?_)
              · replace h := ite_t hc h
                clear hc
                refine doff rfl rfl rfl rfl ?_
                refine doff rfl rfl rfl rfl ?_
                refine doff rfl rfl rfl rfl ?_
                refine dv rfl (opv_pick_t rfl rfl) ?_
                refine dv rfl (opv_mv rfl) ?_
                refine doff rfl rfl rfl rfl ?_
                refine doff rfl rfl rfl rfl ?_
                refine doff rfl rfl rfl rfl ?_
                refine dv rfl (opv_pick_t rfl rfl) ?_
                refine dv rfl (opv_mv rfl) ?_
                refine doff rfl rfl rfl rfl ?_
                refine doff rfl rfl rfl rfl ?_
                refine doff rfl rfl rfl rfl ?_
                refine doffu rfl rfl rfl ?_
                refine doffu rfl rfl rfl ?_
                refine doffu rfl rfl rfl ?_
                refine doffu rfl rfl rfl ?_
                refine doffu rfl rfl rfl ?_
                refine doffu rfl rfl rfl ?_
                refine doffu rfl rfl rfl ?_
                refine doffu rfl rfl rfl ?_
                refine doffu rfl rfl rfl ?_
                refine doffu rfl rfl rfl ?_
                refine doff rfl rfl rfl rfl ?_
                refine dv rfl (opv_pick_t rfl rfl) ?_
                refine dnil ?_
                refine then_normal ?_
                refine ccond rfl (fun _ => ?_) (fun hx => Bool.noConfusion hx)
                refine cseq ?_
                refine cregion ?_
                refine sv rfl (opv_as rfl) ?_
                refine snil ?_
                refine cret ?_
                refine then_ret ?_
                refine block_ret ?_
                refine then_ret ?_
                refine then_ret ?_
                refine block_ret ?_
                refine then_ret ?_
                obtain rfl := Option.some.inj h
                obtain rfl : Sum.inl _ = x7 := hk7
                replace ho7 : some _ = some _ := ho7
                obtain rfl := Option.some.inj ho7
                refine ⟨Or.inr rfl, _, _, _, (resVs_cons (ResV.tmp _ _ rfl) resVs_nil), (pubA_id rfl), ?_⟩
                rfl
              · replace h := ite_f hc h
                clear hc
                refine dvg rfl rfl rfl (opv_fieldAddr_lp fi75_1 rfl) ?_
                refine dvg rfl rfl rfl (opv_load1 ti3 rfl (.lp _ _ _ rfl) rfl) ?_
                refine dvg rfl rfl rfl (opv_gtr rfl rfl) ?_
                refine dv rfl (opv_pick_f rfl rfl) ?_
                refine dv rfl (opv_mv rfl) ?_
                refine dsplit 60 rfl (fun hc => ?_) (fun hc => ?_)
                · replace h := ite_t hc h
                  clear hc
                  refine doff rfl rfl rfl rfl ?_
                  refine doff rfl rfl rfl rfl ?_
                  refine doff rfl rfl rfl rfl ?_
                  refine dv rfl (opv_pick_t rfl rfl) ?_
                  refine dv rfl (opv_mv rfl) ?_
                  refine doff rfl rfl rfl rfl ?_
                  refine doff rfl rfl rfl rfl ?_
                  refine doff rfl rfl rfl rfl ?_
                  refine doffu rfl rfl rfl ?_
                  refine doffu rfl rfl rfl ?_
                  refine doffu rfl rfl rfl ?_
                  refine doffu rfl rfl rfl ?_
                  refine doffu rfl rfl rfl ?_
                  refine doffu rfl rfl rfl ?_
                  refine doffu rfl rfl rfl ?_
                  refine doffu rfl rfl rfl ?_
                  refine doffu rfl rfl rfl ?_
                  refine doffu rfl rfl rfl ?_
                  refine doff rfl rfl rfl rfl ?_
                  refine dv rfl (opv_pick_t rfl rfl) ?_
                  refine dnil ?_
                  refine then_normal ?_
                  refine ccond rfl (fun _ => ?_) (fun hx => Bool.noConfusion hx)
                  refine cseq ?_
                  refine cregion ?_
                  refine sv rfl (opv_as rfl) ?_
                  refine snil ?_
                  refine cret ?_
                  refine then_ret ?_
                  refine block_ret ?_
                  refine then_ret ?_
                  refine then_ret ?_
                  refine block_ret ?_
                  refine then_ret ?_
                  obtain rfl := Option.some.inj h
                  obtain rfl : Sum.inl _ = x7 := hk7
                  replace ho7 : some _ = some _ := ho7
                  obtain rfl := Option.some.inj ho7
                  refine ⟨Or.inr rfl, _, _, _, (resVs_cons (ResV.tmp _ _ rfl) resVs_nil), (pubA_id rfl), ?_⟩
                  rfl
                · replace h := ite_f hc h
                  clear hc
                  refine dvg rfl rfl rfl (opv_fieldAddr_lp fi75_2 rfl) ?_
                  refine dvg rfl rfl rfl (opv_load1 ti3 rfl (.lp _ _ _ rfl) rfl) ?_
                  refine dvg rfl rfl rfl (opv_lss rfl rfl) ?_
                  refine dv rfl (opv_pick_f rfl rfl) ?_
                  refine dv rfl (opv_mv rfl) ?_
                  refine dsplit 65 rfl (fun hc => ?_) (fun hc => ?_)
                  · replace h := ite_t hc h
                    clear hc
                    refine doff rfl rfl rfl rfl ?_
                    refine doff rfl rfl rfl rfl ?_
                    refine doff rfl rfl rfl rfl ?_
                    refine doffu rfl rfl rfl ?_
                    refine doffu rfl rfl rfl ?_
                    refine doffu rfl rfl rfl ?_
                    refine doffu rfl rfl rfl ?_
                    refine doffu rfl rfl rfl ?_
                    refine doffu rfl rfl rfl ?_
                    refine doffu rfl rfl rfl ?_
                    refine doffu rfl rfl rfl ?_
                    refine doffu rfl rfl rfl ?_
                    refine doffu rfl rfl rfl ?_
                    refine doff rfl rfl rfl rfl ?_
                    refine dv rfl (opv_pick_t rfl rfl) ?_
                    refine dnil ?_
                    refine then_normal ?_
                    refine ccond rfl (fun _ => ?_) (fun hx => Bool.noConfusion hx)
                    refine cseq ?_
                    refine cregion ?_
                    refine sv rfl (opv_as rfl) ?_
                    refine snil ?_
                    refine cret ?_
                    refine then_ret ?_
                    refine block_ret ?_
                    refine then_ret ?_
                    refine then_ret ?_
                    refine block_ret ?_
                    refine then_ret ?_
                    obtain rfl := Option.some.inj h
                    obtain rfl : Sum.inl _ = x7 := hk7
                    replace ho7 : some _ = some _ := ho7
                    obtain rfl := Option.some.inj ho7
                    refine ⟨Or.inr rfl, _, _, _, (resVs_cons (ResV.tmp _ _ rfl) resVs_nil), (pubA_id rfl), ?_⟩
                    rfl
                  · replace h := ite_f hc h
                    clear hc
                    refine dvg rfl rfl rfl (opv_mv rfl) ?_
                    refine dvg rfl rfl rfl (opv_gtr rfl rfl) ?_
                    refine dvg rfl rfl rfl (opv_mv rfl) ?_
                    refine dsplit 68 rfl (fun hc => ?_) (fun hc => ?_)
                    · replace h := ite_t hc h
                      clear hc
                      refine dvg rfl rfl rfl (opv_fieldAddr_lp fi75_0 rfl) ?_
                      refine dvg rfl rfl rfl (opv_load1 ti3 rfl (.lp _ _ _ rfl) rfl) ?_
                      refine dvg rfl rfl rfl (opv_fieldAddr_lp fi25_0 rfl) ?_
                      refine dvg rfl rfl rfl (opv_load1 ti22 rfl (.lp _ _ _ rfl) rfl) ?_
                      refine dvg rfl rfl rfl (opv_mv rfl) ?_
                      refine dvg rfl rfl rfl (opv_sub rfl rfl) ?_
                      obtain ⟨u15, hu15, h⟩ := bind_eq h
                      refine dvg rfl rfl rfl (opv_ix (f := eGR22Link) si22 (fun _ => rfl) rfl rfl rfl rfl hu15) ?_
                      refine dvg rfl rfl rfl (opv_fieldAddr_cp fi75_0 rfl) ?_
                      refine dvg rfl rfl rfl (opv_load1 ti3 rfl (.cp _) rfl) ?_
                      refine dvg rfl rfl rfl (opv_leq rfl rfl) ?_
                      refine dvg rfl rfl rfl (opv_pick_t rfl rfl) ?_
                      refine dv rfl (opv_pick_f rfl rfl) ?_
                      refine dnil ?_
                      refine then_normal ?_
                      refine ccond rfl (fun hc => ?_) (fun hc => ?_)
                      · replace h := ite_t hc h
                        clear hc
                        refine cseq ?_
                        refine cregion ?_
                        refine sv rfl (opv_as rfl) ?_
                        refine snil ?_
                        refine cret ?_
                        refine then_ret ?_
                        refine block_ret ?_
                        refine then_ret ?_
                        refine then_ret ?_
                        refine block_ret ?_
                        refine then_ret ?_
                        obtain rfl := Option.some.inj h
                        obtain rfl : Sum.inl _ = x7 := hk7
                        replace ho7 : some _ = some _ := ho7
                        obtain rfl := Option.some.inj ho7
                        refine ⟨Or.inr rfl, _, _, _, (resVs_cons (ResV.tmp _ _ rfl) resVs_nil), (pubA_id rfl), ?_⟩
                        rfl
                      · replace h := ite_f hc h
                        clear hc
                        refine cskip ?_
                        refine then_normal ?_
                        exact ⟨(), _, h, ⟨rfl, rfl, rfl, trivial⟩, rfl⟩
                    · replace h := ite_f hc h
                      clear hc
                      refine doff rfl rfl rfl rfl ?_
                      refine doff rfl rfl rfl rfl ?_
                      refine doff rfl rfl rfl rfl ?_
                      refine doff rfl rfl rfl rfl ?_
                      refine doff rfl rfl rfl rfl ?_
                      refine doff rfl rfl rfl rfl ?_
                      refine doff rfl rfl rfl rfl ?_
                      refine doff rfl rfl rfl rfl ?_
                      refine doff rfl rfl rfl rfl ?_
                      refine doff rfl rfl rfl rfl ?_
                      refine dvg rfl rfl rfl (opv_pick_f rfl rfl) ?_
                      refine dv rfl (opv_pick_f rfl rfl) ?_
                      refine dnil ?_
                      refine then_normal ?_
                      refine ccond rfl (fun hx => Bool.noConfusion hx) (fun _ => ?_)
                      refine cskip ?_
                      refine then_normal ?_
                      exact ⟨(), _, h, ⟨rfl, rfl, rfl, trivial⟩, rfl⟩
      · replace h := ite_f hc h
        clear hc
        refine cexit ?_
        refine then_exit ?_
        refine then_exit ?_
        refine block_hit ?_
        refine then_normal ?_
        obtain rfl := Option.some.inj h
        obtain rfl : _ = x7 := hk7
        exact ⟨(), _, ho7, ⟨rfl, trivial⟩, rfl⟩
  · skip
    refine cregion ?_
    refine sv rfl (opv_fieldAddr_lp fi25_0 rfl) ?_
    refine sv rfl (opv_load1 ti22 rfl (.lp _ _ _ rfl) rfl) ?_
    refine sv rfl (opv_len_sl si22 rfl) ?_
    refine sv rfl (opv_gtr rfl rfl) ?_
    refine sv rfl (opv_mv rfl) ?_
    refine ssplit 12 rfl (fun hc => ?_) (fun hc => ?_)
    · replace h := ite_t hc h
      clear hc
      refine soff rfl rfl rfl rfl ?_
      refine soff rfl rfl rfl rfl ?_
      refine soff rfl rfl rfl rfl ?_
      refine sv rfl (opv_pick_t rfl rfl) ?_
      refine sv rfl (opv_mv rfl) ?_
      refine soff rfl rfl rfl rfl ?_
      refine soff rfl rfl rfl rfl ?_
      refine soff rfl rfl rfl rfl ?_
      refine sv rfl (opv_pick_t rfl rfl) ?_
      refine sv rfl (opv_mv rfl) ?_
      refine soff rfl rfl rfl rfl ?_
      refine soff rfl rfl rfl rfl ?_
      refine soff rfl rfl rfl rfl ?_
      refine soff rfl rfl rfl rfl ?_
      refine sv rfl (opv_pick_t rfl rfl) ?_
      refine snil ?_
      refine ccond rfl (fun _ => ?_) (fun hx => Bool.noConfusion hx)
      refine cseq ?_
      refine cregion ?_
      refine sv rfl (opv_as rfl) ?_
      refine snil ?_
      refine cret ?_
      refine then_ret ?_
      obtain rfl := Option.some.inj h
      refine ⟨Or.inr rfl, _, _, _, (resVs_cons (ResV.tmp _ _ rfl) resVs_nil), (pubA_id rfl), ?_⟩
      rfl
    · replace h := ite_f hc h
      clear hc
      refine son rfl rfl rfl ?_
      refine sv rfl (opv_fieldAddr_lp fi25_2 rfl) ?_
      refine son rfl rfl rfl ?_
      refine sv rfl (opv_load1 ti3 rfl (.lp _ _ _ rfl) rfl) ?_
      refine son rfl rfl rfl ?_
      refine sv rfl (opv_lss rfl rfl) ?_
      refine sv rfl (opv_pick_f rfl rfl) ?_
      refine sv rfl (opv_mv rfl) ?_
      refine ssplit 17 rfl (fun hc => ?_) (fun hc => ?_)
      · replace h := ite_t hc h
        clear hc
        refine soff rfl rfl rfl rfl ?_
        refine soff rfl rfl rfl rfl ?_
        refine soff rfl rfl rfl rfl ?_
        refine sv rfl (opv_pick_t rfl rfl) ?_
        refine sv rfl (opv_mv rfl) ?_
        refine soff rfl rfl rfl rfl ?_
        refine soff rfl rfl rfl rfl ?_
        refine soff rfl rfl rfl rfl ?_
        refine soff rfl rfl rfl rfl ?_
        refine sv rfl (opv_pick_t rfl rfl) ?_
        refine snil ?_
        refine ccond rfl (fun _ => ?_) (fun hx => Bool.noConfusion hx)
        refine cseq ?_
        refine cregion ?_
        refine sv rfl (opv_as rfl) ?_
        refine snil ?_
        refine cret ?_
        refine then_ret ?_
        obtain rfl := Option.some.inj h
        refine ⟨Or.inr rfl, _, _, _, (resVs_cons (ResV.tmp _ _ rfl) resVs_nil), (pubA_id rfl), ?_⟩
        rfl
      · replace h := ite_f hc h
        clear hc
        refine son rfl rfl rfl ?_
        refine sv rfl (opv_fieldAddr_lp fi25_2 rfl) ?_
        refine son rfl rfl rfl ?_
        refine sv rfl (opv_load1 ti3 rfl (.lp _ _ _ rfl) rfl) ?_
        refine son rfl rfl rfl ?_
        refine sv rfl (opv_gtr rfl rfl) ?_
        refine sv rfl (opv_pick_f rfl rfl) ?_
        refine sv rfl (opv_mv rfl) ?_
        refine ssplit 22 rfl (fun hc => ?_) (fun hc => ?_)
        · replace h := ite_t hc h
          clear hc
          refine soff rfl rfl rfl rfl ?_
          refine soff rfl rfl rfl rfl ?_
          refine soff rfl rfl rfl rfl ?_
          refine soff rfl rfl rfl rfl ?_
          refine sv rfl (opv_pick_t rfl rfl) ?_
          refine snil ?_
          refine ccond rfl (fun _ => ?_) (fun hx => Bool.noConfusion hx)
          refine cseq ?_
          refine cregion ?_
          refine sv rfl (opv_as rfl) ?_
          refine snil ?_
          refine cret ?_
          refine then_ret ?_
          obtain rfl := Option.some.inj h
          refine ⟨Or.inr rfl, _, _, _, (resVs_cons (ResV.tmp _ _ rfl) resVs_nil), (pubA_id rfl), ?_⟩
          rfl
        · replace h := ite_f hc h
          clear hc
          refine son rfl rfl rfl ?_
          refine sv rfl (opv_fieldAddr_lp fi25_1 rfl) ?_
          refine son rfl rfl rfl ?_
          refine sv rfl (opv_load1 ti23 rfl (.lp _ _ _ rfl) rfl) ?_
          refine son rfl rfl rfl ?_
          refine sv rfl (opv_len_sl si23 rfl) ?_
          refine son rfl rfl rfl ?_
          refine sv rfl (opv_gtr rfl rfl) ?_
          refine sv rfl (opv_pick_f rfl rfl) ?_
          refine snil ?_
          refine ccond rfl (fun hc => ?_) (fun hc => ?_)
          · replace h := ite_t hc h
            clear hc
            refine cseq ?_
            refine cregion ?_
            refine sv rfl (opv_as rfl) ?_
            refine snil ?_
            refine cret ?_
            refine then_ret ?_
            obtain rfl := Option.some.inj h
            refine ⟨Or.inr rfl, _, _, _, (resVs_cons (ResV.tmp _ _ rfl) resVs_nil), (pubA_id rfl), ?_⟩
            rfl
          · replace h := ite_f hc h
            clear hc
            refine cskip ?_
            refine then_normal ?_
            exact ⟨(), _, h, ⟨rfl, trivial⟩, rfl⟩

def m38_r22_Of_k1 (b1 : Unit) : Option (GR22Link × Bool) :=
  some ((GR22Link.mk 0 0 0), false)

def m38_r22_Of_k3 (a0 : GR22Net) (a1 : Int) (s2 : Int) (b3 : Unit) : Option (LR (Int) (Unit) (GR22Link × Bool)) :=
  (idx a0.Links s2).bind fun u4 => if (decide (u4.Client = a1)) then ((idx a0.Links s2).bind fun u5 => some (.ret (u5, true))) else (some (.cont (wI (s2 + 1))))

def m38_r22_Of_s2 (a0 : GR22Net) (a1 : Int) (s2 : Int) : Option (LR (Int) (Unit) (GR22Link × Bool)) :=
  if (decide (s2 < (a0.Links.length : Int))) then ((m31_r22_Sane a0).bind fun v6 => if v6 then (m38_r22_Of_k3 a0 a1 s2 ()) else (some (.brk ()))) else (some (.brk ()))
def m38_r22_Of (a0 : GR22Net) (a1 : Int) : Option (GR22Link × Bool) :=
  (iter (m38_r22_Of_s2 a0 a1) fuel 0).bind fun x => match x with | .inl r => some r | .inr e7 => m38_r22_Of_k1 e7

set_option maxRecDepth 100000 in
theorem m38_r22_Of_c {a0 : GR22Net} {a1 : Int} {r : GR22Link × Bool} (h : m38_r22_Of a0 a1 = some r) : CallsA Try.prog 38 [.agg a0, .one (.i .i64 a1)] (· = .tup [.agg r.1, .one (.b r.2)]) := by
  unfold m38_r22_Of at h
  refine callsA_of Try.func38 rfl (nt := 32) rfl (Nat.le_of_ble_eq_true rfl) ?_
  intro w0 S0
  refine cseq ?_
  refine cregion ?_
  refine sbox rfl rfl ?_
  refine salloc rfl zi75 ?_
  refine sv rfl (opv_as rfl) ?_
  refine snil ?_
  refine cseq ?_
  refine cseq ?_
  refine cregion ?_
  refine sv rfl (opv_as rfl) ?_
  refine snil ?_
  refine cjoin (Unit) (fun b1 => [(4, .s (.one (.lp 1 0)))]) (fun b1 => [.box a0, .box [.i .i64 0, .i .i64 0, .i .i64 0]]) (fun b1 => m38_r22_Of_k1 b1 = some r) (fun _ _ => inbL_of rfl) (fun _ _ => blkinb_of rfl) (fun _ _ => Nat.le_of_ble_eq_true rfl) (fun b1 h => ?_) ?_
  · unfold m38_r22_Of_k1 at h
    refine cseq ?_
    refine cregion ?_
    refine sv rfl (opv_build zi75 pi75 parts_nil (.nil _)) ?_
    refine sstore sz75 rfl rfl rfl rfl (Nat.le_of_ble_eq_true rfl) ?_
    refine smem [.box a0, .box [.i .i64 0, .i .i64 0, .i .i64 0]] rfl ?_
    refine sv rfl (opv_as rfl) ?_
    refine snil ?_
    refine cret ?_
    obtain rfl := Option.some.inj h
    refine ⟨Or.inr rfl, _, _, _, (resVs_cons (ResV.agg _ _ _ _ _ ti75 rfl (.lp _ _ _ rfl) (Nat.le_of_ble_eq_true rfl)) (resVs_cons (ResV.tmp _ _ rfl) resVs_nil)), (pubA_id rfl), ?_⟩
    rfl
  · skip
    refine cblock ?_
    obtain ⟨x2, hx2, ho2⟩ := bind_eq h
    refine awc_loop (G := Nat × (Int)) (fun g => [(1, .s (.one (.i .i64 a1))), (2, .s (.one (.lp 0 0))), (4, .s (.one (.lp 1 0))), (6, .s (.one (.i .i64 g.2)))]) (fun g => [.box a0, .box [.i .i64 0, .i .i64 0, .i .i64 0]]) (fun g => iter (m38_r22_Of_s2 a0 a1) g.1 g.2 = some x2) (fun g => g.1) (fuel, 0) hx2 ⟨rfl, rfl, rfl, rfl, trivial⟩ [] rfl (fun _ _ => inbL_of rfl) (fun _ _ => blkinb_of rfl) (fun _ _ => Nat.le_of_ble_eq_true rfl) ?_
    clear hx2 h
    rintro ⟨n2, s2⟩ h
    obtain ⟨n2, y2, rfl, h, hk2⟩ := iter_eq h
    unfold m38_r22_Of_s2 at h
    refine cseq ?_
    refine cseq ?_
    refine cjoin3 (Unit) (fun b3 => [(1, .s (.one (.i .i64 a1))), (2, .s (.one (.lp 0 0))), (4, .s (.one (.lp 1 0))), (6, .s (.one (.i .i64 s2)))]) (fun b3 => [.box a0, .box [.i .i64 0, .i .i64 0, .i .i64 0]]) (fun b3 => m38_r22_Of_k3 a0 a1 s2 b3 = some y2) (fun _ _ => inbL_of rfl) (fun _ _ => blkinb_of rfl) (fun _ _ => Nat.le_of_ble_eq_true rfl) (fun b3 h => ?_) ?_
    · unfold m38_r22_Of_k3 at h
      refine cseq ?_
      refine cblock ?_
      refine cseq ?_
      refine cregion ?_
      refine sv rfl (opv_fieldAddr_lp fi25_0 rfl) ?_
      refine sv rfl (opv_load1 ti22 rfl (.lp _ _ _ rfl) rfl) ?_
      refine sv rfl (opv_mv rfl) ?_
      obtain ⟨u4, hu4, h⟩ := bind_eq h
      refine sv rfl (opv_ix (f := eGR22Link) si22 (fun _ => rfl) rfl rfl rfl rfl hu4) ?_
      refine sv rfl (opv_fieldAddr_cp fi75_1 rfl) ?_
      refine sv rfl (opv_load1 ti3 rfl (.cp _) rfl) ?_
      refine sv rfl (opv_mv rfl) ?_
      refine sv rfl (opv_ieql rfl rfl) ?_
      refine snil ?_
      refine ccond rfl (fun hc => ?_) (fun hc => ?_)
      · replace h := ite_t hc h
        clear hc
        refine cseq ?_
        refine cregion ?_
        refine sv rfl (opv_fieldAddr_lp fi25_0 rfl) ?_
        refine sv rfl (opv_load1 ti22 rfl (.lp _ _ _ rfl) rfl) ?_
        refine sv rfl (opv_mv rfl) ?_
        obtain ⟨u5, hu5, h⟩ := bind_eq h
        refine sv rfl (opv_ix (f := eGR22Link) si22 (fun _ => rfl) rfl rfl rfl rfl hu5) ?_
        refine sv rfl (opv_loadNe (ys := [.i .i64 u5.ID, .i .i64 u5.Client, .i .i64 u5.Conn]) ti75 rfl (.cp _) rfl rfl) ?_
        refine sstore sz75 rfl rfl rfl rfl (Nat.le_of_ble_eq_true rfl) ?_
        refine smem [.box a0, .box u5] rfl ?_
        refine sv rfl (opv_as rfl) ?_
        refine snil ?_
        refine cret ?_
        refine block_ret ?_
        refine then_ret ?_
        refine then_ret ?_
        refine block_ret ?_
        refine then_ret ?_
        obtain rfl := Option.some.inj h
        obtain rfl : Sum.inl _ = x2 := hk2
        replace ho2 : some _ = some _ := ho2
        obtain rfl := Option.some.inj ho2
        refine ⟨Or.inr rfl, _, _, _, (resVs_cons (ResV.agg _ _ _ _ _ ti75 rfl (.lp _ _ _ rfl) (Nat.le_of_ble_eq_true rfl)) (resVs_cons (ResV.tmp _ _ rfl) resVs_nil)), (pubA_id rfl), ?_⟩
        rfl
      · replace h := ite_f hc h
        clear hc
        refine cskip ?_
        refine block_normal ?_
        refine then_normal ?_
        refine cregion ?_
        refine sv rfl (opv_mv rfl) ?_
        refine sv rfl (opv_add rfl rfl) ?_
        refine sv rfl (opv_as rfl) ?_
        refine snil ?_
        obtain rfl := Option.some.inj h
        exact ⟨(n2, (wI (s2 + 1))), _, hk2, ⟨rfl, rfl, rfl, rfl, trivial⟩, rfl, Nat.lt_succ_self _⟩
    · skip
      refine cregion ?_
      refine sv rfl (opv_mv rfl) ?_
      refine sv rfl (opv_fieldAddr_lp fi25_0 rfl) ?_
      refine sv rfl (opv_load1 ti22 rfl (.lp _ _ _ rfl) rfl) ?_
      refine sv rfl (opv_len_sl si22 rfl) ?_
      refine sv rfl (opv_lss rfl rfl) ?_
      refine sv rfl (opv_mv rfl) ?_
      refine ssplit 12 rfl (fun hc => ?_) (fun hc => ?_)
      · replace h := ite_t hc h
        clear hc
        refine son rfl rfl rfl ?_
        refine sv rfl (opv_loadN ti25 rfl (.lp _ _ _ rfl) (Nat.le_of_ble_eq_true rfl)) ?_
        refine son rfl rfl rfl ?_
        obtain ⟨v6, hv6, h⟩ := bind_eq h
        refine scall1 rfl fn31 (opnds_cons rfl opnds_nil) (pubA_id rfl) (m31_r22_Sane_c hv6) ?_
        refine sv rfl (opv_pick_t rfl rfl) ?_
        refine snil ?_
        refine ccond rfl (fun hc => ?_) (fun hc => ?_)
        · replace h := ite_t hc h
          clear hc
          refine cskip ?_
          refine then_normal ?_
          exact ⟨(), _, h, ⟨rfl, rfl, rfl, rfl, trivial⟩, rfl⟩
        · replace h := ite_f hc h
          clear hc
          refine cexit ?_
          refine then_exit ?_
          refine then_exit ?_
          refine block_hit ?_
          refine then_normal ?_
          obtain rfl := Option.some.inj h
          obtain rfl : _ = x2 := hk2
          exact ⟨(), _, ho2, ⟨rfl, trivial⟩, rfl⟩
      · replace h := ite_f hc h
        clear hc
        refine soff rfl rfl rfl rfl ?_
        refine soff rfl rfl rfl rfl ?_
        refine sv rfl (opv_pick_f rfl rfl) ?_
        refine snil ?_
        refine ccond rfl (fun hx => Bool.noConfusion hx) (fun _ => ?_)
        refine cexit ?_
        refine then_exit ?_
        refine then_exit ?_
        refine block_hit ?_
        refine then_normal ?_
        obtain rfl := Option.some.inj h
        obtain rfl : _ = x2 := hk2
        exact ⟨(), _, ho2, ⟨rfl, trivial⟩, rfl⟩

def m39_r22_At_k1 (b1 : Unit) : Option (GR22Link × Bool) :=
  some ((GR22Link.mk 0 0 0), false)

def m39_r22_At_k3 (a0 : GR22Net) (a1 : Int) (s2 : Int) (b3 : Unit) : Option (LR (Int) (Unit) (GR22Link × Bool)) :=
  (idx a0.Links s2).bind fun u4 => if (decide (u4.Conn = a1)) then ((idx a0.Links s2).bind fun u5 => some (.ret (u5, true))) else (some (.cont (wI (s2 + 1))))

def m39_r22_At_s2 (a0 : GR22Net) (a1 : Int) (s2 : Int) : Option (LR (Int) (Unit) (GR22Link × Bool)) :=
  if (decide (s2 < (a0.Links.length : Int))) then ((m31_r22_Sane a0).bind fun v6 => if v6 then (m39_r22_At_k3 a0 a1 s2 ()) else (some (.brk ()))) else (some (.brk ()))
def m39_r22_At (a0 : GR22Net) (a1 : Int) : Option (GR22Link × Bool) :=
  (iter (m39_r22_At_s2 a0 a1) fuel 0).bind fun x => match x with | .inl r => some r | .inr e7 => m39_r22_At_k1 e7

set_option maxRecDepth 100000 in
theorem m39_r22_At_c {a0 : GR22Net} {a1 : Int} {r : GR22Link × Bool} (h : m39_r22_At a0 a1 = some r) : CallsA Try.prog 39 [.agg a0, .one (.i .i64 a1)] (· = .tup [.agg r.1, .one (.b r.2)]) := by
  unfold m39_r22_At at h
  refine callsA_of Try.func39 rfl (nt := 32) rfl (Nat.le_of_ble_eq_true rfl) ?_
  intro w0 S0
  refine cseq ?_
  refine cregion ?_
  refine sbox rfl rfl ?_
  refine salloc rfl zi75 ?_
  refine sv rfl (opv_as rfl) ?_
  refine snil ?_
  refine cseq ?_
  refine cseq ?_
  refine cregion ?_
  refine sv rfl (opv_as rfl) ?_
  refine snil ?_
  refine cjoin (Unit) (fun b1 => [(4, .s (.one (.lp 1 0)))]) (fun b1 => [.box a0, .box [.i .i64 0, .i .i64 0, .i .i64 0]]) (fun b1 => m39_r22_At_k1 b1 = some r) (fun _ _ => inbL_of rfl) (fun _ _ => blkinb_of rfl) (fun _ _ => Nat.le_of_ble_eq_true rfl) (fun b1 h => ?_) ?_
  · unfold m39_r22_At_k1 at h
    refine cseq ?_
    refine cregion ?_
    refine sv rfl (opv_build zi75 pi75 parts_nil (.nil _)) ?_
    refine sstore sz75 rfl rfl rfl rfl (Nat.le_of_ble_eq_true rfl) ?_
    refine smem [.box a0, .box [.i .i64 0, .i .i64 0, .i .i64 0]] rfl ?_
    refine sv rfl (opv_as rfl) ?_
    refine snil ?_
    refine cret ?_
    obtain rfl := Option.some.inj h
    refine ⟨Or.inr rfl, _, _, _, (resVs_cons (ResV.agg _ _ _ _ _ ti75 rfl (.lp _ _ _ rfl) (Nat.le_of_ble_eq_true rfl)) (resVs_cons (ResV.tmp _ _ rfl) resVs_nil)), (pubA_id rfl), ?_⟩
    rfl
  · skip
    refine cblock ?_
    obtain ⟨x2, hx2, ho2⟩ := bind_eq h
    refine awc_loop (G := Nat × (Int)) (fun g => [(1, .s (.one (.i .i64 a1))), (2, .s (.one (.lp 0 0))), (4, .s (.one (.lp 1 0))), (6, .s (.one (.i .i64 g.2)))]) (fun g => [.box a0, .box [.i .i64 0, .i .i64 0, .i .i64 0]]) (fun g => iter (m39_r22_At_s2 a0 a1) g.1 g.2 = some x2) (fun g => g.1) (fuel, 0) hx2 ⟨rfl, rfl, rfl, rfl, trivial⟩ [] rfl (fun _ _ => inbL_of rfl) (fun _ _ => blkinb_of rfl) (fun _ _ => Nat.le_of_ble_eq_true rfl) ?_
    clear hx2 h
    rintro ⟨n2, s2⟩ h
    obtain ⟨n2, y2, rfl, h, hk2⟩ := iter_eq h
    unfold m39_r22_At_s2 at h
    refine cseq ?_
    refine cseq ?_
    refine cjoin3 (Unit) (fun b3 => [(1, .s (.one (.i .i64 a1))), (2, .s (.one (.lp 0 0))), (4, .s (.one (.lp 1 0))), (6, .s (.one (.i .i64 s2)))]) (fun b3 => [.box a0, .box [.i .i64 0, .i .i64 0, .i .i64 0]]) (fun b3 => m39_r22_At_k3 a0 a1 s2 b3 = some y2) (fun _ _ => inbL_of rfl) (fun _ _ => blkinb_of rfl) (fun _ _ => Nat.le_of_ble_eq_true rfl) (fun b3 h => ?_) ?_
    · unfold m39_r22_At_k3 at h
      refine cseq ?_
      refine cblock ?_
      refine cseq ?_
      refine cregion ?_
      refine sv rfl (opv_fieldAddr_lp fi25_0 rfl) ?_
      refine sv rfl (opv_load1 ti22 rfl (.lp _ _ _ rfl) rfl) ?_
      refine sv rfl (opv_mv rfl) ?_
      obtain ⟨u4, hu4, h⟩ := bind_eq h
      refine sv rfl (opv_ix (f := eGR22Link) si22 (fun _ => rfl) rfl rfl rfl rfl hu4) ?_
      refine sv rfl (opv_fieldAddr_cp fi75_2 rfl) ?_
      refine sv rfl (opv_load1 ti3 rfl (.cp _) rfl) ?_
      refine sv rfl (opv_mv rfl) ?_
      refine sv rfl (opv_ieql rfl rfl) ?_
      refine snil ?_
      refine ccond rfl (fun hc => ?_) (fun hc => ?_)
      · replace h := ite_t hc h
        clear hc
        refine cseq ?_
        refine cregion ?_
        refine sv rfl (opv_fieldAddr_lp fi25_0 rfl) ?_
        refine sv rfl (opv_load1 ti22 rfl (.lp _ _ _ rfl) rfl) ?_
        refine sv rfl (opv_mv rfl) ?_
        obtain ⟨u5, hu5, h⟩ := bind_eq h
        refine sv rfl (opv_ix (f := eGR22Link) si22 (fun _ => rfl) rfl rfl rfl rfl hu5) ?_
        refine sv rfl (opv_loadNe (ys := [.i .i64 u5.ID, .i .i64 u5.Client, .i .i64 u5.Conn]) ti75 rfl (.cp _) rfl rfl) ?_
        refine sstore sz75 rfl rfl rfl rfl (Nat.le_of_ble_eq_true rfl) ?_
        refine smem [.box a0, .box u5] rfl ?_
        refine sv rfl (opv_as rfl) ?_
        refine snil ?_
        refine cret ?_
        refine block_ret ?_
        refine then_ret ?_
        refine then_ret ?_
        refine block_ret ?_
        refine then_ret ?_
        obtain rfl := Option.some.inj h
        obtain rfl : Sum.inl _ = x2 := hk2
        replace ho2 : some _ = some _ := ho2
        obtain rfl := Option.some.inj ho2
        refine ⟨Or.inr rfl, _, _, _, (resVs_cons (ResV.agg _ _ _ _ _ ti75 rfl (.lp _ _ _ rfl) (Nat.le_of_ble_eq_true rfl)) (resVs_cons (ResV.tmp _ _ rfl) resVs_nil)), (pubA_id rfl), ?_⟩
        rfl
      · replace h := ite_f hc h
        clear hc
        refine cskip ?_
        refine block_normal ?_
        refine then_normal ?_
        refine cregion ?_
        refine sv rfl (opv_mv rfl) ?_
        refine sv rfl (opv_add rfl rfl) ?_
        refine sv rfl (opv_as rfl) ?_
        refine snil ?_
        obtain rfl := Option.some.inj h
        exact ⟨(n2, (wI (s2 + 1))), _, hk2, ⟨rfl, rfl, rfl, rfl, trivial⟩, rfl, Nat.lt_succ_self _⟩
    · skip
      refine cregion ?_
      refine sv rfl (opv_mv rfl) ?_
      refine sv rfl (opv_fieldAddr_lp fi25_0 rfl) ?_
      refine sv rfl (opv_load1 ti22 rfl (.lp _ _ _ rfl) rfl) ?_
      refine sv rfl (opv_len_sl si22 rfl) ?_
      refine sv rfl (opv_lss rfl rfl) ?_
      refine sv rfl (opv_mv rfl) ?_
      refine ssplit 12 rfl (fun hc => ?_) (fun hc => ?_)
      · replace h := ite_t hc h
        clear hc
        refine son rfl rfl rfl ?_
        refine sv rfl (opv_loadN ti25 rfl (.lp _ _ _ rfl) (Nat.le_of_ble_eq_true rfl)) ?_
        refine son rfl rfl rfl ?_
        obtain ⟨v6, hv6, h⟩ := bind_eq h
        refine scall1 rfl fn31 (opnds_cons rfl opnds_nil) (pubA_id rfl) (m31_r22_Sane_c hv6) ?_
        refine sv rfl (opv_pick_t rfl rfl) ?_
        refine snil ?_
        refine ccond rfl (fun hc => ?_) (fun hc => ?_)
        · replace h := ite_t hc h
          clear hc
          refine cskip ?_
          refine then_normal ?_
          exact ⟨(), _, h, ⟨rfl, rfl, rfl, rfl, trivial⟩, rfl⟩
        · replace h := ite_f hc h
          clear hc
          refine cexit ?_
          refine then_exit ?_
          refine then_exit ?_
          refine block_hit ?_
          refine then_normal ?_
          obtain rfl := Option.some.inj h
          obtain rfl : _ = x2 := hk2
          exact ⟨(), _, ho2, ⟨rfl, trivial⟩, rfl⟩
      · replace h := ite_f hc h
        clear hc
        refine soff rfl rfl rfl rfl ?_
        refine soff rfl rfl rfl rfl ?_
        refine sv rfl (opv_pick_f rfl rfl) ?_
        refine snil ?_
        refine ccond rfl (fun hx => Bool.noConfusion hx) (fun _ => ?_)
        refine cexit ?_
        refine then_exit ?_
        refine then_exit ?_
        refine block_hit ?_
        refine then_normal ?_
        obtain rfl := Option.some.inj h
        obtain rfl : _ = x2 := hk2
        exact ⟨(), _, ho2, ⟨rfl, trivial⟩, rfl⟩

def m12_r22_Open_k4 (a0 : GR22Net) (a1 : Int) (a2 : Int) (b4 : Unit) : Option (GR22Net × Int × Int) :=
  if (decide (1099511627776 ≤ a0.Next)) then (some ((GR22Net.mk ([] : List GR22Link) ([] : List GR22Packet) 0), 0, 11)) else (if (decide (8 ≤ (a0.Links.length : Int))) then (some ((GR22Net.mk ([] : List GR22Link) ([] : List GR22Packet) 0), 0, 8)) else (if (([] : List GR22Link).length + a0.Links.length) * 24 ≤ 140737488355328 then (if ((([] : List GR22Link) ++ a0.Links).length + [(GR22Link.mk a0.Next a1 a2)].length) * 24 ≤ 140737488355328 then (some ((GR22Net.mk ((([] : List GR22Link) ++ a0.Links) ++ [(GR22Link.mk a0.Next a1 a2)]) a0.Packets (wI (a0.Next + 1))), a0.Next, 0)) else none) else none))

def m12_r22_Open_k1 (a0 : GR22Net) (a1 : Int) (a2 : Int) (b1 : Unit) : Option (GR22Net × Int × Int) :=
  (m38_r22_Of a0 a1).bind fun v2 => (m39_r22_At a0 a2).bind fun v3 => if v2.2 then (some ((GR22Net.mk ([] : List GR22Link) ([] : List GR22Packet) 0), 0, 7)) else (if v3.2 then (some ((GR22Net.mk ([] : List GR22Link) ([] : List GR22Packet) 0), 0, 7)) else (m12_r22_Open_k4 a0 a1 a2 ()))
def m12_r22_Open (a0 : GR22Net) (a1 : Int) (a2 : Int) : Option (GR22Net × Int × Int) :=
  (m31_r22_Sane a0).bind fun v7 => if (!v7) then (some ((GR22Net.mk ([] : List GR22Link) ([] : List GR22Packet) 0), 0, 1)) else (if (decide (a1 < 0)) then (some ((GR22Net.mk ([] : List GR22Link) ([] : List GR22Packet) 0), 0, 1)) else (if (decide (3 < a1)) then (some ((GR22Net.mk ([] : List GR22Link) ([] : List GR22Packet) 0), 0, 1)) else (if (decide (a2 < 0)) then (some ((GR22Net.mk ([] : List GR22Link) ([] : List GR22Packet) 0), 0, 1)) else (m12_r22_Open_k1 a0 a1 a2 ()))))

set_option maxRecDepth 100000 in
theorem m12_r22_Open_c {a0 : GR22Net} {a1 : Int} {a2 : Int} {r : GR22Net × Int × Int} (h : m12_r22_Open a0 a1 a2 = some r) : CallsA Try.prog 12 [.agg a0, .one (.i .i64 a1), .one (.i .i64 a2)] (· = .tup [.agg r.1, .one (.i .i64 r.2.1), .one (.i .i64 r.2.2)]) := by
  unfold m12_r22_Open at h
  refine callsA_of Try.func12 rfl (nt := 77) rfl (Nat.le_of_ble_eq_true rfl) ?_
  intro w0 S0
  refine cseq ?_
  refine cregion ?_
  refine sbox rfl rfl ?_
  refine salloc rfl zi25 ?_
  refine sv rfl (opv_as rfl) ?_
  refine sv rfl (opv_as rfl) ?_
  refine snil ?_
  refine cseq ?_
  refine cseq ?_
  refine cjoin3 (Unit) (fun b1 => [(1, .s (.one (.i .i64 a1))), (2, .s (.one (.i .i64 a2))), (3, .s (.one (.lp 0 0))), (6, .s (.one (.lp 1 0)))]) (fun b1 => [.box a0, .box [.raw (.slice none 0 0), .raw (.slice none 0 0), .i .i64 0]]) (fun b1 => m12_r22_Open_k1 a0 a1 a2 b1 = some r) (fun _ _ => inbL_of rfl) (fun _ _ => blkinb_of rfl) (fun _ _ => Nat.le_of_ble_eq_true rfl) (fun b1 h => ?_) ?_
  · unfold m12_r22_Open_k1 at h
    refine cseq ?_
    refine cregion ?_
    refine sv rfl (opv_loadN ti25 rfl (.lp _ _ _ rfl) (Nat.le_of_ble_eq_true rfl)) ?_
    refine sv rfl (opv_mv rfl) ?_
    obtain ⟨v2, hv2, h⟩ := bind_eq h
    refine scall1 rfl fn38 (opnds_cons rfl (opnds_cons rfl opnds_nil)) (pubA_id rfl) (m38_r22_Of_c hv2) ?_
    refine sv rfl (opv_mvt rfl) ?_
    refine sv rfl (opv_extract rfl rfl) ?_
    refine sv rfl (opv_extract rfl rfl) ?_
    refine salloc rfl zi75 ?_
    refine sstore sz75 rfl rfl rfl rfl (Nat.le_of_ble_eq_true rfl) ?_
    refine smem [.box a0, .box [.raw (.slice none 0 0), .raw (.slice none 0 0), .i .i64 0], .box v2.1] rfl ?_
    refine sv rfl (opv_as rfl) ?_
    refine snil ?_
    refine cseq ?_
    refine cregion ?_
    refine sv rfl (opv_loadN ti25 rfl (.lp _ _ _ rfl) (Nat.le_of_ble_eq_true rfl)) ?_
    refine sv rfl (opv_mv rfl) ?_
    obtain ⟨v3, hv3, h⟩ := bind_eq h
    refine scall1 rfl fn39 (opnds_cons rfl (opnds_cons rfl opnds_nil)) (pubA_id rfl) (m39_r22_At_c hv3) ?_
    refine sv rfl (opv_mvt rfl) ?_
    refine sv rfl (opv_extract rfl rfl) ?_
    refine sv rfl (opv_extract rfl rfl) ?_
    refine salloc rfl zi75 ?_
    refine sstore sz75 rfl rfl rfl rfl (Nat.le_of_ble_eq_true rfl) ?_
    refine smem [.box a0, .box [.raw (.slice none 0 0), .raw (.slice none 0 0), .i .i64 0], .box v2.1, .box v3.1] rfl ?_
    refine sv rfl (opv_as rfl) ?_
    refine snil ?_
    refine cseq ?_
    refine cseq ?_
    refine cjoin3 (Unit) (fun b4 => [(1, .s (.one (.i .i64 a1))), (2, .s (.one (.i .i64 a2))), (3, .s (.one (.lp 0 0))), (6, .s (.one (.lp 1 0)))]) (fun b4 => [.box a0, .box [.raw (.slice none 0 0), .raw (.slice none 0 0), .i .i64 0], .box v2.1, .box v3.1]) (fun b4 => m12_r22_Open_k4 a0 a1 a2 b4 = some r) (fun _ _ => inbL_of rfl) (fun _ _ => blkinb_of rfl) (fun _ _ => Nat.le_of_ble_eq_true rfl) (fun b4 h => ?_) ?_
    · unfold m12_r22_Open_k4 at h
      refine cseq ?_
      refine cseq ?_
      refine cregion ?_
      refine sv rfl (opv_fieldAddr_lp fi25_2 rfl) ?_
      refine sv rfl (opv_load1 ti3 rfl (.lp _ _ _ rfl) rfl) ?_
      refine sv rfl (opv_geq rfl rfl) ?_
      refine snil ?_
      refine ccond rfl (fun hc => ?_) (fun hc => ?_)
      · replace h := ite_t hc h
        clear hc
        refine cseq ?_
        refine cregion ?_
        refine sv rfl (opv_build zi25 pi25 parts_nil (.nil _)) ?_
        refine sstore sz25 rfl rfl rfl rfl (Nat.le_of_ble_eq_true rfl) ?_
        refine smem [.box a0, .box [.raw (.slice none 0 0), .raw (.slice none 0 0), .i .i64 0], .box v2.1, .box v3.1] rfl ?_
        refine sv rfl (opv_as rfl) ?_
        refine sv rfl (opv_as rfl) ?_
        refine snil ?_
        refine cret ?_
        refine then_ret ?_
        obtain rfl := Option.some.inj h
        refine ⟨Or.inr rfl, _, _, _, (resVs_cons (ResV.agg _ _ _ _ _ ti25 rfl (.lp _ _ _ rfl) (Nat.le_of_ble_eq_true rfl)) (resVs_cons (ResV.tmp _ _ rfl) (resVs_cons (ResV.tmp _ _ rfl) resVs_nil))), (pubC rfl), ?_⟩
        rfl
      · replace h := ite_f hc h
        clear hc
        refine cskip ?_
        refine then_normal ?_
        refine cseq ?_
        refine cseq ?_
        refine cregion ?_
        refine sv rfl (opv_fieldAddr_lp fi25_0 rfl) ?_
        refine sv rfl (opv_load1 ti22 rfl (.lp _ _ _ rfl) rfl) ?_
        refine sv rfl (opv_len_sl si22 rfl) ?_
        refine sv rfl (opv_geq rfl rfl) ?_
        refine snil ?_
        refine ccond rfl (fun hc => ?_) (fun hc => ?_)
        · replace h := ite_t hc h
          clear hc
          refine cseq ?_
          refine cregion ?_
          refine sv rfl (opv_build zi25 pi25 parts_nil (.nil _)) ?_
          refine sstore sz25 rfl rfl rfl rfl (Nat.le_of_ble_eq_true rfl) ?_
          refine smem [.box a0, .box [.raw (.slice none 0 0), .raw (.slice none 0 0), .i .i64 0], .box v2.1, .box v3.1] rfl ?_
          refine sv rfl (opv_as rfl) ?_
          refine sv rfl (opv_as rfl) ?_
          refine snil ?_
          refine cret ?_
          refine then_ret ?_
          obtain rfl := Option.some.inj h
          refine ⟨Or.inr rfl, _, _, _, (resVs_cons (ResV.agg _ _ _ _ _ ti25 rfl (.lp _ _ _ rfl) (Nat.le_of_ble_eq_true rfl)) (resVs_cons (ResV.tmp _ _ rfl) (resVs_cons (ResV.tmp _ _ rfl) resVs_nil))), (pubC rfl), ?_⟩
          rfl
        · replace h := ite_f hc h
          clear hc
          refine cskip ?_
          refine then_normal ?_
          refine cseq ?_
          refine cregion ?_
          refine sbuild0 rfl Try.underlying22 ei75 ?_
          refine sv rfl (opv_fieldAddr_lp fi25_0 rfl) ?_
          refine sv rfl (opv_load1 ti22 rfl (.lp _ _ _ rfl) rfl) ?_
          obtain ⟨hb5, h⟩ := chk_eq h
          refine sapp (f := eGR22Link) (xs := ([] : List GR22Link)) (us := a0.Links) rfl Try.underlying22 ei75 ni22 (fun _ => rfl) rfl rfl (.one _ _ _ _ (.id _ rfl)) rfl rfl rfl (.sl _ _ _ (flat_len (f := eGR22Link) (fun _ => rfl) _)) rfl rfl hb5 (by decide) ?_
          refine sv rfl (opv_as rfl) ?_
          refine snil ?_
          refine cseq ?_
          refine cregion ?_
          refine sv rfl (opv_mv rfl) ?_
          refine sv rfl (opv_fieldAddr_lp fi25_2 rfl) ?_
          refine sv rfl (opv_load1 ti3 rfl (.lp _ _ _ rfl) rfl) ?_
          refine sv rfl (opv_mv rfl) ?_
          refine sv rfl (opv_mv rfl) ?_
          refine sv rfl (opv_build zi75 pi75 (parts_cons rfl (parts_cons rfl (parts_cons rfl parts_nil))) (.cons _ _ _ _ _ _ _ rfl rfl (Nat.le_of_ble_eq_true rfl) (.cons _ _ _ _ _ _ _ rfl rfl (Nat.le_of_ble_eq_true rfl) (.cons _ _ _ _ _ _ _ rfl rfl (Nat.le_of_ble_eq_true rfl) (.nil _))))) ?_
          refine sbuild1 rfl Try.underlying22 ei75 rfl rfl (List.all_eq_true.1 rfl) (by decide) ?_
          refine smem [.box a0, .box [.raw (.slice none 0 0), .raw (.slice none 0 0), .i .i64 0], .box v2.1, .box v3.1, .arr 75 3 0 ((([] : List GR22Link) ++ a0.Links).flatMap eGR22Link), .arr 75 3 0 ([(GR22Link.mk a0.Next a1 a2)].flatMap eGR22Link)] rfl ?_
          obtain ⟨hb6, h⟩ := chk_eq h
          refine sapp (f := eGR22Link) (xs := (([] : List GR22Link) ++ a0.Links)) (us := [(GR22Link.mk a0.Next a1 a2)]) rfl Try.underlying22 ei75 ni22 (fun _ => rfl) rfl rfl (.one _ _ _ _ (.ls _ _ _ _ _ _ rfl (flat_len (f := eGR22Link) (fun _ => rfl) [(GR22Link.mk a0.Next a1 a2)]).symm)) rfl rfl rfl (.sl _ _ _ (flat_len (f := eGR22Link) (fun _ => rfl) _)) rfl rfl hb6 (by decide) ?_
          refine sv rfl (opv_as rfl) ?_
          refine snil ?_
          refine cseq ?_
          refine cdraw_e [9] [0, 0, 2, 0, 8, 24, 63, 0, 128, 127, 1023, 2047] [[.box a0, .box [.raw (.slice none 0 0), .raw (.slice none 0 0), .i .i64 0], .box v2.1, .box v3.1, .arr 75 3 0 (((([] : List GR22Link) ++ a0.Links) ++ [(GR22Link.mk a0.Next a1 a2)]).flatMap eGR22Link), .arr 75 3 ([(GR22Link.mk a0.Next a1 a2)].flatMap eGR22Link).length ([(GR22Link.mk a0.Next a1 a2)].flatMap eGR22Link)], [.box a0, .box [.ls 4 ((([] : List GR22Link) ++ a0.Links) ++ [(GR22Link.mk a0.Next a1 a2)]).length, .sl a0.Packets.length (a0.Packets.flatMap eGR22Packet), .i .i64 (wI (a0.Next + 1))], .box v2.1, .box v3.1, .arr 75 3 0 (((([] : List GR22Link) ++ a0.Links) ++ [(GR22Link.mk a0.Next a1 a2)]).flatMap eGR22Link), .arr 75 3 ([(GR22Link.mk a0.Next a1 a2)].flatMap eGR22Link).length ([(GR22Link.mk a0.Next a1 a2)].flatMap eGR22Link)]] (by kernel_rfl) mixed (by kernel_rfl) (by decide) rfl rfl rfl rfl ?_
          refine ev (sees_at 0 rfl rfl) rfl rfl (opv_mv rfl) ?_
          refine ev (sees_at 0 rfl rfl) rfl rfl (opv_fieldAddr_lp fi25_1 rfl) ?_
          refine ev (sees_at 0 rfl rfl) rfl rfl (opv_load1 ti23 rfl (.lp _ _ _ rfl) rfl) ?_
          refine ev (sees_at 0 rfl rfl) rfl rfl (opv_fieldAddr_lp fi25_2 rfl) ?_
          refine ev (sees_at 0 rfl rfl) rfl rfl (opv_load1 ti3 rfl (.lp _ _ _ rfl) rfl) ?_
          refine ev (sees_at 0 rfl rfl) rfl rfl (opv_add rfl rfl) ?_
          refine ev (sees_at 0 rfl rfl) rfl rfl (opv_build zi25 pi25 (parts_cons rfl (parts_cons rfl (parts_cons rfl parts_nil))) (.cons _ _ _ _ _ _ _ rfl rfl (Nat.le_of_ble_eq_true rfl) (.cons _ _ _ _ _ _ _ rfl rfl (Nat.le_of_ble_eq_true rfl) (.cons _ _ _ _ _ _ _ rfl rfl (Nat.le_of_ble_eq_true rfl) (.nil _))))) ?_
          refine ev (sees_all (md := [.box a0, .dead, .box v2.1, .box v3.1, .arr 75 3 0 (((([] : List GR22Link) ++ a0.Links) ++ [(GR22Link.mk a0.Next a1 a2)]).flatMap eGR22Link), .arr 75 3 ([(GR22Link.mk a0.Next a1 a2)].flatMap eGR22Link).length ([(GR22Link.mk a0.Next a1 a2)].flatMap eGR22Link)]) ⟨⟨rfl, ⟨trivial, ⟨rfl, ⟨rfl, ⟨rfl, ⟨rfl, trivial⟩⟩⟩⟩⟩⟩, ⟨⟨rfl, ⟨trivial, ⟨rfl, ⟨rfl, ⟨rfl, ⟨rfl, trivial⟩⟩⟩⟩⟩⟩, trivial⟩⟩) rfl rfl (opv_fieldAddr_lp fi25_2 rfl) ?_
          refine ev (sees_all (md := [.box a0, .dead, .box v2.1, .box v3.1, .arr 75 3 0 (((([] : List GR22Link) ++ a0.Links) ++ [(GR22Link.mk a0.Next a1 a2)]).flatMap eGR22Link), .arr 75 3 ([(GR22Link.mk a0.Next a1 a2)].flatMap eGR22Link).length ([(GR22Link.mk a0.Next a1 a2)].flatMap eGR22Link)]) ⟨⟨rfl, ⟨trivial, ⟨rfl, ⟨rfl, ⟨rfl, ⟨rfl, trivial⟩⟩⟩⟩⟩⟩, ⟨⟨rfl, ⟨trivial, ⟨rfl, ⟨rfl, ⟨rfl, ⟨rfl, trivial⟩⟩⟩⟩⟩⟩, trivial⟩⟩) rfl rfl (opv_load1 ti3 rfl (.lp _ _ _ rfl) rfl) ?_
          refine ee0 0 rfl rfl rfl rfl (fun ζ => ?_) ?_
          · refine sstore sz25 rfl rfl rfl rfl (Nat.le_of_ble_eq_true rfl) ?_
            refine smem [.box a0, .box [.ls 4 ((([] : List GR22Link) ++ a0.Links) ++ [(GR22Link.mk a0.Next a1 a2)]).length, .sl a0.Packets.length (a0.Packets.flatMap eGR22Packet), .i .i64 (wI (a0.Next + 1))], .box v2.1, .box v3.1, .arr 75 3 0 (((([] : List GR22Link) ++ a0.Links) ++ [(GR22Link.mk a0.Next a1 a2)]).flatMap eGR22Link), .arr 75 3 ([(GR22Link.mk a0.Next a1 a2)].flatMap eGR22Link).length ([(GR22Link.mk a0.Next a1 a2)].flatMap eGR22Link)] rfl ?_
            exact eend
          refine ev (sees_at 1 rfl rfl) rfl rfl (opv_as rfl) ?_
          refine ev (sees_at 1 rfl rfl) rfl rfl (opv_as rfl) ?_
          refine enil ?_
          refine then_normal ?_
          refine cret ?_
          obtain rfl := Option.some.inj h
          refine ⟨Or.inr rfl, _, _, _, (resVs_cons (ResV.agg _ _ _ _ _ ti25 rfl (.lp _ _ _ rfl) (Nat.le_of_ble_eq_true rfl)) (resVs_cons (ResV.tmp _ _ rfl) (resVs_cons (ResV.tmp _ _ rfl) resVs_nil))), (by (repeat' first | exact PubA.nil _ | apply PubA.cons | apply PubV.one | apply PubV.agg | exact PubL.nil | exact PubL.ls _ _ _ _ _ _ rfl (flat_len (f := eGR22Link) (fun _ => rfl) _).symm | exact PubL.id _ rfl | exact PubLs.nil _ | apply PubLs.cons)), ?_⟩
          rfl
    · skip
      refine cregion ?_
      refine sv rfl (opv_mv rfl) ?_
      refine sv rfl (opv_mv rfl) ?_
      refine ssplit 43 rfl (fun hc => ?_) (fun hc => ?_)
      · replace h := ite_t hc h
        clear hc
        refine soff rfl rfl rfl rfl ?_
        refine sv rfl (opv_pick_t rfl rfl) ?_
        refine snil ?_
        refine ccond rfl (fun _ => ?_) (fun hx => Bool.noConfusion hx)
        refine cseq ?_
        refine cregion ?_
        refine sv rfl (opv_build zi25 pi25 parts_nil (.nil _)) ?_
        refine sstore sz25 rfl rfl rfl rfl (Nat.le_of_ble_eq_true rfl) ?_
        refine smem [.box a0, .box [.raw (.slice none 0 0), .raw (.slice none 0 0), .i .i64 0], .box v2.1, .box v3.1] rfl ?_
        refine sv rfl (opv_as rfl) ?_
        refine sv rfl (opv_as rfl) ?_
        refine snil ?_
        refine cret ?_
        refine then_ret ?_
        obtain rfl := Option.some.inj h
        refine ⟨Or.inr rfl, _, _, _, (resVs_cons (ResV.agg _ _ _ _ _ ti25 rfl (.lp _ _ _ rfl) (Nat.le_of_ble_eq_true rfl)) (resVs_cons (ResV.tmp _ _ rfl) (resVs_cons (ResV.tmp _ _ rfl) resVs_nil))), (pubC rfl), ?_⟩
        rfl
      · replace h := ite_f hc h
        clear hc
        refine son rfl rfl rfl ?_
        refine sv rfl (opv_mv rfl) ?_
        refine sv rfl (opv_pick_f rfl rfl) ?_
        refine snil ?_
        refine ccond rfl (fun hc => ?_) (fun hc => ?_)
        · replace h := ite_t hc h
          clear hc
          refine cseq ?_
          refine cregion ?_
          refine sv rfl (opv_build zi25 pi25 parts_nil (.nil _)) ?_
          refine sstore sz25 rfl rfl rfl rfl (Nat.le_of_ble_eq_true rfl) ?_
          refine smem [.box a0, .box [.raw (.slice none 0 0), .raw (.slice none 0 0), .i .i64 0], .box v2.1, .box v3.1] rfl ?_
          refine sv rfl (opv_as rfl) ?_
          refine sv rfl (opv_as rfl) ?_
          refine snil ?_
          refine cret ?_
          refine then_ret ?_
          obtain rfl := Option.some.inj h
          refine ⟨Or.inr rfl, _, _, _, (resVs_cons (ResV.agg _ _ _ _ _ ti25 rfl (.lp _ _ _ rfl) (Nat.le_of_ble_eq_true rfl)) (resVs_cons (ResV.tmp _ _ rfl) (resVs_cons (ResV.tmp _ _ rfl) resVs_nil))), (pubC rfl), ?_⟩
          rfl
        · replace h := ite_f hc h
          clear hc
          refine cskip ?_
          refine then_normal ?_
          exact ⟨(), _, h, ⟨rfl, rfl, rfl, rfl, trivial⟩, rfl⟩
  · skip
    refine cregion ?_
    refine sv rfl (opv_loadN ti25 rfl (.lp _ _ _ rfl) (Nat.le_of_ble_eq_true rfl)) ?_
    obtain ⟨v7, hv7, h⟩ := bind_eq h
    refine scall1 rfl fn31 (opnds_cons rfl opnds_nil) (pubA_id rfl) (m31_r22_Sane_c hv7) ?_
    refine sv rfl (opv_not rfl) ?_
    refine sv rfl (opv_mv rfl) ?_
    refine ssplit 17 rfl (fun hc => ?_) (fun hc => ?_)
    · replace h := ite_t hc h
      clear hc
      refine soff rfl rfl rfl rfl ?_
      refine soff rfl rfl rfl rfl ?_
      refine sv rfl (opv_pick_t rfl rfl) ?_
      refine sv rfl (opv_mv rfl) ?_
      refine soff rfl rfl rfl rfl ?_
      refine soff rfl rfl rfl rfl ?_
      refine sv rfl (opv_pick_t rfl rfl) ?_
      refine sv rfl (opv_mv rfl) ?_
      refine soff rfl rfl rfl rfl ?_
      refine soff rfl rfl rfl rfl ?_
      refine sv rfl (opv_pick_t rfl rfl) ?_
      refine snil ?_
      refine ccond rfl (fun _ => ?_) (fun hx => Bool.noConfusion hx)
      refine cseq ?_
      refine cregion ?_
      refine sv rfl (opv_build zi25 pi25 parts_nil (.nil _)) ?_
      refine sstore sz25 rfl rfl rfl rfl (Nat.le_of_ble_eq_true rfl) ?_
      refine smem [.box a0, .box [.raw (.slice none 0 0), .raw (.slice none 0 0), .i .i64 0]] rfl ?_
      refine sv rfl (opv_as rfl) ?_
      refine sv rfl (opv_as rfl) ?_
      refine snil ?_
      refine cret ?_
      refine then_ret ?_
      obtain rfl := Option.some.inj h
      refine ⟨Or.inr rfl, _, _, _, (resVs_cons (ResV.agg _ _ _ _ _ ti25 rfl (.lp _ _ _ rfl) (Nat.le_of_ble_eq_true rfl)) (resVs_cons (ResV.tmp _ _ rfl) (resVs_cons (ResV.tmp _ _ rfl) resVs_nil))), (pubC rfl), ?_⟩
      rfl
    · replace h := ite_f hc h
      clear hc
      refine son rfl rfl rfl ?_
      refine sv rfl (opv_mv rfl) ?_
      refine son rfl rfl rfl ?_
      refine sv rfl (opv_lss rfl rfl) ?_
      refine sv rfl (opv_pick_f rfl rfl) ?_
      refine sv rfl (opv_mv rfl) ?_
      refine ssplit 21 rfl (fun hc => ?_) (fun hc => ?_)
      · replace h := ite_t hc h
        clear hc
        refine soff rfl rfl rfl rfl ?_
        refine soff rfl rfl rfl rfl ?_
        refine sv rfl (opv_pick_t rfl rfl) ?_
        refine sv rfl (opv_mv rfl) ?_
        refine soff rfl rfl rfl rfl ?_
        refine soff rfl rfl rfl rfl ?_
        refine sv rfl (opv_pick_t rfl rfl) ?_
        refine snil ?_
        refine ccond rfl (fun _ => ?_) (fun hx => Bool.noConfusion hx)
        refine cseq ?_
        refine cregion ?_
        refine sv rfl (opv_build zi25 pi25 parts_nil (.nil _)) ?_
        refine sstore sz25 rfl rfl rfl rfl (Nat.le_of_ble_eq_true rfl) ?_
        refine smem [.box a0, .box [.raw (.slice none 0 0), .raw (.slice none 0 0), .i .i64 0]] rfl ?_
        refine sv rfl (opv_as rfl) ?_
        refine sv rfl (opv_as rfl) ?_
        refine snil ?_
        refine cret ?_
        refine then_ret ?_
        obtain rfl := Option.some.inj h
        refine ⟨Or.inr rfl, _, _, _, (resVs_cons (ResV.agg _ _ _ _ _ ti25 rfl (.lp _ _ _ rfl) (Nat.le_of_ble_eq_true rfl)) (resVs_cons (ResV.tmp _ _ rfl) (resVs_cons (ResV.tmp _ _ rfl) resVs_nil))), (pubC rfl), ?_⟩
        rfl
      · replace h := ite_f hc h
        clear hc
        refine son rfl rfl rfl ?_
        refine sv rfl (opv_mv rfl) ?_
        refine son rfl rfl rfl ?_
        refine sv rfl (opv_gtr rfl rfl) ?_
        refine sv rfl (opv_pick_f rfl rfl) ?_
        refine sv rfl (opv_mv rfl) ?_
        refine ssplit 25 rfl (fun hc => ?_) (fun hc => ?_)
        · replace h := ite_t hc h
          clear hc
          refine soff rfl rfl rfl rfl ?_
          refine soff rfl rfl rfl rfl ?_
          refine sv rfl (opv_pick_t rfl rfl) ?_
          refine snil ?_
          refine ccond rfl (fun _ => ?_) (fun hx => Bool.noConfusion hx)
          refine cseq ?_
          refine cregion ?_
          refine sv rfl (opv_build zi25 pi25 parts_nil (.nil _)) ?_
          refine sstore sz25 rfl rfl rfl rfl (Nat.le_of_ble_eq_true rfl) ?_
          refine smem [.box a0, .box [.raw (.slice none 0 0), .raw (.slice none 0 0), .i .i64 0]] rfl ?_
          refine sv rfl (opv_as rfl) ?_
          refine sv rfl (opv_as rfl) ?_
          refine snil ?_
          refine cret ?_
          refine then_ret ?_
          obtain rfl := Option.some.inj h
          refine ⟨Or.inr rfl, _, _, _, (resVs_cons (ResV.agg _ _ _ _ _ ti25 rfl (.lp _ _ _ rfl) (Nat.le_of_ble_eq_true rfl)) (resVs_cons (ResV.tmp _ _ rfl) (resVs_cons (ResV.tmp _ _ rfl) resVs_nil))), (pubC rfl), ?_⟩
          rfl
        · replace h := ite_f hc h
          clear hc
          refine son rfl rfl rfl ?_
          refine sv rfl (opv_mv rfl) ?_
          refine son rfl rfl rfl ?_
          refine sv rfl (opv_lss rfl rfl) ?_
          refine sv rfl (opv_pick_f rfl rfl) ?_
          refine snil ?_
          refine ccond rfl (fun hc => ?_) (fun hc => ?_)
          · replace h := ite_t hc h
            clear hc
            refine cseq ?_
            refine cregion ?_
            refine sv rfl (opv_build zi25 pi25 parts_nil (.nil _)) ?_
            refine sstore sz25 rfl rfl rfl rfl (Nat.le_of_ble_eq_true rfl) ?_
            refine smem [.box a0, .box [.raw (.slice none 0 0), .raw (.slice none 0 0), .i .i64 0]] rfl ?_
            refine sv rfl (opv_as rfl) ?_
            refine sv rfl (opv_as rfl) ?_
            refine snil ?_
            refine cret ?_
            refine then_ret ?_
            obtain rfl := Option.some.inj h
            refine ⟨Or.inr rfl, _, _, _, (resVs_cons (ResV.agg _ _ _ _ _ ti25 rfl (.lp _ _ _ rfl) (Nat.le_of_ble_eq_true rfl)) (resVs_cons (ResV.tmp _ _ rfl) (resVs_cons (ResV.tmp _ _ rfl) resVs_nil))), (pubC rfl), ?_⟩
            rfl
          · replace h := ite_f hc h
            clear hc
            refine cskip ?_
            refine then_normal ?_
            exact ⟨(), _, h, ⟨rfl, rfl, rfl, rfl, trivial⟩, rfl⟩

def m43_r22_with (a0 : GR22Net) (a1 : GR22Packet) : Option (GR22Net × Int) :=
  if (decide (64 ≤ (a0.Packets.length : Int))) then (some ((GR22Net.mk ([] : List GR22Link) ([] : List GR22Packet) 0), 8)) else (if (([] : List GR22Packet).length + a0.Packets.length) * 40 ≤ 140737488355328 then (if ((([] : List GR22Packet) ++ a0.Packets).length + [a1].length) * 40 ≤ 140737488355328 then (some ((GR22Net.mk a0.Links ((([] : List GR22Packet) ++ a0.Packets) ++ [a1]) a0.Next), 0)) else none) else none)

set_option maxRecDepth 100000 in
theorem m43_r22_with_c {a0 : GR22Net} {a1 : GR22Packet} {r : GR22Net × Int} (h : m43_r22_with a0 a1 = some r) : CallsA Try.prog 43 [.agg a0, .agg a1] (· = .tup [.agg r.1, .one (.i .i64 r.2)]) := by
  unfold m43_r22_with at h
  refine callsA_of Try.func43 rfl (nt := 26) rfl (Nat.le_of_ble_eq_true rfl) ?_
  intro w0 S0
  refine cseq ?_
  refine cregion ?_
  refine sbox rfl rfl ?_
  refine sbox rfl rfl ?_
  refine salloc rfl zi25 ?_
  refine sv rfl (opv_as rfl) ?_
  refine snil ?_
  refine cseq ?_
  refine cseq ?_
  refine cregion ?_
  refine sv rfl (opv_fieldAddr_lp fi25_1 rfl) ?_
  refine sv rfl (opv_load1 ti23 rfl (.lp _ _ _ rfl) rfl) ?_
  refine sv rfl (opv_len_sl si23 rfl) ?_
  refine sv rfl (opv_geq rfl rfl) ?_
  refine snil ?_
  refine ccond rfl (fun hc => ?_) (fun hc => ?_)
  · replace h := ite_t hc h
    clear hc
    refine cseq ?_
    refine cregion ?_
    refine sv rfl (opv_build zi25 pi25 parts_nil (.nil _)) ?_
    refine sstore sz25 rfl rfl rfl rfl (Nat.le_of_ble_eq_true rfl) ?_
    refine smem [.box a0, .box a1, .box [.raw (.slice none 0 0), .raw (.slice none 0 0), .i .i64 0]] rfl ?_
    refine sv rfl (opv_as rfl) ?_
    refine snil ?_
    refine cret ?_
    refine then_ret ?_
    obtain rfl := Option.some.inj h
    refine ⟨Or.inr rfl, _, _, _, (resVs_cons (ResV.agg _ _ _ _ _ ti25 rfl (.lp _ _ _ rfl) (Nat.le_of_ble_eq_true rfl)) (resVs_cons (ResV.tmp _ _ rfl) resVs_nil)), (pubC rfl), ?_⟩
    rfl
  · replace h := ite_f hc h
    clear hc
    refine cskip ?_
    refine then_normal ?_
    refine cseq ?_
    refine cregion ?_
    refine sbuild0 rfl Try.underlying23 ei49 ?_
    refine sv rfl (opv_fieldAddr_lp fi25_1 rfl) ?_
    refine sv rfl (opv_load1 ti23 rfl (.lp _ _ _ rfl) rfl) ?_
    obtain ⟨hb1, h⟩ := chk_eq h
    refine sapp (f := eGR22Packet) (xs := ([] : List GR22Packet)) (us := a0.Packets) rfl Try.underlying23 ei49 ni23 (fun _ => rfl) rfl rfl (.one _ _ _ _ (.id _ rfl)) rfl rfl rfl (.sl _ _ _ (flat_len (f := eGR22Packet) (fun _ => rfl) _)) rfl rfl hb1 (by decide) ?_
    refine sv rfl (opv_as rfl) ?_
    refine snil ?_
    refine cseq ?_
    refine cregion ?_
    refine sv rfl (opv_mv rfl) ?_
    refine sv rfl (opv_loadN ti49 rfl (.lp _ _ _ rfl) (Nat.le_of_ble_eq_true rfl)) ?_
    refine sbuild1 rfl Try.underlying23 ei49 rfl rfl (List.all_eq_true.1 rfl) (by decide) ?_
    refine smem [.box a0, .box a1, .box [.raw (.slice none 0 0), .raw (.slice none 0 0), .i .i64 0], .arr 49 3 0 ((([] : List GR22Packet) ++ a0.Packets).flatMap eGR22Packet), .arr 49 3 0 ([a1].flatMap eGR22Packet)] rfl ?_
    obtain ⟨hb2, h⟩ := chk_eq h
    refine sapp (f := eGR22Packet) (xs := (([] : List GR22Packet) ++ a0.Packets)) (us := [a1]) rfl Try.underlying23 ei49 ni23 (fun _ => rfl) rfl rfl (.one _ _ _ _ (.ls _ _ _ _ _ _ rfl (flat_len (f := eGR22Packet) (fun _ => rfl) [a1]).symm)) rfl rfl rfl (.sl _ _ _ (flat_len (f := eGR22Packet) (fun _ => rfl) _)) rfl rfl hb2 (by decide) ?_
    refine sv rfl (opv_as rfl) ?_
    refine snil ?_
    refine cseq ?_
    refine cregion ?_
    refine sv rfl (opv_fieldAddr_lp fi25_0 rfl) ?_
    refine sv rfl (opv_load1 ti22 rfl (.lp _ _ _ rfl) rfl) ?_
    refine sv rfl (opv_mv rfl) ?_
    refine sv rfl (opv_fieldAddr_lp fi25_2 rfl) ?_
    refine sv rfl (opv_load1 ti3 rfl (.lp _ _ _ rfl) rfl) ?_
    refine sv rfl (opv_build zi25 pi25 (parts_cons rfl (parts_cons rfl (parts_cons rfl parts_nil))) (.cons _ _ _ _ _ _ _ rfl rfl (Nat.le_of_ble_eq_true rfl) (.cons _ _ _ _ _ _ _ rfl rfl (Nat.le_of_ble_eq_true rfl) (.cons _ _ _ _ _ _ _ rfl rfl (Nat.le_of_ble_eq_true rfl) (.nil _))))) ?_
    refine sstore sz25 rfl rfl rfl rfl (Nat.le_of_ble_eq_true rfl) ?_
    refine smem [.box a0, .box a1, .box [.sl a0.Links.length (a0.Links.flatMap eGR22Link), .ls 3 ((([] : List GR22Packet) ++ a0.Packets) ++ [a1]).length, .i .i64 a0.Next], .arr 49 3 0 (((([] : List GR22Packet) ++ a0.Packets) ++ [a1]).flatMap eGR22Packet), .arr 49 3 ([a1].flatMap eGR22Packet).length ([a1].flatMap eGR22Packet)] rfl ?_
    refine sv rfl (opv_as rfl) ?_
    refine snil ?_
    refine cret ?_
    obtain rfl := Option.some.inj h
    refine ⟨Or.inr rfl, _, _, _, (resVs_cons (ResV.agg _ _ _ _ _ ti25 rfl (.lp _ _ _ rfl) (Nat.le_of_ble_eq_true rfl)) (resVs_cons (ResV.tmp _ _ rfl) resVs_nil)), (by (repeat' first | exact PubA.nil _ | apply PubA.cons | apply PubV.one | apply PubV.agg | exact PubL.nil | exact PubL.ls _ _ _ _ _ _ rfl (flat_len (f := eGR22Packet) (fun _ => rfl) _).symm | exact PubL.id _ rfl | exact PubLs.nil _ | apply PubLs.cons)), ?_⟩
    rfl

def m14_r22_Send_k3 (a0 : GR22Net) (a1 : Int) (a2 : Bool) (a3 : List UInt8) (b3 : Unit) : Option (GR22Net × Int) :=
  (m43_r22_with a0 (GR22Packet.mk a1 a2 a3)).bind fun v4 => some (v4.1, v4.2)

def m14_r22_Send_k2 (a0 : GR22Net) (a1 : Int) (a2 : Bool) (a3 : List UInt8) (b2 : Bool) : Option (GR22Net × Int) :=
  if (!b2) then (some ((GR22Net.mk ([] : List GR22Link) ([] : List GR22Packet) 0), 6)) else (if (decide ((a3.length : Int) < 1)) then (some ((GR22Net.mk ([] : List GR22Link) ([] : List GR22Packet) 0), 1)) else (if (decide (2048 < (a3.length : Int))) then (some ((GR22Net.mk ([] : List GR22Link) ([] : List GR22Packet) 0), 1)) else (m14_r22_Send_k3 a0 a1 a2 a3 ())))

def m14_r22_Send_s5 (a0 : GR22Net) (a1 : Int) (s5 : Bool × Int) : Option (LB (Bool × Int) (Bool)) :=
  if (decide (s5.2 < (a0.Links.length : Int))) then (if s5.1 then (some (.cont (true, (wI (s5.2 + 1))))) else ((idx a0.Links s5.2).bind fun u6 => some (.cont ((decide (u6.ID = a1)), (wI (s5.2 + 1)))))) else (some (.brk s5.1))
def m14_r22_Send (a0 : GR22Net) (a1 : Int) (a2 : Bool) (a3 : List UInt8) : Option (GR22Net × Int) :=
  (m31_r22_Sane a0).bind fun v1 => if (!v1) then (some ((GR22Net.mk ([] : List GR22Link) ([] : List GR22Packet) 0), 1)) else ((iterB (m14_r22_Send_s5 a0 a1) fuel (false, 0)).bind fun e7 => m14_r22_Send_k2 a0 a1 a2 a3 e7)

set_option maxRecDepth 100000 in
theorem m14_r22_Send_c {a0 : GR22Net} {a1 : Int} {a2 : Bool} {a3 : List UInt8} {r : GR22Net × Int} (h : m14_r22_Send a0 a1 a2 a3 = some r) : CallsA Try.prog 14 [.agg a0, .one (.i .i64 a1), .one (.b a2), .one (.sl a3.length (a3.flatMap eU8))] (· = .tup [.agg r.1, .one (.i .i64 r.2)]) := by
  unfold m14_r22_Send at h
  refine callsA_of Try.func14 rfl (nt := 54) rfl (Nat.le_of_ble_eq_true rfl) ?_
  intro w0 S0
  refine cseq ?_
  refine cregion ?_
  refine sbox rfl rfl ?_
  refine salloc rfl zi25 ?_
  refine sv rfl (opv_as rfl) ?_
  refine snil ?_
  refine cseq ?_
  refine cseq ?_
  refine cregion ?_
  refine sv rfl (opv_loadN ti25 rfl (.lp _ _ _ rfl) (Nat.le_of_ble_eq_true rfl)) ?_
  obtain ⟨v1, hv1, h⟩ := bind_eq h
  refine scall1 rfl fn31 (opnds_cons rfl opnds_nil) (pubA_id rfl) (m31_r22_Sane_c hv1) ?_
  refine sv rfl (opv_not rfl) ?_
  refine snil ?_
  refine ccond rfl (fun hc => ?_) (fun hc => ?_)
  · replace h := ite_t hc h
    clear hc
    refine cseq ?_
    refine cregion ?_
    refine sv rfl (opv_build zi25 pi25 parts_nil (.nil _)) ?_
    refine sstore sz25 rfl rfl rfl rfl (Nat.le_of_ble_eq_true rfl) ?_
    refine smem [.box a0, .box [.raw (.slice none 0 0), .raw (.slice none 0 0), .i .i64 0]] rfl ?_
    refine sv rfl (opv_as rfl) ?_
    refine snil ?_
    refine cret ?_
    refine then_ret ?_
    obtain rfl := Option.some.inj h
    refine ⟨Or.inr rfl, _, _, _, (resVs_cons (ResV.agg _ _ _ _ _ ti25 rfl (.lp _ _ _ rfl) (Nat.le_of_ble_eq_true rfl)) (resVs_cons (ResV.tmp _ _ rfl) resVs_nil)), (pubC rfl), ?_⟩
    rfl
  · replace h := ite_f hc h
    clear hc
    refine cskip ?_
    refine then_normal ?_
    refine cseq ?_
    refine cregion ?_
    refine sv rfl (opv_as rfl) ?_
    refine snil ?_
    refine cseq ?_
    refine cseq ?_
    refine cregion ?_
    refine sv rfl (opv_as rfl) ?_
    refine snil ?_
    refine cjoin (Bool) (fun b2 => [(1, .s (.one (.i .i64 a1))), (2, .s (.one (.b a2))), (3, .s (.one (.sl a3.length (a3.flatMap eU8)))), (4, .s (.one (.lp 0 0))), (8, .s (.one (.lp 1 0))), (10, .s (.one (.b b2)))]) (fun b2 => [.box a0, .box [.raw (.slice none 0 0), .raw (.slice none 0 0), .i .i64 0]]) (fun b2 => m14_r22_Send_k2 a0 a1 a2 a3 b2 = some r) (fun _ _ => inbL_of rfl) (fun _ _ => blkinb_of rfl) (fun _ _ => Nat.le_of_ble_eq_true rfl) (fun b2 h => ?_) ?_
    · unfold m14_r22_Send_k2 at h
      refine cseq ?_
      refine cseq ?_
      refine cregion ?_
      refine sv rfl (opv_mv rfl) ?_
      refine sv rfl (opv_not rfl) ?_
      refine snil ?_
      refine ccond rfl (fun hc => ?_) (fun hc => ?_)
      · replace h := ite_t hc h
        clear hc
        refine cseq ?_
        refine cregion ?_
        refine sv rfl (opv_build zi25 pi25 parts_nil (.nil _)) ?_
        refine sstore sz25 rfl rfl rfl rfl (Nat.le_of_ble_eq_true rfl) ?_
        refine smem [.box a0, .box [.raw (.slice none 0 0), .raw (.slice none 0 0), .i .i64 0]] rfl ?_
        refine sv rfl (opv_as rfl) ?_
        refine snil ?_
        refine cret ?_
        refine then_ret ?_
        obtain rfl := Option.some.inj h
        refine ⟨Or.inr rfl, _, _, _, (resVs_cons (ResV.agg _ _ _ _ _ ti25 rfl (.lp _ _ _ rfl) (Nat.le_of_ble_eq_true rfl)) (resVs_cons (ResV.tmp _ _ rfl) resVs_nil)), (pubC rfl), ?_⟩
        rfl
      · replace h := ite_f hc h
        clear hc
        refine cskip ?_
        refine then_normal ?_
        refine cseq ?_
        refine cseq ?_
        refine cjoin3 (Unit) (fun b3 => [(1, .s (.one (.i .i64 a1))), (2, .s (.one (.b a2))), (3, .s (.one (.sl a3.length (a3.flatMap eU8)))), (4, .s (.one (.lp 0 0))), (8, .s (.one (.lp 1 0)))]) (fun b3 => [.box a0, .box [.raw (.slice none 0 0), .raw (.slice none 0 0), .i .i64 0]]) (fun b3 => m14_r22_Send_k3 a0 a1 a2 a3 b3 = some r) (fun _ _ => inbL_of rfl) (fun _ _ => blkinb_of rfl) (fun _ _ => Nat.le_of_ble_eq_true rfl) (fun b3 h => ?_) ?_
        · unfold m14_r22_Send_k3 at h
          refine cseq ?_
          refine cregion ?_
          refine sv rfl (opv_loadN ti25 rfl (.lp _ _ _ rfl) (Nat.le_of_ble_eq_true rfl)) ?_
          refine sv rfl (opv_mv rfl) ?_
          refine sv rfl (opv_mv rfl) ?_
          refine sv rfl (opv_mv rfl) ?_
          refine sv rfl (opv_build zi49 pi49 (parts_cons rfl (parts_cons rfl (parts_cons rfl parts_nil))) (.cons _ _ _ _ _ _ _ rfl rfl (Nat.le_of_ble_eq_true rfl) (.cons _ _ _ _ _ _ _ rfl rfl (Nat.le_of_ble_eq_true rfl) (.cons _ _ _ _ _ _ _ rfl rfl (Nat.le_of_ble_eq_true rfl) (.nil _))))) ?_
          obtain ⟨v4, hv4, h⟩ := bind_eq h
          refine scall1 rfl fn43 (opnds_cons rfl (opnds_cons rfl opnds_nil)) (pubA_id rfl) (m43_r22_with_c hv4) ?_
          refine sv rfl (opv_extract rfl rfl) ?_
          refine sv rfl (opv_extract rfl rfl) ?_
          refine sstore sz25 rfl rfl rfl rfl (Nat.le_of_ble_eq_true rfl) ?_
          refine smem [.box a0, .box v4.1] rfl ?_
          refine sv rfl (opv_as rfl) ?_
          refine snil ?_
          refine cret ?_
          obtain rfl := Option.some.inj h
          refine ⟨Or.inr rfl, _, _, _, (resVs_cons (ResV.agg _ _ _ _ _ ti25 rfl (.lp _ _ _ rfl) (Nat.le_of_ble_eq_true rfl)) (resVs_cons (ResV.tmp _ _ rfl) resVs_nil)), (pubA_id rfl), ?_⟩
          rfl
        · skip
          refine cregion ?_
          refine sv rfl (opv_mv rfl) ?_
          refine sv rfl (opv_len_sl si26 rfl) ?_
          refine sv rfl (opv_lss rfl rfl) ?_
          refine sv rfl (opv_mv rfl) ?_
          refine ssplit 40 rfl (fun hc => ?_) (fun hc => ?_)
          · replace h := ite_t hc h
            clear hc
            refine soff rfl rfl rfl rfl ?_
            refine soff rfl rfl rfl rfl ?_
            refine soff rfl rfl rfl rfl ?_
            refine sv rfl (opv_pick_t rfl rfl) ?_
            refine snil ?_
            refine ccond rfl (fun _ => ?_) (fun hx => Bool.noConfusion hx)
            refine cseq ?_
            refine cregion ?_
            refine sv rfl (opv_build zi25 pi25 parts_nil (.nil _)) ?_
            refine sstore sz25 rfl rfl rfl rfl (Nat.le_of_ble_eq_true rfl) ?_
            refine smem [.box a0, .box [.raw (.slice none 0 0), .raw (.slice none 0 0), .i .i64 0]] rfl ?_
            refine sv rfl (opv_as rfl) ?_
            refine snil ?_
            refine cret ?_
            refine then_ret ?_
            obtain rfl := Option.some.inj h
            refine ⟨Or.inr rfl, _, _, _, (resVs_cons (ResV.agg _ _ _ _ _ ti25 rfl (.lp _ _ _ rfl) (Nat.le_of_ble_eq_true rfl)) (resVs_cons (ResV.tmp _ _ rfl) resVs_nil)), (pubC rfl), ?_⟩
            rfl
          · replace h := ite_f hc h
            clear hc
            refine son rfl rfl rfl ?_
            refine sv rfl (opv_mv rfl) ?_
            refine son rfl rfl rfl ?_
            refine sv rfl (opv_len_sl si26 rfl) ?_
            refine son rfl rfl rfl ?_
            refine sv rfl (opv_gtr rfl rfl) ?_
            refine sv rfl (opv_pick_f rfl rfl) ?_
            refine snil ?_
            refine ccond rfl (fun hc => ?_) (fun hc => ?_)
            · replace h := ite_t hc h
              clear hc
              refine cseq ?_
              refine cregion ?_
              refine sv rfl (opv_build zi25 pi25 parts_nil (.nil _)) ?_
              refine sstore sz25 rfl rfl rfl rfl (Nat.le_of_ble_eq_true rfl) ?_
              refine smem [.box a0, .box [.raw (.slice none 0 0), .raw (.slice none 0 0), .i .i64 0]] rfl ?_
              refine sv rfl (opv_as rfl) ?_
              refine snil ?_
              refine cret ?_
              refine then_ret ?_
              obtain rfl := Option.some.inj h
              refine ⟨Or.inr rfl, _, _, _, (resVs_cons (ResV.agg _ _ _ _ _ ti25 rfl (.lp _ _ _ rfl) (Nat.le_of_ble_eq_true rfl)) (resVs_cons (ResV.tmp _ _ rfl) resVs_nil)), (pubC rfl), ?_⟩
              rfl
            · replace h := ite_f hc h
              clear hc
              refine cskip ?_
              refine then_normal ?_
              exact ⟨(), _, h, ⟨rfl, rfl, rfl, rfl, rfl, trivial⟩, rfl⟩
    · skip
      refine cblock ?_
      obtain ⟨x5, hx5, ho5⟩ := bind_eq h
      refine awc_loop (G := Nat × (Bool × Int)) (fun g => [(1, .s (.one (.i .i64 a1))), (2, .s (.one (.b a2))), (3, .s (.one (.sl a3.length (a3.flatMap eU8)))), (4, .s (.one (.lp 0 0))), (8, .s (.one (.lp 1 0))), (10, .s (.one (.b g.2.1))), (11, .s (.one (.i .i64 g.2.2)))]) (fun g => [.box a0, .box [.raw (.slice none 0 0), .raw (.slice none 0 0), .i .i64 0]]) (fun g => iterB (m14_r22_Send_s5 a0 a1) g.1 g.2 = some x5) (fun g => g.1) (fuel, (false, 0)) hx5 ⟨rfl, rfl, rfl, rfl, rfl, rfl, rfl, trivial⟩ [] rfl (fun _ _ => inbL_of rfl) (fun _ _ => blkinb_of rfl) (fun _ _ => Nat.le_of_ble_eq_true rfl) ?_
      clear hx5 h
      rintro ⟨n5, s5⟩ h
      obtain ⟨n5, y5, rfl, h, hk5⟩ := iterB_eq h
      unfold m14_r22_Send_s5 at h
      refine cseq ?_
      refine cseq ?_
      refine cregion ?_
      refine sv rfl (opv_mv rfl) ?_
      refine sv rfl (opv_fieldAddr_lp fi25_0 rfl) ?_
      refine sv rfl (opv_load1 ti22 rfl (.lp _ _ _ rfl) rfl) ?_
      refine sv rfl (opv_len_sl si22 rfl) ?_
      refine sv rfl (opv_lss rfl rfl) ?_
      refine snil ?_
      refine ccond rfl (fun hc => ?_) (fun hc => ?_)
      · replace h := ite_t hc h
        clear hc
        refine cskip ?_
        refine then_normal ?_
        refine cseq ?_
        refine cblock ?_
        refine cregion ?_
        refine sv rfl (opv_mv rfl) ?_
        refine sv rfl (opv_mv rfl) ?_
        refine ssplit 24 rfl (fun hc => ?_) (fun hc => ?_)
        · replace h := ite_t hc h
          clear hc
          refine soff rfl rfl rfl rfl ?_
          refine soff rfl rfl rfl rfl ?_
          refine soff rfl rfl rfl rfl ?_
          refine soff rfl rfl rfl rfl ?_
          refine soff rfl rfl rfl rfl ?_
          refine soff rfl rfl rfl rfl ?_
          refine soff rfl rfl rfl rfl ?_
          refine soff rfl rfl rfl rfl ?_
          refine sv rfl (opv_pick_t rfl rfl) ?_
          refine sv rfl (opv_as rfl) ?_
          refine snil0 ?_
          refine block_normal ?_
          refine then_normal ?_
          refine cregion ?_
          refine sv rfl (opv_mv rfl) ?_
          refine sv rfl (opv_add rfl rfl) ?_
          refine sv rfl (opv_as rfl) ?_
          refine snil ?_
          obtain rfl := Option.some.inj h
          exact ⟨(n5, (true, (wI (s5.2 + 1)))), _, hk5, ⟨rfl, rfl, rfl, rfl, rfl, rfl, rfl, trivial⟩, rfl, Nat.lt_succ_self _⟩
        · replace h := ite_f hc h
          clear hc
          refine son rfl rfl rfl ?_
          refine sv rfl (opv_fieldAddr_lp fi25_0 rfl) ?_
          refine son rfl rfl rfl ?_
          refine sv rfl (opv_load1 ti22 rfl (.lp _ _ _ rfl) rfl) ?_
          refine son rfl rfl rfl ?_
          refine sv rfl (opv_mv rfl) ?_
          refine son rfl rfl rfl ?_
          obtain ⟨u6, hu6, h⟩ := bind_eq h
          refine sv rfl (opv_ix (f := eGR22Link) si22 (fun _ => rfl) rfl rfl rfl rfl hu6) ?_
          refine son rfl rfl rfl ?_
          refine sv rfl (opv_fieldAddr_cp fi75_0 rfl) ?_
          refine son rfl rfl rfl ?_
          refine sv rfl (opv_load1 ti3 rfl (.cp _) rfl) ?_
          refine son rfl rfl rfl ?_
          refine sv rfl (opv_mv rfl) ?_
          refine son rfl rfl rfl ?_
          refine sv rfl (opv_ieql rfl rfl) ?_
          refine sv rfl (opv_pick_f rfl rfl) ?_
          refine sv rfl (opv_as rfl) ?_
          refine snil0 ?_
          refine block_normal ?_
          refine then_normal ?_
          refine cregion ?_
          refine sv rfl (opv_mv rfl) ?_
          refine sv rfl (opv_add rfl rfl) ?_
          refine sv rfl (opv_as rfl) ?_
          refine snil ?_
          obtain rfl := Option.some.inj h
          exact ⟨(n5, ((decide (u6.ID = a1)), (wI (s5.2 + 1)))), _, hk5, ⟨rfl, rfl, rfl, rfl, rfl, rfl, rfl, trivial⟩, rfl, Nat.lt_succ_self _⟩
      · replace h := ite_f hc h
        clear hc
        refine cexit ?_
        refine then_exit ?_
        refine then_exit ?_
        refine block_hit ?_
        refine then_normal ?_
        obtain rfl := Option.some.inj h
        obtain rfl : _ = x5 := hk5
        exact ⟨s5.1, _, ho5, ⟨rfl, rfl, rfl, rfl, rfl, rfl, trivial⟩, rfl⟩

def m44_l22_link (a0 : GNetLink) : Option GR22Link :=
  some (GR22Link.mk a0.ID a0.Client a0.Conn)

set_option maxRecDepth 100000 in
theorem m44_l22_link_c {a0 : GNetLink} {r : GR22Link} (h : m44_l22_link a0 = some r) : CallsA Try.prog 44 [.agg a0] (· = .s (.agg r)) := by
  unfold m44_l22_link at h
  refine callsA_of Try.func44 rfl (nt := 10) rfl (Nat.le_of_ble_eq_true rfl) ?_
  intro w0 S0
  refine cseq ?_
  refine cregion ?_
  refine sbox rfl rfl ?_
  refine salloc rfl zi75 ?_
  refine snil ?_
  refine cseq ?_
  refine cregion ?_
  refine sv rfl (opv_fieldAddr_lp fi69_0 rfl) ?_
  refine sv rfl (opv_load1 ti3 rfl (.lp _ _ _ rfl) rfl) ?_
  refine sv rfl (opv_fieldAddr_lp fi69_1 rfl) ?_
  refine sv rfl (opv_load1 ti3 rfl (.lp _ _ _ rfl) rfl) ?_
  refine sv rfl (opv_fieldAddr_lp fi69_2 rfl) ?_
  refine sv rfl (opv_load1 ti3 rfl (.lp _ _ _ rfl) rfl) ?_
  refine sv rfl (opv_build zi75 pi75 (parts_cons rfl (parts_cons rfl (parts_cons rfl parts_nil))) (.cons _ _ _ _ _ _ _ rfl rfl (Nat.le_of_ble_eq_true rfl) (.cons _ _ _ _ _ _ _ rfl rfl (Nat.le_of_ble_eq_true rfl) (.cons _ _ _ _ _ _ _ rfl rfl (Nat.le_of_ble_eq_true rfl) (.nil _))))) ?_
  refine sstore sz75 rfl rfl rfl rfl (Nat.le_of_ble_eq_true rfl) ?_
  refine smem [.box a0, .box a0] rfl ?_
  refine snil ?_
  refine cret ?_
  obtain rfl := Option.some.inj h
  refine ⟨Or.inr rfl, _, _, _, (resVs_cons (ResV.agg _ _ _ _ _ ti75 rfl (.lp _ _ _ rfl) (Nat.le_of_ble_eq_true rfl)) resVs_nil), (pubA_id rfl), ?_⟩
  rfl

def m22_l22_packet (a0 : GNetPacket) : Option GR22Packet :=
  some (GR22Packet.mk a0.Link a0.Up a0.Bytes)

set_option maxRecDepth 100000 in
theorem m22_l22_packet_c {a0 : GNetPacket} {r : GR22Packet} (h : m22_l22_packet a0 = some r) : CallsA Try.prog 22 [.agg a0] (· = .s (.agg r)) := by
  unfold m22_l22_packet at h
  refine callsA_of Try.func22 rfl (nt := 10) rfl (Nat.le_of_ble_eq_true rfl) ?_
  intro w0 S0
  refine cseq ?_
  refine cregion ?_
  refine sbox rfl rfl ?_
  refine salloc rfl zi49 ?_
  refine snil ?_
  refine cseq ?_
  refine cregion ?_
  refine sv rfl (opv_fieldAddr_lp fi46_0 rfl) ?_
  refine sv rfl (opv_load1 ti3 rfl (.lp _ _ _ rfl) rfl) ?_
  refine sv rfl (opv_fieldAddr_lp fi46_1 rfl) ?_
  refine sv rfl (opv_load1 ti4 rfl (.lp _ _ _ rfl) rfl) ?_
  refine sv rfl (opv_fieldAddr_lp fi46_2 rfl) ?_
  refine sv rfl (opv_load1 ti26 rfl (.lp _ _ _ rfl) rfl) ?_
  refine sv rfl (opv_build zi49 pi49 (parts_cons rfl (parts_cons rfl (parts_cons rfl parts_nil))) (.cons _ _ _ _ _ _ _ rfl rfl (Nat.le_of_ble_eq_true rfl) (.cons _ _ _ _ _ _ _ rfl rfl (Nat.le_of_ble_eq_true rfl) (.cons _ _ _ _ _ _ _ rfl rfl (Nat.le_of_ble_eq_true rfl) (.nil _))))) ?_
  refine sstore sz49 rfl rfl rfl rfl (Nat.le_of_ble_eq_true rfl) ?_
  refine smem [.box a0, .box a0] rfl ?_
  refine snil ?_
  refine cret ?_
  obtain rfl := Option.some.inj h
  refine ⟨Or.inr rfl, _, _, _, (resVs_cons (ResV.agg _ _ _ _ _ ti49 rfl (.lp _ _ _ rfl) (Nat.le_of_ble_eq_true rfl)) resVs_nil), (pubA_id rfl), ?_⟩
  rfl

def m16_l22_theirs_k2 (a0 : GNetNet) (b1 : (List GR22Link)) (b2 : (List GR22Packet)) : Option GR22Net :=
  some (GR22Net.mk b1 b2 a0.Next)

def m16_l22_theirs_s3 (a0 : GNetNet) (s3 : Int × (List GR22Packet)) : Option (LB (Int × (List GR22Packet)) ((List GR22Packet))) :=
  if (decide (s3.1 < (a0.Packets.length : Int))) then ((idx a0.Packets s3.1).bind fun u4 => (m22_l22_packet u4).bind fun v5 => if (s3.2.length + ([v5] : List GR22Packet).length) * 40 ≤ 140737488355328 then (some (.cont ((wI (s3.1 + 1)), (s3.2 ++ ([v5] : List GR22Packet))))) else none) else (some (.brk s3.2))

def m16_l22_theirs_k1 (a0 : GNetNet) (b1 : (List GR22Link)) : Option GR22Net :=
  (iterB (m16_l22_theirs_s3 a0) fuel (0, ([] : List GR22Packet))).bind fun e7 => m16_l22_theirs_k2 a0 b1 e7

def m16_l22_theirs_s8 (a0 : GNetNet) (s8 : Int × (List GR22Link)) : Option (LB (Int × (List GR22Link)) ((List GR22Link))) :=
  if (decide (s8.1 < (a0.Links.length : Int))) then ((idx a0.Links s8.1).bind fun u9 => (m44_l22_link u9).bind fun v10 => if (s8.2.length + ([v10] : List GR22Link).length) * 24 ≤ 140737488355328 then (some (.cont ((wI (s8.1 + 1)), (s8.2 ++ ([v10] : List GR22Link))))) else none) else (some (.brk s8.2))
def m16_l22_theirs (a0 : GNetNet) : Option GR22Net :=
  (iterB (m16_l22_theirs_s8 a0) fuel (0, ([] : List GR22Link))).bind fun e12 => m16_l22_theirs_k1 a0 e12

set_option maxRecDepth 100000 in
theorem m16_l22_theirs_c {a0 : GNetNet} {r : GR22Net} (h : m16_l22_theirs a0 = some r) : CallsA Try.prog 16 [.agg a0] (· = .s (.agg r)) := by
  unfold m16_l22_theirs at h
  refine callsA_of Try.func16 rfl (nt := 46) rfl (Nat.le_of_ble_eq_true rfl) ?_
  intro w0 S0
  refine cseq ?_
  refine cregion ?_
  refine sbox rfl rfl ?_
  refine salloc rfl zi25 ?_
  refine snil ?_
  refine cseq ?_
  refine cregion ?_
  refine sv rfl (opv_fieldAddr_lp fi32_2 rfl) ?_
  refine sv rfl (opv_load1 ti3 rfl (.lp _ _ _ rfl) rfl) ?_
  refine sv rfl (opv_build zi25 pi25 (parts_cons rfl parts_nil) (.cons _ _ _ _ _ _ _ rfl rfl (Nat.le_of_ble_eq_true rfl) (.nil _))) ?_
  refine salloc rfl zi25 ?_
  refine sstore sz25 rfl rfl rfl rfl (Nat.le_of_ble_eq_true rfl) ?_
  refine smem [.box a0, .box [.raw (.slice none 0 0), .raw (.slice none 0 0), .i .i64 0], .box [.raw (.slice none 0 0), .raw (.slice none 0 0), .i .i64 a0.Next]] rfl ?_
  refine snil ?_
  refine cseq ?_
  refine cseq ?_
  refine cregion ?_
  refine sv rfl (opv_as rfl) ?_
  refine snil ?_
  refine sadopt_box_c 75 3 2 0 (by decide) rfl rfl ?_
  refine cjoin ((List GR22Link)) (fun b1 => [(1, .s (.one (.lp 0 0))), (2, .s (.one (.lp 1 0))), (3, .s (.one (.lp 2 0)))]) (fun b1 => [.box a0, .box [.raw (.slice none 0 0), .raw (.slice none 0 0), .i .i64 0], .box [.ls 3 b1.length, .raw (.slice none 0 0), .i .i64 a0.Next], .arr 75 3 0 (b1.flatMap eGR22Link)]) (fun b1 => m16_l22_theirs_k1 a0 b1 = some r) (fun _ _ => inbL_of rfl) (fun _ _ => blkinb_of rfl) (fun _ _ => Nat.le_of_ble_eq_true rfl) (fun b1 h => ?_) ?_
  · unfold m16_l22_theirs_k1 at h
    refine cseq ?_
    refine cseq ?_
    refine cregion ?_
    refine sv rfl (opv_as rfl) ?_
    refine snil ?_
    refine sadopt_box_c 49 3 2 1 (by decide) rfl rfl ?_
    refine cjoin ((List GR22Packet)) (fun b2 => [(2, .s (.one (.lp 1 0))), (3, .s (.one (.lp 2 0)))]) (fun b2 => [.box a0, .box [.raw (.slice none 0 0), .raw (.slice none 0 0), .i .i64 0], .box [.ls 3 b1.length, .ls 4 b2.length, .i .i64 a0.Next], .arr 75 3 0 (b1.flatMap eGR22Link), .arr 49 3 0 (b2.flatMap eGR22Packet)]) (fun b2 => m16_l22_theirs_k2 a0 b1 b2 = some r) (fun _ _ => inbL_of rfl) (fun _ _ => blkinb_of rfl) (fun _ _ => Nat.le_of_ble_eq_true rfl) (fun b2 h => ?_) ?_
    · unfold m16_l22_theirs_k2 at h
      refine cseq ?_
      refine cregion ?_
      refine sv rfl (opv_loadN ti25 rfl (.lp _ _ _ rfl) (Nat.le_of_ble_eq_true rfl)) ?_
      refine sstore sz25 rfl rfl rfl rfl (Nat.le_of_ble_eq_true rfl) ?_
      refine smem [.box a0, .box [.ls 3 b1.length, .ls 4 b2.length, .i .i64 a0.Next], .box [.ls 3 b1.length, .ls 4 b2.length, .i .i64 a0.Next], .arr 75 3 0 (b1.flatMap eGR22Link), .arr 49 3 0 (b2.flatMap eGR22Packet)] rfl ?_
      refine snil ?_
      refine cret ?_
      obtain rfl := Option.some.inj h
      refine ⟨Or.inr rfl, _, _, _, (resVs_cons (ResV.agg _ _ _ _ _ ti25 rfl (.lp _ _ _ rfl) (Nat.le_of_ble_eq_true rfl)) resVs_nil), (by (repeat' first | exact PubA.nil _ | apply PubA.cons | apply PubV.one | apply PubV.agg | exact PubL.nil | exact PubL.ls _ _ _ _ _ _ rfl (flat_len (f := eGR22Link) (fun _ => rfl) _).symm | exact PubL.ls _ _ _ _ _ _ rfl (flat_len (f := eGR22Packet) (fun _ => rfl) _).symm | exact PubL.id _ rfl | exact PubLs.nil _ | apply PubLs.cons)), ?_⟩
      rfl
    · skip
      refine cblock ?_
      obtain ⟨x3, hx3, ho3⟩ := bind_eq h
      refine awc_loop (G := Nat × (Int × (List GR22Packet))) (fun g => [(1, .s (.one (.lp 0 0))), (2, .s (.one (.lp 1 0))), (3, .s (.one (.lp 2 0))), (5, .s (.one (.i .i64 g.2.1)))]) (fun g => [.box a0, .box [.raw (.slice none 0 0), .raw (.slice none 0 0), .i .i64 0], .box [.ls 3 b1.length, .ls 4 g.2.2.length, .i .i64 a0.Next], .arr 75 3 0 (b1.flatMap eGR22Link), .arr 49 3 0 (g.2.2.flatMap eGR22Packet)]) (fun g => iterB (m16_l22_theirs_s3 a0) g.1 g.2 = some x3) (fun g => g.1) (fuel, (0, ([] : List GR22Packet))) hx3 ⟨rfl, rfl, rfl, rfl, trivial⟩ [] rfl (fun _ _ => inbL_of rfl) (fun _ _ => blkinb_of rfl) (fun _ _ => Nat.le_of_ble_eq_true rfl) ?_
      clear hx3 h
      rintro ⟨n3, s3⟩ h
      obtain ⟨n3, y3, rfl, h, hk3⟩ := iterB_eq h
      unfold m16_l22_theirs_s3 at h
      refine cseq ?_
      refine cseq ?_
      refine cregion ?_
      refine sv rfl (opv_mv rfl) ?_
      refine sv rfl (opv_fieldAddr_lp fi32_1 rfl) ?_
      refine sv rfl (opv_load1 ti30 rfl (.lp _ _ _ rfl) rfl) ?_
      refine sv rfl (opv_len_sl si30 rfl) ?_
      refine sv rfl (opv_lss rfl rfl) ?_
      refine snil ?_
      refine ccond rfl (fun hc => ?_) (fun hc => ?_)
      · replace h := ite_t hc h
        clear hc
        refine cskip ?_
        refine then_normal ?_
        refine cseq ?_
        refine cblock ?_
        obtain ⟨u4, hu4, h⟩ := bind_eq h
        obtain ⟨v5, hv5, h⟩ := bind_eq h
        obtain ⟨hb6, h⟩ := chk_eq h
        refine cdraw_e [9, 11] [0, 1, 0, 4, 0, 28, 60, 124, 252, 511, 1023, 2047] [[.box a0, .box [.raw (.slice none 0 0), .raw (.slice none 0 0), .i .i64 0], .box [.ls 3 b1.length, .ls 4 s3.2.length, .i .i64 a0.Next], .arr 75 3 0 (b1.flatMap eGR22Link), .arr 49 3 0 (s3.2.flatMap eGR22Packet)], [.box a0, .box [.raw (.slice none 0 0), .raw (.slice none 0 0), .i .i64 0], .box [.ls 3 b1.length, .ls 4 s3.2.length, .i .i64 a0.Next], .arr 75 3 0 (b1.flatMap eGR22Link), .arr 49 3 0 ((s3.2 ++ ([v5] : List GR22Packet)).flatMap eGR22Packet)], [.box a0, .box [.raw (.slice none 0 0), .raw (.slice none 0 0), .i .i64 0], .box [.ls 3 b1.length, .ls 4 (s3.2 ++ ([v5] : List GR22Packet)).length, .i .i64 a0.Next], .arr 75 3 0 (b1.flatMap eGR22Link), .arr 49 3 0 ((s3.2 ++ ([v5] : List GR22Packet)).flatMap eGR22Packet)]] (by kernel_rfl) mixed (by kernel_rfl) (by decide) rfl rfl rfl rfl ?_
        refine ev (sees_at 0 rfl rfl) rfl rfl (opv_fieldAddr_lp fi25_1 rfl) ?_
        refine ev (sees_at 0 rfl rfl) rfl rfl (opv_load1 ti23 rfl (.lp _ _ _ rfl) rfl) ?_
        refine ev (sees_at 0 rfl rfl) rfl rfl (opv_fieldAddr_lp fi32_1 rfl) ?_
        refine ev (sees_at 0 rfl rfl) rfl rfl (opv_load1 ti30 rfl (.lp _ _ _ rfl) rfl) ?_
        refine ev (sees_at 0 rfl rfl) rfl rfl (opv_mv rfl) ?_
        refine ev (sees_at 0 rfl rfl) rfl rfl (opv_ix (f := eGNetPacket) si30 (fun _ => rfl) rfl rfl rfl rfl hu4) ?_
        refine ev (sees_at 0 rfl rfl) rfl rfl (opv_loadNe (ys := [.i .i64 u4.Link, .b u4.Up, .sl u4.Bytes.length (u4.Bytes.flatMap eU8)]) ti46 rfl (.cp _) rfl rfl) ?_
        refine ed (sees_at 0 rfl rfl) rfl rfl (opD_call fn22 (opnds_cons rfl opnds_nil) rfl (m22_l22_packet_c hv5)) ?_
        refine ed (sees_at 0 rfl rfl) rfl rfl (opD_bld (out := ([v5] : List GR22Packet).flatMap eGR22Packet) Try.underlying23 ei49 (parts_cons rfl parts_nil) (.cons _ _ _ _ _ _ _ rfl rfl (Nat.le_of_ble_eq_true rfl) (.nil _)) rfl (by decide)) ?_
        refine ee (x := .s (.one (.ls 4 (s3.2 ++ ([v5] : List GR22Packet)).length))) 0 rfl rfl rfl rfl rfl (fun ζ => ?_) ?_
        · refine sapp (f := eGR22Packet) (xs := s3.2) (us := ([v5] : List GR22Packet)) rfl Try.underlying23 ei49 ni23 (fun _ => rfl) rfl rfl (.one _ _ _ _ (.id _ rfl)) rfl rfl rfl (.sl _ _ _ (flat_len (f := eGR22Packet) (fun _ => rfl) _)) rfl rfl hb6 (by decide) ?_
          exact eend
        refine ev (sees_at 1 rfl rfl) rfl rfl (opv_fieldAddr_lp fi25_1 rfl) ?_
        refine ee0 1 rfl rfl rfl rfl (fun ζ => ?_) ?_
        · refine sstore sz23 rfl rfl rfl rfl (Nat.le_of_ble_eq_true rfl) ?_
          refine smem [.box a0, .box [.raw (.slice none 0 0), .raw (.slice none 0 0), .i .i64 0], .box [.ls 3 b1.length, .ls 4 (s3.2 ++ ([v5] : List GR22Packet)).length, .i .i64 a0.Next], .arr 75 3 0 (b1.flatMap eGR22Link), .arr 49 3 0 ((s3.2 ++ ([v5] : List GR22Packet)).flatMap eGR22Packet)] rfl ?_
          exact eend
        refine enil ?_
        refine block_normal ?_
        refine then_normal ?_
        refine cregion ?_
        refine sv rfl (opv_mv rfl) ?_
        refine sv rfl (opv_add rfl rfl) ?_
        refine sv rfl (opv_as rfl) ?_
        refine snil ?_
        obtain rfl := Option.some.inj h
        exact ⟨(n3, ((wI (s3.1 + 1)), (s3.2 ++ ([v5] : List GR22Packet)))), _, hk3, ⟨rfl, rfl, rfl, rfl, trivial⟩, rfl, Nat.lt_succ_self _⟩
      · replace h := ite_f hc h
        clear hc
        refine cexit ?_
        refine then_exit ?_
        refine then_exit ?_
        refine block_hit ?_
        refine then_normal ?_
        obtain rfl := Option.some.inj h
        obtain rfl : _ = x3 := hk3
        exact ⟨s3.2, _, ho3, ⟨rfl, rfl, trivial⟩, rfl⟩
  · skip
    refine cblock ?_
    obtain ⟨x8, hx8, ho8⟩ := bind_eq h
    refine awc_loop (G := Nat × (Int × (List GR22Link))) (fun g => [(1, .s (.one (.lp 0 0))), (2, .s (.one (.lp 1 0))), (3, .s (.one (.lp 2 0))), (4, .s (.one (.i .i64 g.2.1)))]) (fun g => [.box a0, .box [.raw (.slice none 0 0), .raw (.slice none 0 0), .i .i64 0], .box [.ls 3 g.2.2.length, .raw (.slice none 0 0), .i .i64 a0.Next], .arr 75 3 0 (g.2.2.flatMap eGR22Link)]) (fun g => iterB (m16_l22_theirs_s8 a0) g.1 g.2 = some x8) (fun g => g.1) (fuel, (0, ([] : List GR22Link))) hx8 ⟨rfl, rfl, rfl, rfl, trivial⟩ [] rfl (fun _ _ => inbL_of rfl) (fun _ _ => blkinb_of rfl) (fun _ _ => Nat.le_of_ble_eq_true rfl) ?_
    clear hx8 h
    rintro ⟨n8, s8⟩ h
    obtain ⟨n8, y8, rfl, h, hk8⟩ := iterB_eq h
    unfold m16_l22_theirs_s8 at h
    refine cseq ?_
    refine cseq ?_
    refine cregion ?_
    refine sv rfl (opv_mv rfl) ?_
    refine sv rfl (opv_fieldAddr_lp fi32_0 rfl) ?_
    refine sv rfl (opv_load1 ti29 rfl (.lp _ _ _ rfl) rfl) ?_
    refine sv rfl (opv_len_sl si29 rfl) ?_
    refine sv rfl (opv_lss rfl rfl) ?_
    refine snil ?_
    refine ccond rfl (fun hc => ?_) (fun hc => ?_)
    · replace h := ite_t hc h
      clear hc
      refine cskip ?_
      refine then_normal ?_
      refine cseq ?_
      refine cblock ?_
      obtain ⟨u9, hu9, h⟩ := bind_eq h
      obtain ⟨v10, hv10, h⟩ := bind_eq h
      obtain ⟨hb11, h⟩ := chk_eq h
      refine cdraw_e [9, 11] [0, 1, 0, 4, 0, 28, 60, 124, 252, 511, 1023, 2047] [[.box a0, .box [.raw (.slice none 0 0), .raw (.slice none 0 0), .i .i64 0], .box [.ls 3 s8.2.length, .raw (.slice none 0 0), .i .i64 a0.Next], .arr 75 3 0 (s8.2.flatMap eGR22Link)], [.box a0, .box [.raw (.slice none 0 0), .raw (.slice none 0 0), .i .i64 0], .box [.ls 3 s8.2.length, .raw (.slice none 0 0), .i .i64 a0.Next], .arr 75 3 0 ((s8.2 ++ ([v10] : List GR22Link)).flatMap eGR22Link)], [.box a0, .box [.raw (.slice none 0 0), .raw (.slice none 0 0), .i .i64 0], .box [.ls 3 (s8.2 ++ ([v10] : List GR22Link)).length, .raw (.slice none 0 0), .i .i64 a0.Next], .arr 75 3 0 ((s8.2 ++ ([v10] : List GR22Link)).flatMap eGR22Link)]] (by kernel_rfl) mixed (by kernel_rfl) (by decide) rfl rfl rfl rfl ?_
      refine ev (sees_at 0 rfl rfl) rfl rfl (opv_fieldAddr_lp fi25_0 rfl) ?_
      refine ev (sees_at 0 rfl rfl) rfl rfl (opv_load1 ti22 rfl (.lp _ _ _ rfl) rfl) ?_
      refine ev (sees_at 0 rfl rfl) rfl rfl (opv_fieldAddr_lp fi32_0 rfl) ?_
      refine ev (sees_at 0 rfl rfl) rfl rfl (opv_load1 ti29 rfl (.lp _ _ _ rfl) rfl) ?_
      refine ev (sees_at 0 rfl rfl) rfl rfl (opv_mv rfl) ?_
      refine ev (sees_at 0 rfl rfl) rfl rfl (opv_ix (f := eGNetLink) si29 (fun _ => rfl) rfl rfl rfl rfl hu9) ?_
      refine ev (sees_at 0 rfl rfl) rfl rfl (opv_loadNe (ys := [.i .i64 u9.ID, .i .i64 u9.Client, .i .i64 u9.Conn]) ti69 rfl (.cp _) rfl rfl) ?_
      refine ed (sees_at 0 rfl rfl) rfl rfl (opD_call fn44 (opnds_cons rfl opnds_nil) rfl (m44_l22_link_c hv10)) ?_
      refine ed (sees_at 0 rfl rfl) rfl rfl (opD_bld (out := ([v10] : List GR22Link).flatMap eGR22Link) Try.underlying22 ei75 (parts_cons rfl parts_nil) (.cons _ _ _ _ _ _ _ rfl rfl (Nat.le_of_ble_eq_true rfl) (.nil _)) rfl (by decide)) ?_
      refine ee (x := .s (.one (.ls 3 (s8.2 ++ ([v10] : List GR22Link)).length))) 0 rfl rfl rfl rfl rfl (fun ζ => ?_) ?_
      · refine sapp (f := eGR22Link) (xs := s8.2) (us := ([v10] : List GR22Link)) rfl Try.underlying22 ei75 ni22 (fun _ => rfl) rfl rfl (.one _ _ _ _ (.id _ rfl)) rfl rfl rfl (.sl _ _ _ (flat_len (f := eGR22Link) (fun _ => rfl) _)) rfl rfl hb11 (by decide) ?_
        exact eend
      refine ev (sees_at 1 rfl rfl) rfl rfl (opv_fieldAddr_lp fi25_0 rfl) ?_
      refine ee0 1 rfl rfl rfl rfl (fun ζ => ?_) ?_
      · refine sstore sz22 rfl rfl rfl rfl (Nat.le_of_ble_eq_true rfl) ?_
        refine smem [.box a0, .box [.raw (.slice none 0 0), .raw (.slice none 0 0), .i .i64 0], .box [.ls 3 (s8.2 ++ ([v10] : List GR22Link)).length, .raw (.slice none 0 0), .i .i64 a0.Next], .arr 75 3 0 ((s8.2 ++ ([v10] : List GR22Link)).flatMap eGR22Link)] rfl ?_
        exact eend
      refine enil ?_
      refine block_normal ?_
      refine then_normal ?_
      refine cregion ?_
      refine sv rfl (opv_mv rfl) ?_
      refine sv rfl (opv_add rfl rfl) ?_
      refine sv rfl (opv_as rfl) ?_
      refine snil ?_
      obtain rfl := Option.some.inj h
      exact ⟨(n8, ((wI (s8.1 + 1)), (s8.2 ++ ([v10] : List GR22Link)))), _, hk8, ⟨rfl, rfl, rfl, rfl, trivial⟩, rfl, Nat.lt_succ_self _⟩
    · replace h := ite_f hc h
      clear hc
      refine cexit ?_
      refine then_exit ?_
      refine then_exit ?_
      refine block_hit ?_
      refine then_normal ?_
      obtain rfl := Option.some.inj h
      obtain rfl : _ = x8 := hk8
      exact ⟨s8.2, _, ho8, ⟨rfl, rfl, rfl, trivial⟩, rfl⟩

def m21_r22_SamePacket (a0 : GR22Packet) (a1 : GR22Packet) : Option Bool :=
  if (decide (a0.Link = a1.Link)) then (if (a0.Up == a1.Up) then (some (a0.Bytes == a1.Bytes)) else (some false)) else (some false)

set_option maxRecDepth 100000 in
theorem m21_r22_SamePacket_c {a0 : GR22Packet} {a1 : GR22Packet} {r : Bool} (h : m21_r22_SamePacket a0 a1 = some r) : CallsA Try.prog 21 [.agg a0, .agg a1] (· = .s (.one (.b r))) := by
  unfold m21_r22_SamePacket at h
  refine callsA_of Try.func21 rfl (nt := 26) rfl (Nat.le_of_ble_eq_true rfl) ?_
  intro w0 S0
  refine cseq ?_
  refine cregion ?_
  refine sbox rfl rfl ?_
  refine sbox rfl rfl ?_
  refine sv rfl (opv_as rfl) ?_
  refine snil ?_
  refine cseq ?_
  refine cregion ?_
  refine sv rfl (opv_fieldAddr_lp fi49_0 rfl) ?_
  refine sv rfl (opv_load1 ti3 rfl (.lp _ _ _ rfl) rfl) ?_
  refine sv rfl (opv_fieldAddr_lp fi49_0 rfl) ?_
  refine sv rfl (opv_load1 ti3 rfl (.lp _ _ _ rfl) rfl) ?_
  refine sv rfl (opv_ieql rfl rfl) ?_
  refine sv rfl (opv_mv rfl) ?_
  refine ssplit 10 rfl (fun hc => ?_) (fun hc => ?_)
  · replace h := ite_t hc h
    clear hc
    refine son rfl rfl rfl ?_
    refine sv rfl (opv_fieldAddr_lp fi49_1 rfl) ?_
    refine son rfl rfl rfl ?_
    refine sv rfl (opv_load1 ti4 rfl (.lp _ _ _ rfl) rfl) ?_
    refine son rfl rfl rfl ?_
    refine sv rfl (opv_fieldAddr_lp fi49_1 rfl) ?_
    refine son rfl rfl rfl ?_
    refine sv rfl (opv_load1 ti4 rfl (.lp _ _ _ rfl) rfl) ?_
    refine son rfl rfl rfl ?_
    refine sv rfl (opv_beql Try.underlying4 rfl rfl) ?_
    refine sv rfl (opv_pick_t rfl rfl) ?_
    refine sv rfl (opv_mv rfl) ?_
    refine ssplit 17 rfl (fun hc => ?_) (fun hc => ?_)
    · replace h := ite_t hc h
      clear hc
      refine son rfl rfl rfl ?_
      refine sv rfl (opv_fieldAddr_lp fi49_2 rfl) ?_
      refine son rfl rfl rfl ?_
      refine sv rfl (opv_load1 ti26 rfl (.lp _ _ _ rfl) rfl) ?_
      refine son rfl rfl rfl ?_
      refine sv rfl (opv_bs (l := a0.Bytes) Try.underlying26 Try.underlying5 Try.underlying9 rfl rfl rfl) ?_
      refine son rfl rfl rfl ?_
      refine sv rfl (opv_fieldAddr_lp fi49_2 rfl) ?_
      refine son rfl rfl rfl ?_
      refine sv rfl (opv_load1 ti26 rfl (.lp _ _ _ rfl) rfl) ?_
      refine son rfl rfl rfl ?_
      refine sv rfl (opv_bs (l := a1.Bytes) Try.underlying26 Try.underlying5 Try.underlying9 rfl rfl rfl) ?_
      refine son rfl rfl rfl ?_
      refine sv rfl (opv_seql' rfl rfl) ?_
      refine sv rfl (opv_pick_t rfl rfl) ?_
      refine sv rfl (opv_as rfl) ?_
      refine snil ?_
      refine cret ?_
      obtain rfl := Option.some.inj h
      refine ⟨Or.inr rfl, _, _, _, (resVs_cons (ResV.tmp _ _ rfl) resVs_nil), (pubA_id rfl), ?_⟩
      rfl
    · replace h := ite_f hc h
      clear hc
      refine soff rfl rfl rfl rfl ?_
      refine soff rfl rfl rfl rfl ?_
      refine soff rfl rfl rfl rfl ?_
      refine soff rfl rfl rfl rfl ?_
      refine soff rfl rfl rfl rfl ?_
      refine soff rfl rfl rfl rfl ?_
      refine soff rfl rfl rfl rfl ?_
      refine sv rfl (opv_pick_f rfl rfl) ?_
      refine sv rfl (opv_as rfl) ?_
      refine snil ?_
      refine cret ?_
      obtain rfl := Option.some.inj h
      refine ⟨Or.inr rfl, _, _, _, (resVs_cons (ResV.tmp _ _ rfl) resVs_nil), (pubA_id rfl), ?_⟩
      rfl
  · replace h := ite_f hc h
    clear hc
    refine soff rfl rfl rfl rfl ?_
    refine soff rfl rfl rfl rfl ?_
    refine soff rfl rfl rfl rfl ?_
    refine soff rfl rfl rfl rfl ?_
    refine soff rfl rfl rfl rfl ?_
    refine sv rfl (opv_pick_f rfl rfl) ?_
    refine sv rfl (opv_mv rfl) ?_
    refine soff rfl rfl rfl rfl ?_
    refine soff rfl rfl rfl rfl ?_
    refine soff rfl rfl rfl rfl ?_
    refine soff rfl rfl rfl rfl ?_
    refine soff rfl rfl rfl rfl ?_
    refine soff rfl rfl rfl rfl ?_
    refine soff rfl rfl rfl rfl ?_
    refine sv rfl (opv_pick_f rfl rfl) ?_
    refine sv rfl (opv_as rfl) ?_
    refine snil ?_
    refine cret ?_
    obtain rfl := Option.some.inj h
    refine ⟨Or.inr rfl, _, _, _, (resVs_cons (ResV.tmp _ _ rfl) resVs_nil), (pubA_id rfl), ?_⟩
    rfl

def m15_r22_Same_k3 (b3 : Unit) : Option Bool :=
  some true

def m15_r22_Same_s4 (a0 : GR22Net) (a1 : GR22Net) (s4 : Int) : Option (LR (Int) (Unit) (Bool)) :=
  if (decide (s4 < (a0.Packets.length : Int))) then ((idx a0.Packets s4).bind fun u5 => (idx a1.Packets s4).bind fun u6 => (m21_r22_SamePacket u5 u6).bind fun v7 => if (!v7) then (some (.ret false)) else (some (.cont (wI (s4 + 1))))) else (some (.brk ()))

def m15_r22_Same_k2 (a0 : GR22Net) (a1 : GR22Net) (b2 : Unit) : Option Bool :=
  (iter (m15_r22_Same_s4 a0 a1) fuel 0).bind fun x => match x with | .inl r => some r | .inr e8 => m15_r22_Same_k3 e8

def m15_r22_Same_s9 (a0 : GR22Net) (a1 : GR22Net) (s9 : Int) : Option (LR (Int) (Unit) (Bool)) :=
  if (decide (s9 < (a0.Links.length : Int))) then ((idx a0.Links s9).bind fun u10 => (idx a1.Links s9).bind fun u11 => if (!((decide (u10.ID = u11.ID)) && ((decide (u10.Client = u11.Client)) && ((decide (u10.Conn = u11.Conn)) && true)))) then (some (.ret false)) else (some (.cont (wI (s9 + 1))))) else (some (.brk ()))

def m15_r22_Same_k1 (a0 : GR22Net) (a1 : GR22Net) (b1 : Unit) : Option Bool :=
  (iter (m15_r22_Same_s9 a0 a1) fuel 0).bind fun x => match x with | .inl r => some r | .inr e12 => m15_r22_Same_k2 a0 a1 e12
def m15_r22_Same (a0 : GR22Net) (a1 : GR22Net) : Option Bool :=
  if (!decide ((a0.Links.length : Int) = (a1.Links.length : Int))) then (some false) else (if (!decide ((a0.Packets.length : Int) = (a1.Packets.length : Int))) then (some false) else (if (!decide (a0.Next = a1.Next)) then (some false) else (m15_r22_Same_k1 a0 a1 ())))

set_option maxRecDepth 100000 in
theorem m15_r22_Same_c {a0 : GR22Net} {a1 : GR22Net} {r : Bool} (h : m15_r22_Same a0 a1 = some r) : CallsA Try.prog 15 [.agg a0, .agg a1] (· = .s (.one (.b r))) := by
  unfold m15_r22_Same at h
  refine callsA_of Try.func15 rfl (nt := 67) rfl (Nat.le_of_ble_eq_true rfl) ?_
  intro w0 S0
  refine cseq ?_
  refine cregion ?_
  refine sbox rfl rfl ?_
  refine sbox rfl rfl ?_
  refine sv rfl (opv_as rfl) ?_
  refine snil ?_
  refine cseq ?_
  refine cseq ?_
  refine cjoin3 (Unit) (fun b1 => [(2, .s (.one (.lp 0 0))), (3, .s (.one (.lp 1 0)))]) (fun b1 => [.box a0, .box a1]) (fun b1 => m15_r22_Same_k1 a0 a1 b1 = some r) (fun _ _ => inbL_of rfl) (fun _ _ => blkinb_of rfl) (fun _ _ => Nat.le_of_ble_eq_true rfl) (fun b1 h => ?_) ?_
  · unfold m15_r22_Same_k1 at h
    refine cseq ?_
    refine cseq ?_
    refine cregion ?_
    refine sv rfl (opv_as rfl) ?_
    refine snil ?_
    refine cjoin (Unit) (fun b2 => [(2, .s (.one (.lp 0 0))), (3, .s (.one (.lp 1 0)))]) (fun b2 => [.box a0, .box a1]) (fun b2 => m15_r22_Same_k2 a0 a1 b2 = some r) (fun _ _ => inbL_of rfl) (fun _ _ => blkinb_of rfl) (fun _ _ => Nat.le_of_ble_eq_true rfl) (fun b2 h => ?_) ?_
    · unfold m15_r22_Same_k2 at h
      refine cseq ?_
      refine cseq ?_
      refine cregion ?_
      refine sv rfl (opv_as rfl) ?_
      refine snil ?_
      refine cjoin (Unit) (fun b3 => []) (fun b3 => [.box a0, .box a1]) (fun b3 => m15_r22_Same_k3 b3 = some r) (fun _ _ => inbL_of rfl) (fun _ _ => blkinb_of rfl) (fun _ _ => Nat.le_of_ble_eq_true rfl) (fun b3 h => ?_) ?_
      · unfold m15_r22_Same_k3 at h
        refine cseq ?_
        refine cregion ?_
        refine sv rfl (opv_as rfl) ?_
        refine snil ?_
        refine cret ?_
        obtain rfl := Option.some.inj h
        refine ⟨Or.inr rfl, _, _, _, (resVs_cons (ResV.tmp _ _ rfl) resVs_nil), (pubA_id rfl), ?_⟩
        rfl
      · skip
        refine cblock ?_
        obtain ⟨x4, hx4, ho4⟩ := bind_eq h
        refine awc_loop (G := Nat × (Int)) (fun g => [(2, .s (.one (.lp 0 0))), (3, .s (.one (.lp 1 0))), (6, .s (.one (.i .i64 g.2)))]) (fun g => [.box a0, .box a1]) (fun g => iter (m15_r22_Same_s4 a0 a1) g.1 g.2 = some x4) (fun g => g.1) (fuel, 0) hx4 ⟨rfl, rfl, rfl, trivial⟩ [] rfl (fun _ _ => inbL_of rfl) (fun _ _ => blkinb_of rfl) (fun _ _ => Nat.le_of_ble_eq_true rfl) ?_
        clear hx4 h
        rintro ⟨n4, s4⟩ h
        obtain ⟨n4, y4, rfl, h, hk4⟩ := iter_eq h
        unfold m15_r22_Same_s4 at h
        refine cseq ?_
        refine cseq ?_
        refine cregion ?_
        refine sv rfl (opv_mv rfl) ?_
        refine sv rfl (opv_fieldAddr_lp fi25_1 rfl) ?_
        refine sv rfl (opv_load1 ti23 rfl (.lp _ _ _ rfl) rfl) ?_
        refine sv rfl (opv_len_sl si23 rfl) ?_
        refine sv rfl (opv_lss rfl rfl) ?_
        refine snil ?_
        refine ccond rfl (fun hc => ?_) (fun hc => ?_)
        · replace h := ite_t hc h
          clear hc
          refine cskip ?_
          refine then_normal ?_
          refine cseq ?_
          refine cblock ?_
          refine cseq ?_
          refine cdraw mixed (by kernel_rfl) ?_
          refine dv rfl (opv_fieldAddr_lp fi25_1 rfl) ?_
          refine dv rfl (opv_load1 ti23 rfl (.lp _ _ _ rfl) rfl) ?_
          refine dv rfl (opv_mv rfl) ?_
          obtain ⟨u5, hu5, h⟩ := bind_eq h
          refine dv rfl (opv_ix (f := eGR22Packet) si23 (fun _ => rfl) rfl rfl rfl rfl hu5) ?_
          refine dv rfl (opv_loadNe (ys := [.i .i64 u5.Link, .b u5.Up, .sl u5.Bytes.length (u5.Bytes.flatMap eU8)]) ti49 rfl (.cp _) rfl rfl) ?_
          refine dv rfl (opv_fieldAddr_lp fi25_1 rfl) ?_
          refine dv rfl (opv_load1 ti23 rfl (.lp _ _ _ rfl) rfl) ?_
          refine dv rfl (opv_mv rfl) ?_
          obtain ⟨u6, hu6, h⟩ := bind_eq h
          refine dv rfl (opv_ix (f := eGR22Packet) si23 (fun _ => rfl) rfl rfl rfl rfl hu6) ?_
          refine dv rfl (opv_loadNe (ys := [.i .i64 u6.Link, .b u6.Up, .sl u6.Bytes.length (u6.Bytes.flatMap eU8)]) ti49 rfl (.cp _) rfl rfl) ?_
          obtain ⟨v7, hv7, h⟩ := bind_eq h
          refine dd rfl (opD_call fn21 (opnds_cons rfl (opnds_cons rfl opnds_nil)) rfl (m21_r22_SamePacket_c hv7)) ?_
          refine dv rfl (opv_not rfl) ?_
          refine dnil ?_
          refine then_normal ?_
          refine ccond rfl (fun hc => ?_) (fun hc => ?_)
          · replace h := ite_t hc h
            clear hc
            refine cseq ?_
            refine cregion ?_
            refine sv rfl (opv_as rfl) ?_
            refine snil ?_
            refine cret ?_
            refine block_ret ?_
            refine then_ret ?_
            refine then_ret ?_
            refine block_ret ?_
            refine then_ret ?_
            obtain rfl := Option.some.inj h
            obtain rfl : Sum.inl _ = x4 := hk4
            replace ho4 : some _ = some _ := ho4
            obtain rfl := Option.some.inj ho4
            refine ⟨Or.inr rfl, _, _, _, (resVs_cons (ResV.tmp _ _ rfl) resVs_nil), (pubA_id rfl), ?_⟩
            rfl
          · replace h := ite_f hc h
            clear hc
            refine cskip ?_
            refine block_normal ?_
            refine then_normal ?_
            refine cregion ?_
            refine sv rfl (opv_mv rfl) ?_
            refine sv rfl (opv_add rfl rfl) ?_
            refine sv rfl (opv_as rfl) ?_
            refine snil ?_
            obtain rfl := Option.some.inj h
            exact ⟨(n4, (wI (s4 + 1))), _, hk4, ⟨rfl, rfl, rfl, trivial⟩, rfl, Nat.lt_succ_self _⟩
        · replace h := ite_f hc h
          clear hc
          refine cexit ?_
          refine then_exit ?_
          refine then_exit ?_
          refine block_hit ?_
          refine then_normal ?_
          obtain rfl := Option.some.inj h
          obtain rfl : _ = x4 := hk4
          exact ⟨(), _, ho4, trivial, rfl⟩
    · skip
      refine cblock ?_
      obtain ⟨x9, hx9, ho9⟩ := bind_eq h
      refine awc_loop (G := Nat × (Int)) (fun g => [(2, .s (.one (.lp 0 0))), (3, .s (.one (.lp 1 0))), (5, .s (.one (.i .i64 g.2)))]) (fun g => [.box a0, .box a1]) (fun g => iter (m15_r22_Same_s9 a0 a1) g.1 g.2 = some x9) (fun g => g.1) (fuel, 0) hx9 ⟨rfl, rfl, rfl, trivial⟩ [] rfl (fun _ _ => inbL_of rfl) (fun _ _ => blkinb_of rfl) (fun _ _ => Nat.le_of_ble_eq_true rfl) ?_
      clear hx9 h
      rintro ⟨n9, s9⟩ h
      obtain ⟨n9, y9, rfl, h, hk9⟩ := iter_eq h
      unfold m15_r22_Same_s9 at h
      refine cseq ?_
      refine cseq ?_
      refine cregion ?_
      refine sv rfl (opv_mv rfl) ?_
      refine sv rfl (opv_fieldAddr_lp fi25_0 rfl) ?_
      refine sv rfl (opv_load1 ti22 rfl (.lp _ _ _ rfl) rfl) ?_
      refine sv rfl (opv_len_sl si22 rfl) ?_
      refine sv rfl (opv_lss rfl rfl) ?_
      refine snil ?_
      refine ccond rfl (fun hc => ?_) (fun hc => ?_)
      · replace h := ite_t hc h
        clear hc
        refine cskip ?_
        refine then_normal ?_
        refine cseq ?_
        refine cblock ?_
        refine cseq ?_
        refine cdraw mixed (by kernel_rfl) ?_
        refine dv rfl (opv_fieldAddr_lp fi25_0 rfl) ?_
        refine dv rfl (opv_load1 ti22 rfl (.lp _ _ _ rfl) rfl) ?_
        refine dv rfl (opv_mv rfl) ?_
        obtain ⟨u10, hu10, h⟩ := bind_eq h
        refine dv rfl (opv_ix (f := eGR22Link) si22 (fun _ => rfl) rfl rfl rfl rfl hu10) ?_
        refine dv rfl (opv_loadNe (ys := [.i .i64 u10.ID, .i .i64 u10.Client, .i .i64 u10.Conn]) ti75 rfl (.cp _) rfl rfl) ?_
        refine dv rfl (opv_fieldAddr_lp fi25_0 rfl) ?_
        refine dv rfl (opv_load1 ti22 rfl (.lp _ _ _ rfl) rfl) ?_
        refine dv rfl (opv_mv rfl) ?_
        obtain ⟨u11, hu11, h⟩ := bind_eq h
        refine dv rfl (opv_ix (f := eGR22Link) si22 (fun _ => rfl) rfl rfl rfl rfl hu11) ?_
        refine dv rfl (opv_loadNe (ys := [.i .i64 u11.ID, .i .i64 u11.Client, .i .i64 u11.Conn]) ti75 rfl (.cp _) rfl rfl) ?_
        refine dv rfl (opv_stneq et75 rfl rfl rfl rfl rfl) ?_
        refine dnil ?_
        refine then_normal ?_
        refine ccond rfl (fun hc => ?_) (fun hc => ?_)
        · replace h := ite_t hc h
          clear hc
          refine cseq ?_
          refine cregion ?_
          refine sv rfl (opv_as rfl) ?_
          refine snil ?_
          refine cret ?_
          refine block_ret ?_
          refine then_ret ?_
          refine then_ret ?_
          refine block_ret ?_
          refine then_ret ?_
          obtain rfl := Option.some.inj h
          obtain rfl : Sum.inl _ = x9 := hk9
          replace ho9 : some _ = some _ := ho9
          obtain rfl := Option.some.inj ho9
          refine ⟨Or.inr rfl, _, _, _, (resVs_cons (ResV.tmp _ _ rfl) resVs_nil), (pubA_id rfl), ?_⟩
          rfl
        · replace h := ite_f hc h
          clear hc
          refine cskip ?_
          refine block_normal ?_
          refine then_normal ?_
          refine cregion ?_
          refine sv rfl (opv_mv rfl) ?_
          refine sv rfl (opv_add rfl rfl) ?_
          refine sv rfl (opv_as rfl) ?_
          refine snil ?_
          obtain rfl := Option.some.inj h
          exact ⟨(n9, (wI (s9 + 1))), _, hk9, ⟨rfl, rfl, rfl, trivial⟩, rfl, Nat.lt_succ_self _⟩
      · replace h := ite_f hc h
        clear hc
        refine cexit ?_
        refine then_exit ?_
        refine then_exit ?_
        refine block_hit ?_
        refine then_normal ?_
        obtain rfl := Option.some.inj h
        obtain rfl : _ = x9 := hk9
        exact ⟨(), _, ho9, ⟨rfl, rfl, trivial⟩, rfl⟩
  · skip
    refine cregion ?_
    refine sv rfl (opv_fieldAddr_lp fi25_0 rfl) ?_
    refine sv rfl (opv_load1 ti22 rfl (.lp _ _ _ rfl) rfl) ?_
    refine sv rfl (opv_len_sl si22 rfl) ?_
    refine sv rfl (opv_fieldAddr_lp fi25_0 rfl) ?_
    refine sv rfl (opv_load1 ti22 rfl (.lp _ _ _ rfl) rfl) ?_
    refine sv rfl (opv_len_sl si22 rfl) ?_
    refine sv rfl (opv_ineq rfl rfl) ?_
    refine sv rfl (opv_mv rfl) ?_
    refine ssplit 14 rfl (fun hc => ?_) (fun hc => ?_)
    · replace h := ite_t hc h
      clear hc
      refine soff rfl rfl rfl rfl ?_
      refine soff rfl rfl rfl rfl ?_
      refine soff rfl rfl rfl rfl ?_
      refine soff rfl rfl rfl rfl ?_
      refine soff rfl rfl rfl rfl ?_
      refine soff rfl rfl rfl rfl ?_
      refine soff rfl rfl rfl rfl ?_
      refine sv rfl (opv_pick_t rfl rfl) ?_
      refine sv rfl (opv_mv rfl) ?_
      refine soff rfl rfl rfl rfl ?_
      refine soff rfl rfl rfl rfl ?_
      refine soff rfl rfl rfl rfl ?_
      refine soff rfl rfl rfl rfl ?_
      refine soff rfl rfl rfl rfl ?_
      refine sv rfl (opv_pick_t rfl rfl) ?_
      refine snil ?_
      refine ccond rfl (fun _ => ?_) (fun hx => Bool.noConfusion hx)
      refine cseq ?_
      refine cregion ?_
      refine sv rfl (opv_as rfl) ?_
      refine snil ?_
      refine cret ?_
      refine then_ret ?_
      obtain rfl := Option.some.inj h
      refine ⟨Or.inr rfl, _, _, _, (resVs_cons (ResV.tmp _ _ rfl) resVs_nil), (pubA_id rfl), ?_⟩
      rfl
    · replace h := ite_f hc h
      clear hc
      refine son rfl rfl rfl ?_
      refine sv rfl (opv_fieldAddr_lp fi25_1 rfl) ?_
      refine son rfl rfl rfl ?_
      refine sv rfl (opv_load1 ti23 rfl (.lp _ _ _ rfl) rfl) ?_
      refine son rfl rfl rfl ?_
      refine sv rfl (opv_len_sl si23 rfl) ?_
      refine son rfl rfl rfl ?_
      refine sv rfl (opv_fieldAddr_lp fi25_1 rfl) ?_
      refine son rfl rfl rfl ?_
      refine sv rfl (opv_load1 ti23 rfl (.lp _ _ _ rfl) rfl) ?_
      refine son rfl rfl rfl ?_
      refine sv rfl (opv_len_sl si23 rfl) ?_
      refine son rfl rfl rfl ?_
      refine sv rfl (opv_ineq rfl rfl) ?_
      refine sv rfl (opv_pick_f rfl rfl) ?_
      refine sv rfl (opv_mv rfl) ?_
      refine ssplit 23 rfl (fun hc => ?_) (fun hc => ?_)
      · replace h := ite_t hc h
        clear hc
        refine soff rfl rfl rfl rfl ?_
        refine soff rfl rfl rfl rfl ?_
        refine soff rfl rfl rfl rfl ?_
        refine soff rfl rfl rfl rfl ?_
        refine soff rfl rfl rfl rfl ?_
        refine sv rfl (opv_pick_t rfl rfl) ?_
        refine snil ?_
        refine ccond rfl (fun _ => ?_) (fun hx => Bool.noConfusion hx)
        refine cseq ?_
        refine cregion ?_
        refine sv rfl (opv_as rfl) ?_
        refine snil ?_
        refine cret ?_
        refine then_ret ?_
        obtain rfl := Option.some.inj h
        refine ⟨Or.inr rfl, _, _, _, (resVs_cons (ResV.tmp _ _ rfl) resVs_nil), (pubA_id rfl), ?_⟩
        rfl
      · replace h := ite_f hc h
        clear hc
        refine son rfl rfl rfl ?_
        refine sv rfl (opv_fieldAddr_lp fi25_2 rfl) ?_
        refine son rfl rfl rfl ?_
        refine sv rfl (opv_load1 ti3 rfl (.lp _ _ _ rfl) rfl) ?_
        refine son rfl rfl rfl ?_
        refine sv rfl (opv_fieldAddr_lp fi25_2 rfl) ?_
        refine son rfl rfl rfl ?_
        refine sv rfl (opv_load1 ti3 rfl (.lp _ _ _ rfl) rfl) ?_
        refine son rfl rfl rfl ?_
        refine sv rfl (opv_ineq rfl rfl) ?_
        refine sv rfl (opv_pick_f rfl rfl) ?_
        refine snil ?_
        refine ccond rfl (fun hc => ?_) (fun hc => ?_)
        · replace h := ite_t hc h
          clear hc
          refine cseq ?_
          refine cregion ?_
          refine sv rfl (opv_as rfl) ?_
          refine snil ?_
          refine cret ?_
          refine then_ret ?_
          obtain rfl := Option.some.inj h
          refine ⟨Or.inr rfl, _, _, _, (resVs_cons (ResV.tmp _ _ rfl) resVs_nil), (pubA_id rfl), ?_⟩
          rfl
        · replace h := ite_f hc h
          clear hc
          refine cskip ?_
          refine then_normal ?_
          exact ⟨(), _, h, ⟨rfl, rfl, trivial⟩, rfl⟩

def m18_r22_Take_k2 (a0 : GR22Net) (a1 : Int) (b2 : Unit) : Option (GR22Net × GR22Packet × Bool) :=
  (cut a0.Packets 0 a1).bind fun c3 => if (([] : List GR22Packet).length + c3.length) * 40 ≤ 140737488355328 then ((cut a0.Packets (wI (a1 + 1)) (a0.Packets.length : Int)).bind fun c5 => if ((([] : List GR22Packet) ++ c3).length + c5.length) * 40 ≤ 140737488355328 then ((idx a0.Packets a1).bind fun u7 => some ((GR22Net.mk a0.Links ((([] : List GR22Packet) ++ c3) ++ c5) a0.Next), u7, true)) else none) else none
def m18_r22_Take (a0 : GR22Net) (a1 : Int) : Option (GR22Net × GR22Packet × Bool) :=
  (m31_r22_Sane a0).bind fun v1 => if (!v1) then (some ((GR22Net.mk ([] : List GR22Link) ([] : List GR22Packet) 0), (GR22Packet.mk 0 false ([] : List UInt8)), false)) else (if (decide (a1 < 0)) then (some (a0, (GR22Packet.mk 0 false ([] : List UInt8)), false)) else (if (decide ((a0.Packets.length : Int) ≤ a1)) then (some (a0, (GR22Packet.mk 0 false ([] : List UInt8)), false)) else (m18_r22_Take_k2 a0 a1 ())))

set_option maxRecDepth 100000 in
theorem m18_r22_Take_c {a0 : GR22Net} {a1 : Int} {r : GR22Net × GR22Packet × Bool} (h : m18_r22_Take a0 a1 = some r) : CallsA Try.prog 18 [.agg a0, .one (.i .i64 a1)] (· = .tup [.agg r.1, .agg r.2.1, .one (.b r.2.2)]) := by
  unfold m18_r22_Take at h
  refine callsA_of Try.func18 rfl (nt := 48) rfl (Nat.le_of_ble_eq_true rfl) ?_
  intro w0 S0
  refine cseq ?_
  refine cregion ?_
  refine sbox rfl rfl ?_
  refine salloc rfl zi25 ?_
  refine salloc rfl zi49 ?_
  refine sv rfl (opv_as rfl) ?_
  refine snil ?_
  refine cseq ?_
  refine cseq ?_
  refine cregion ?_
  refine sv rfl (opv_loadN ti25 rfl (.lp _ _ _ rfl) (Nat.le_of_ble_eq_true rfl)) ?_
  obtain ⟨v1, hv1, h⟩ := bind_eq h
  refine scall1 rfl fn31 (opnds_cons rfl opnds_nil) (pubA_id rfl) (m31_r22_Sane_c hv1) ?_
  refine sv rfl (opv_not rfl) ?_
  refine snil ?_
  refine ccond rfl (fun hc => ?_) (fun hc => ?_)
  · replace h := ite_t hc h
    clear hc
    refine cseq ?_
    refine cregion ?_
    refine sv rfl (opv_build zi25 pi25 parts_nil (.nil _)) ?_
    refine sv rfl (opv_build zi49 pi49 parts_nil (.nil _)) ?_
    refine sstore sz25 rfl rfl rfl rfl (Nat.le_of_ble_eq_true rfl) ?_
    refine smem [.box a0, .box [.raw (.slice none 0 0), .raw (.slice none 0 0), .i .i64 0], .box [.i .i64 0, .b false, .raw (.slice none 0 0)]] rfl ?_
    refine sstore sz49 rfl rfl rfl rfl (Nat.le_of_ble_eq_true rfl) ?_
    refine smem [.box a0, .box [.raw (.slice none 0 0), .raw (.slice none 0 0), .i .i64 0], .box [.i .i64 0, .b false, .raw (.slice none 0 0)]] rfl ?_
    refine sv rfl (opv_as rfl) ?_
    refine snil ?_
    refine cret ?_
    refine then_ret ?_
    obtain rfl := Option.some.inj h
    refine ⟨Or.inr rfl, _, _, _, (resVs_cons (ResV.agg _ _ _ _ _ ti25 rfl (.lp _ _ _ rfl) (Nat.le_of_ble_eq_true rfl)) (resVs_cons (ResV.agg _ _ _ _ _ ti49 rfl (.lp _ _ _ rfl) (Nat.le_of_ble_eq_true rfl)) (resVs_cons (ResV.tmp _ _ rfl) resVs_nil))), (pubC rfl), ?_⟩
    rfl
  · replace h := ite_f hc h
    clear hc
    refine cskip ?_
    refine then_normal ?_
    refine cseq ?_
    refine cseq ?_
    refine cjoin3 (Unit) (fun b2 => [(1, .s (.one (.i .i64 a1))), (2, .s (.one (.lp 0 0))), (4, .s (.one (.lp 1 0))), (5, .s (.one (.lp 2 0)))]) (fun b2 => [.box a0, .box [.raw (.slice none 0 0), .raw (.slice none 0 0), .i .i64 0], .box [.i .i64 0, .b false, .raw (.slice none 0 0)]]) (fun b2 => m18_r22_Take_k2 a0 a1 b2 = some r) (fun _ _ => inbL_of rfl) (fun _ _ => blkinb_of rfl) (fun _ _ => Nat.le_of_ble_eq_true rfl) (fun b2 h => ?_) ?_
    · unfold m18_r22_Take_k2 at h
      refine cseq ?_
      refine cregion ?_
      refine sv rfl (opv_as rfl) ?_
      refine snil ?_
      refine cseq ?_
      refine cregion ?_
      refine sv rfl (opv_mv rfl) ?_
      refine sv rfl (opv_fieldAddr_lp fi25_1 rfl) ?_
      refine sv rfl (opv_load1 ti23 rfl (.lp _ _ _ rfl) rfl) ?_
      refine sv rfl (opv_mv rfl) ?_
      obtain ⟨c3, hc3, h⟩ := bind_eq h
      refine sv rfl (opv_cut (f := eGR22Packet) (lo := 0) (hi := a1) si23 (fun _ => rfl) rfl rfl rfl bound_none (bound_some rfl (Int.le_trans (cut_eq hc3).1.1 (cut_eq hc3).1.2.1)) hc3) ?_
      refine sadopt 49 3 24 (by decide) rfl ?_
      obtain ⟨hb4, h⟩ := chk_eq h
      refine sapp (f := eGR22Packet) (xs := ([] : List GR22Packet)) (us := c3) rfl Try.underlying23 ei49 ni23 (fun _ => rfl) rfl rfl (.one _ _ _ _ (.id _ rfl)) rfl rfl rfl (.sl _ _ _ (flat_len (f := eGR22Packet) (fun _ => rfl) _)) rfl rfl hb4 (by decide) ?_
      refine sv rfl (opv_as rfl) ?_
      refine snil ?_
      refine cseq ?_
      refine cregion ?_
      refine sv rfl (opv_mv rfl) ?_
      refine sv rfl (opv_fieldAddr_lp fi25_1 rfl) ?_
      refine sv rfl (opv_load1 ti23 rfl (.lp _ _ _ rfl) rfl) ?_
      refine sv rfl (opv_mv rfl) ?_
      refine sv rfl (opv_add rfl rfl) ?_
      obtain ⟨c5, hc5, h⟩ := bind_eq h
      refine sv rfl (opv_cut (f := eGR22Packet) (lo := (wI (a1 + 1))) (hi := (a0.Packets.length : Int)) si23 (fun _ => rfl) rfl rfl rfl (bound_some rfl (cut_eq hc5).1.1) (by exact rfl) hc5) ?_
      obtain ⟨hb6, h⟩ := chk_eq h
      refine sapp (f := eGR22Packet) (xs := (([] : List GR22Packet) ++ c3)) (us := c5) rfl Try.underlying23 ei49 ni23 (fun _ => rfl) rfl rfl (.one _ _ _ _ (.id _ rfl)) rfl rfl rfl (.sl _ _ _ (flat_len (f := eGR22Packet) (fun _ => rfl) _)) rfl rfl hb6 (by decide) ?_
      refine sv rfl (opv_as rfl) ?_
      refine snil ?_
      refine cseq ?_
      obtain ⟨u7, hu7, h⟩ := bind_eq h
      refine cdraw_e [11, 12] [0, 1, 0, 0, 8, 31, 0, 64, 0, 448, 960, 63, 4095, 8191] [[.box a0, .box [.raw (.slice none 0 0), .raw (.slice none 0 0), .i .i64 0], .box [.i .i64 0, .b false, .raw (.slice none 0 0)], .arr 49 3 0 (((([] : List GR22Packet) ++ c3) ++ c5).flatMap eGR22Packet)], [.box a0, .box [.sl a0.Links.length (a0.Links.flatMap eGR22Link), .ls 3 ((([] : List GR22Packet) ++ c3) ++ c5).length, .i .i64 a0.Next], .box [.i .i64 0, .b false, .raw (.slice none 0 0)], .arr 49 3 0 (((([] : List GR22Packet) ++ c3) ++ c5).flatMap eGR22Packet)], [.box a0, .box [.sl a0.Links.length (a0.Links.flatMap eGR22Link), .ls 3 ((([] : List GR22Packet) ++ c3) ++ c5).length, .i .i64 a0.Next], .box u7, .arr 49 3 0 (((([] : List GR22Packet) ++ c3) ++ c5).flatMap eGR22Packet)]] (by kernel_rfl) mixed (by kernel_rfl) (by decide) rfl rfl rfl rfl ?_
      refine ev (sees_at 0 rfl rfl) rfl rfl (opv_fieldAddr_lp fi25_0 rfl) ?_
      refine ev (sees_at 0 rfl rfl) rfl rfl (opv_load1 ti22 rfl (.lp _ _ _ rfl) rfl) ?_
      refine ev (sees_at 0 rfl rfl) rfl rfl (opv_mv rfl) ?_
      refine ev (sees_at 0 rfl rfl) rfl rfl (opv_fieldAddr_lp fi25_2 rfl) ?_
      refine ev (sees_at 0 rfl rfl) rfl rfl (opv_load1 ti3 rfl (.lp _ _ _ rfl) rfl) ?_
      refine ev (sees_at 0 rfl rfl) rfl rfl (opv_build zi25 pi25 (parts_cons rfl (parts_cons rfl (parts_cons rfl parts_nil))) (.cons _ _ _ _ _ _ _ rfl rfl (Nat.le_of_ble_eq_true rfl) (.cons _ _ _ _ _ _ _ rfl rfl (Nat.le_of_ble_eq_true rfl) (.cons _ _ _ _ _ _ _ rfl rfl (Nat.le_of_ble_eq_true rfl) (.nil _))))) ?_
      refine ev (sees_all (md := [.box a0, .dead, .dead, .arr 49 3 0 (((([] : List GR22Packet) ++ c3) ++ c5).flatMap eGR22Packet)]) ⟨⟨rfl, ⟨trivial, ⟨trivial, ⟨rfl, trivial⟩⟩⟩⟩, ⟨⟨rfl, ⟨trivial, ⟨trivial, ⟨rfl, trivial⟩⟩⟩⟩, ⟨⟨rfl, ⟨trivial, ⟨trivial, ⟨rfl, trivial⟩⟩⟩⟩, trivial⟩⟩⟩) rfl rfl (opv_fieldAddr_lp fi25_1 rfl) ?_
      refine ev (sees_all (md := [.box a0, .dead, .dead, .arr 49 3 0 (((([] : List GR22Packet) ++ c3) ++ c5).flatMap eGR22Packet)]) ⟨⟨rfl, ⟨trivial, ⟨trivial, ⟨rfl, trivial⟩⟩⟩⟩, ⟨⟨rfl, ⟨trivial, ⟨trivial, ⟨rfl, trivial⟩⟩⟩⟩, ⟨⟨rfl, ⟨trivial, ⟨trivial, ⟨rfl, trivial⟩⟩⟩⟩, trivial⟩⟩⟩) rfl rfl (opv_load1 ti23 rfl (.lp _ _ _ rfl) rfl) ?_
      refine emv rfl rfl (fun _ => opv_mv rfl) ?_
      refine ev (sees_all (md := [.box a0, .dead, .dead, .arr 49 3 0 (((([] : List GR22Packet) ++ c3) ++ c5).flatMap eGR22Packet)]) ⟨⟨rfl, ⟨trivial, ⟨trivial, ⟨rfl, trivial⟩⟩⟩⟩, ⟨⟨rfl, ⟨trivial, ⟨trivial, ⟨rfl, trivial⟩⟩⟩⟩, ⟨⟨rfl, ⟨trivial, ⟨trivial, ⟨rfl, trivial⟩⟩⟩⟩, trivial⟩⟩⟩) rfl rfl (opv_ix (f := eGR22Packet) si23 (fun _ => rfl) rfl rfl rfl rfl hu7) ?_
      refine ev (sees_all (md := [.box a0, .dead, .dead, .arr 49 3 0 (((([] : List GR22Packet) ++ c3) ++ c5).flatMap eGR22Packet)]) ⟨⟨rfl, ⟨trivial, ⟨trivial, ⟨rfl, trivial⟩⟩⟩⟩, ⟨⟨rfl, ⟨trivial, ⟨trivial, ⟨rfl, trivial⟩⟩⟩⟩, ⟨⟨rfl, ⟨trivial, ⟨trivial, ⟨rfl, trivial⟩⟩⟩⟩, trivial⟩⟩⟩) rfl rfl (opv_loadNe (ys := [.i .i64 u7.Link, .b u7.Up, .sl u7.Bytes.length (u7.Bytes.flatMap eU8)]) ti49 rfl (.cp _) rfl rfl) ?_
      refine ee0 0 rfl rfl rfl rfl (fun ζ => ?_) ?_
      · refine sstore sz25 rfl rfl rfl rfl (Nat.le_of_ble_eq_true rfl) ?_
        refine smem [.box a0, .box [.sl a0.Links.length (a0.Links.flatMap eGR22Link), .ls 3 ((([] : List GR22Packet) ++ c3) ++ c5).length, .i .i64 a0.Next], .box [.i .i64 0, .b false, .raw (.slice none 0 0)], .arr 49 3 0 (((([] : List GR22Packet) ++ c3) ++ c5).flatMap eGR22Packet)] rfl ?_
        exact eend
      refine ee0 1 rfl rfl rfl rfl (fun ζ => ?_) ?_
      · refine sstore sz49 rfl rfl rfl rfl (Nat.le_of_ble_eq_true rfl) ?_
        refine smem [.box a0, .box [.sl a0.Links.length (a0.Links.flatMap eGR22Link), .ls 3 ((([] : List GR22Packet) ++ c3) ++ c5).length, .i .i64 a0.Next], .box u7, .arr 49 3 0 (((([] : List GR22Packet) ++ c3) ++ c5).flatMap eGR22Packet)] rfl ?_
        exact eend
      refine ev (sees_at 2 rfl rfl) rfl rfl (opv_as rfl) ?_
      refine enil ?_
      refine then_normal ?_
      refine cret ?_
      obtain rfl := Option.some.inj h
      refine ⟨Or.inr rfl, _, _, _, (resVs_cons (ResV.agg _ _ _ _ _ ti25 rfl (.lp _ _ _ rfl) (Nat.le_of_ble_eq_true rfl)) (resVs_cons (ResV.agg _ _ _ _ _ ti49 rfl (.lp _ _ _ rfl) (Nat.le_of_ble_eq_true rfl)) (resVs_cons (ResV.tmp _ _ rfl) resVs_nil))), (by (repeat' first | exact PubA.nil _ | apply PubA.cons | apply PubV.one | apply PubV.agg | exact PubL.nil | exact PubL.ls _ _ _ _ _ _ rfl (flat_len (f := eGR22Packet) (fun _ => rfl) _).symm | exact PubL.id _ rfl | exact PubLs.nil _ | apply PubLs.cons)), ?_⟩
      rfl
    · skip
      refine cregion ?_
      refine sv rfl (opv_mv rfl) ?_
      refine sv rfl (opv_lss rfl rfl) ?_
      refine sv rfl (opv_mv rfl) ?_
      refine ssplit 15 rfl (fun hc => ?_) (fun hc => ?_)
      · replace h := ite_t hc h
        clear hc
        refine soff rfl rfl rfl rfl ?_
        refine soff rfl rfl rfl rfl ?_
        refine soff rfl rfl rfl rfl ?_
        refine soff rfl rfl rfl rfl ?_
        refine soff rfl rfl rfl rfl ?_
        refine sv rfl (opv_pick_t rfl rfl) ?_
        refine snil ?_
        refine ccond rfl (fun _ => ?_) (fun hx => Bool.noConfusion hx)
        refine cseq ?_
        refine cregion ?_
        refine sv rfl (opv_loadN ti25 rfl (.lp _ _ _ rfl) (Nat.le_of_ble_eq_true rfl)) ?_
        refine sv rfl (opv_build zi49 pi49 parts_nil (.nil _)) ?_
        refine sstore sz25 rfl rfl rfl rfl (Nat.le_of_ble_eq_true rfl) ?_
        refine smem [.box a0, .box a0, .box [.i .i64 0, .b false, .raw (.slice none 0 0)]] rfl ?_
        refine sstore sz49 rfl rfl rfl rfl (Nat.le_of_ble_eq_true rfl) ?_
        refine smem [.box a0, .box a0, .box [.i .i64 0, .b false, .raw (.slice none 0 0)]] rfl ?_
        refine sv rfl (opv_as rfl) ?_
        refine snil ?_
        refine cret ?_
        refine then_ret ?_
        obtain rfl := Option.some.inj h
        refine ⟨Or.inr rfl, _, _, _, (resVs_cons (ResV.agg _ _ _ _ _ ti25 rfl (.lp _ _ _ rfl) (Nat.le_of_ble_eq_true rfl)) (resVs_cons (ResV.agg _ _ _ _ _ ti49 rfl (.lp _ _ _ rfl) (Nat.le_of_ble_eq_true rfl)) (resVs_cons (ResV.tmp _ _ rfl) resVs_nil))), (pubC rfl), ?_⟩
        rfl
      · replace h := ite_f hc h
        clear hc
        refine son rfl rfl rfl ?_
        refine sv rfl (opv_mv rfl) ?_
        refine son rfl rfl rfl ?_
        refine sv rfl (opv_fieldAddr_lp fi25_1 rfl) ?_
        refine son rfl rfl rfl ?_
        refine sv rfl (opv_load1 ti23 rfl (.lp _ _ _ rfl) rfl) ?_
        refine son rfl rfl rfl ?_
        refine sv rfl (opv_len_sl si23 rfl) ?_
        refine son rfl rfl rfl ?_
        refine sv rfl (opv_geq rfl rfl) ?_
        refine sv rfl (opv_pick_f rfl rfl) ?_
        refine snil ?_
        refine ccond rfl (fun hc => ?_) (fun hc => ?_)
        · replace h := ite_t hc h
          clear hc
          refine cseq ?_
          refine cregion ?_
          refine sv rfl (opv_loadN ti25 rfl (.lp _ _ _ rfl) (Nat.le_of_ble_eq_true rfl)) ?_
          refine sv rfl (opv_build zi49 pi49 parts_nil (.nil _)) ?_
          refine sstore sz25 rfl rfl rfl rfl (Nat.le_of_ble_eq_true rfl) ?_
          refine smem [.box a0, .box a0, .box [.i .i64 0, .b false, .raw (.slice none 0 0)]] rfl ?_
          refine sstore sz49 rfl rfl rfl rfl (Nat.le_of_ble_eq_true rfl) ?_
          refine smem [.box a0, .box a0, .box [.i .i64 0, .b false, .raw (.slice none 0 0)]] rfl ?_
          refine sv rfl (opv_as rfl) ?_
          refine snil ?_
          refine cret ?_
          refine then_ret ?_
          obtain rfl := Option.some.inj h
          refine ⟨Or.inr rfl, _, _, _, (resVs_cons (ResV.agg _ _ _ _ _ ti25 rfl (.lp _ _ _ rfl) (Nat.le_of_ble_eq_true rfl)) (resVs_cons (ResV.agg _ _ _ _ _ ti49 rfl (.lp _ _ _ rfl) (Nat.le_of_ble_eq_true rfl)) (resVs_cons (ResV.tmp _ _ rfl) resVs_nil))), (pubC rfl), ?_⟩
          rfl
        · replace h := ite_f hc h
          clear hc
          refine cskip ?_
          refine then_normal ?_
          exact ⟨(), _, h, ⟨rfl, rfl, rfl, rfl, trivial⟩, rfl⟩

def m20_r22_Dup_k2 (a0 : GR22Net) (a1 : Int) (b2 : Unit) : Option (GR22Net × Int) :=
  (idx a0.Packets a1).bind fun u3 => (m43_r22_with a0 u3).bind fun v4 => some (v4.1, v4.2)
def m20_r22_Dup (a0 : GR22Net) (a1 : Int) : Option (GR22Net × Int) :=
  (m31_r22_Sane a0).bind fun v1 => if (!v1) then (some ((GR22Net.mk ([] : List GR22Link) ([] : List GR22Packet) 0), 1)) else (if (decide (a1 < 0)) then (some ((GR22Net.mk ([] : List GR22Link) ([] : List GR22Packet) 0), 6)) else (if (decide ((a0.Packets.length : Int) ≤ a1)) then (some ((GR22Net.mk ([] : List GR22Link) ([] : List GR22Packet) 0), 6)) else (m20_r22_Dup_k2 a0 a1 ())))

set_option maxRecDepth 100000 in
theorem m20_r22_Dup_c {a0 : GR22Net} {a1 : Int} {r : GR22Net × Int} (h : m20_r22_Dup a0 a1 = some r) : CallsA Try.prog 20 [.agg a0, .one (.i .i64 a1)] (· = .tup [.agg r.1, .one (.i .i64 r.2)]) := by
  unfold m20_r22_Dup at h
  refine callsA_of Try.func20 rfl (nt := 29) rfl (Nat.le_of_ble_eq_true rfl) ?_
  intro w0 S0
  refine cseq ?_
  refine cregion ?_
  refine sbox rfl rfl ?_
  refine salloc rfl zi25 ?_
  refine sv rfl (opv_as rfl) ?_
  refine snil ?_
  refine cseq ?_
  refine cseq ?_
  refine cregion ?_
  refine sv rfl (opv_loadN ti25 rfl (.lp _ _ _ rfl) (Nat.le_of_ble_eq_true rfl)) ?_
  obtain ⟨v1, hv1, h⟩ := bind_eq h
  refine scall1 rfl fn31 (opnds_cons rfl opnds_nil) (pubA_id rfl) (m31_r22_Sane_c hv1) ?_
  refine sv rfl (opv_not rfl) ?_
  refine snil ?_
  refine ccond rfl (fun hc => ?_) (fun hc => ?_)
  · replace h := ite_t hc h
    clear hc
    refine cseq ?_
    refine cregion ?_
    refine sv rfl (opv_build zi25 pi25 parts_nil (.nil _)) ?_
    refine sstore sz25 rfl rfl rfl rfl (Nat.le_of_ble_eq_true rfl) ?_
    refine smem [.box a0, .box [.raw (.slice none 0 0), .raw (.slice none 0 0), .i .i64 0]] rfl ?_
    refine sv rfl (opv_as rfl) ?_
    refine snil ?_
    refine cret ?_
    refine then_ret ?_
    obtain rfl := Option.some.inj h
    refine ⟨Or.inr rfl, _, _, _, (resVs_cons (ResV.agg _ _ _ _ _ ti25 rfl (.lp _ _ _ rfl) (Nat.le_of_ble_eq_true rfl)) (resVs_cons (ResV.tmp _ _ rfl) resVs_nil)), (pubC rfl), ?_⟩
    rfl
  · replace h := ite_f hc h
    clear hc
    refine cskip ?_
    refine then_normal ?_
    refine cseq ?_
    refine cseq ?_
    refine cjoin3 (Unit) (fun b2 => [(1, .s (.one (.i .i64 a1))), (2, .s (.one (.lp 0 0))), (4, .s (.one (.lp 1 0)))]) (fun b2 => [.box a0, .box [.raw (.slice none 0 0), .raw (.slice none 0 0), .i .i64 0]]) (fun b2 => m20_r22_Dup_k2 a0 a1 b2 = some r) (fun _ _ => inbL_of rfl) (fun _ _ => blkinb_of rfl) (fun _ _ => Nat.le_of_ble_eq_true rfl) (fun b2 h => ?_) ?_
    · unfold m20_r22_Dup_k2 at h
      refine cseq ?_
      obtain ⟨u3, hu3, h⟩ := bind_eq h
      obtain ⟨v4, hv4, h⟩ := bind_eq h
      refine cdraw_e [9] [0, 0, 2, 0, 14, 30, 63, 127, 127, 511, 1023] [[.box a0, .box [.raw (.slice none 0 0), .raw (.slice none 0 0), .i .i64 0]], [.box a0, .box v4.1]] (by kernel_rfl) mixed (by kernel_rfl) (by decide) rfl rfl rfl rfl ?_
      refine ev (sees_at 0 rfl rfl) rfl rfl (opv_loadN ti25 rfl (.lp _ _ _ rfl) (Nat.le_of_ble_eq_true rfl)) ?_
      refine ev (sees_at 0 rfl rfl) rfl rfl (opv_fieldAddr_lp fi25_1 rfl) ?_
      refine ev (sees_at 0 rfl rfl) rfl rfl (opv_load1 ti23 rfl (.lp _ _ _ rfl) rfl) ?_
      refine ev (sees_at 0 rfl rfl) rfl rfl (opv_mv rfl) ?_
      refine ev (sees_at 0 rfl rfl) rfl rfl (opv_ix (f := eGR22Packet) si23 (fun _ => rfl) rfl rfl rfl rfl hu3) ?_
      refine ev (sees_at 0 rfl rfl) rfl rfl (opv_loadNe (ys := [.i .i64 u3.Link, .b u3.Up, .sl u3.Bytes.length (u3.Bytes.flatMap eU8)]) ti49 rfl (.cp _) rfl rfl) ?_
      refine ed (sees_at 0 rfl rfl) rfl rfl (opD_call fn43 (opnds_cons rfl (opnds_cons rfl opnds_nil)) rfl (m43_r22_with_c hv4)) ?_
      refine ev (sees_at 0 rfl rfl) rfl rfl (opv_extract rfl rfl) ?_
      refine ev (sees_at 0 rfl rfl) rfl rfl (opv_extract rfl rfl) ?_
      refine ee0 0 rfl rfl rfl rfl (fun ζ => ?_) ?_
      · refine sstore sz25 rfl rfl rfl rfl (Nat.le_of_ble_eq_true rfl) ?_
        refine smem [.box a0, .box v4.1] rfl ?_
        exact eend
      refine ev (sees_at 1 rfl rfl) rfl rfl (opv_as rfl) ?_
      refine enil ?_
      refine then_normal ?_
      refine cret ?_
      obtain rfl := Option.some.inj h
      refine ⟨Or.inr rfl, _, _, _, (resVs_cons (ResV.agg _ _ _ _ _ ti25 rfl (.lp _ _ _ rfl) (Nat.le_of_ble_eq_true rfl)) (resVs_cons (ResV.tmp _ _ rfl) resVs_nil)), (pubA_id rfl), ?_⟩
      rfl
    · skip
      refine cregion ?_
      refine sv rfl (opv_mv rfl) ?_
      refine sv rfl (opv_lss rfl rfl) ?_
      refine sv rfl (opv_mv rfl) ?_
      refine ssplit 12 rfl (fun hc => ?_) (fun hc => ?_)
      · replace h := ite_t hc h
        clear hc
        refine soff rfl rfl rfl rfl ?_
        refine soff rfl rfl rfl rfl ?_
        refine soff rfl rfl rfl rfl ?_
        refine soff rfl rfl rfl rfl ?_
        refine soff rfl rfl rfl rfl ?_
        refine sv rfl (opv_pick_t rfl rfl) ?_
        refine snil ?_
        refine ccond rfl (fun _ => ?_) (fun hx => Bool.noConfusion hx)
        refine cseq ?_
        refine cregion ?_
        refine sv rfl (opv_build zi25 pi25 parts_nil (.nil _)) ?_
        refine sstore sz25 rfl rfl rfl rfl (Nat.le_of_ble_eq_true rfl) ?_
        refine smem [.box a0, .box [.raw (.slice none 0 0), .raw (.slice none 0 0), .i .i64 0]] rfl ?_
        refine sv rfl (opv_as rfl) ?_
        refine snil ?_
        refine cret ?_
        refine then_ret ?_
        obtain rfl := Option.some.inj h
        refine ⟨Or.inr rfl, _, _, _, (resVs_cons (ResV.agg _ _ _ _ _ ti25 rfl (.lp _ _ _ rfl) (Nat.le_of_ble_eq_true rfl)) (resVs_cons (ResV.tmp _ _ rfl) resVs_nil)), (pubC rfl), ?_⟩
        rfl
      · replace h := ite_f hc h
        clear hc
        refine son rfl rfl rfl ?_
        refine sv rfl (opv_mv rfl) ?_
        refine son rfl rfl rfl ?_
        refine sv rfl (opv_fieldAddr_lp fi25_1 rfl) ?_
        refine son rfl rfl rfl ?_
        refine sv rfl (opv_load1 ti23 rfl (.lp _ _ _ rfl) rfl) ?_
        refine son rfl rfl rfl ?_
        refine sv rfl (opv_len_sl si23 rfl) ?_
        refine son rfl rfl rfl ?_
        refine sv rfl (opv_geq rfl rfl) ?_
        refine sv rfl (opv_pick_f rfl rfl) ?_
        refine snil ?_
        refine ccond rfl (fun hc => ?_) (fun hc => ?_)
        · replace h := ite_t hc h
          clear hc
          refine cseq ?_
          refine cregion ?_
          refine sv rfl (opv_build zi25 pi25 parts_nil (.nil _)) ?_
          refine sstore sz25 rfl rfl rfl rfl (Nat.le_of_ble_eq_true rfl) ?_
          refine smem [.box a0, .box [.raw (.slice none 0 0), .raw (.slice none 0 0), .i .i64 0]] rfl ?_
          refine sv rfl (opv_as rfl) ?_
          refine snil ?_
          refine cret ?_
          refine then_ret ?_
          obtain rfl := Option.some.inj h
          refine ⟨Or.inr rfl, _, _, _, (resVs_cons (ResV.agg _ _ _ _ _ ti25 rfl (.lp _ _ _ rfl) (Nat.le_of_ble_eq_true rfl)) (resVs_cons (ResV.tmp _ _ rfl) resVs_nil)), (pubC rfl), ?_⟩
          rfl
        · replace h := ite_f hc h
          clear hc
          refine cskip ?_
          refine then_normal ?_
          exact ⟨(), _, h, ⟨rfl, rfl, rfl, trivial⟩, rfl⟩

def m50_net_Of_1s (a0 : GNetLink) (a1 : Int) : Option Bool :=
  some (decide (a0.Client = a1))

set_option maxRecDepth 100000 in
theorem m50_net_Of_1s_c {a0 : GNetLink} {a1 : Int} {r : Bool} (h : m50_net_Of_1s a0 a1 = some r) : CallsB Try.prog 50 [.box [.i .i64 a1]] [.agg a0, .one (.lp 0 0)] (fun y m' => y = .s (.one (.b r)) ∧ m' = [.box [.i .i64 a1]]) := by
  unfold m50_net_Of_1s at h
  refine callsB_of Try.func50 rfl (nt := 8) rfl (Nat.le_of_ble_eq_true rfl) ?_
  intro w0 S0 X0 H0
  refine cseq ?_
  refine cregion ?_
  refine sbox rfl rfl ?_
  refine sv rfl (opv_as rfl) ?_
  refine snil ?_
  refine cseq ?_
  refine cregion ?_
  refine sv rfl (opv_fieldAddr_lp fi69_1 rfl) ?_
  refine sv rfl (opv_load1 ti3 rfl (.lp _ _ _ rfl) rfl) ?_
  refine sv rfl (opv_load1 ti3 rfl (.lp _ _ _ rfl) rfl) ?_
  refine sv rfl (opv_ieql rfl rfl) ?_
  refine sv rfl (opv_as rfl) ?_
  refine snil ?_
  refine cret ?_
  obtain rfl := Option.some.inj h
  exact ⟨Or.inr rfl, _, [0], [.one (.b (decide (a0.Client = a1)))], [.box [.i .i64 a1]], (resVs_cons (ResV.tmp _ _ rfl) resVs_nil), rfl, rfl, ⟨by decide, rfl⟩, rfl, rfl, ⟨rfl, rfl⟩⟩

def m52_slices_IndexFuncs2_k1 (b1 : Unit) : Option Int :=
  some (-1)

def m52_slices_IndexFuncs2_s2 (a0 : List GNetLink) (a1 : Int) (s2 : Int) : Option (LR (Int) (Unit) (Int)) :=
  if (decide (s2 < (a0.length : Int))) then ((idx a0 s2).bind fun u3 => (m50_net_Of_1s u3 a1).bind fun v4 => if v4 then (some (.ret s2)) else (some (.cont (wI (s2 + 1))))) else (some (.brk ()))
def m52_slices_IndexFuncs2 (a0 : List GNetLink) (a1 : Int) : Option Int :=
  (iter (m52_slices_IndexFuncs2_s2 a0 a1) fuel 0).bind fun x => match x with | .inl r => some r | .inr e5 => m52_slices_IndexFuncs2_k1 e5

set_option maxRecDepth 100000 in
theorem m52_slices_IndexFuncs2_c {a0 : List GNetLink} {a1 : Int} {r : Int} (h : m52_slices_IndexFuncs2 a0 a1 = some r) : CallsB Try.prog 52 [.box [.i .i64 a1]] [.one (.sl a0.length (a0.flatMap eGNetLink)), .one (.fn 50 [] [.lp 0 0])] (fun y m' => y = .s (.one (.i .i64 r)) ∧ m' = [.box [.i .i64 a1]]) := by
  unfold m52_slices_IndexFuncs2 at h
  refine callsB_of Try.func52 rfl (nt := 19) rfl (Nat.le_of_ble_eq_true rfl) ?_
  intro w0 S0 X0 H0
  refine cseq ?_
  refine cregion ?_
  refine sv rfl (opv_as rfl) ?_
  refine snil ?_
  refine cseq ?_
  refine cseq ?_
  refine cregion ?_
  refine sv rfl (opv_mv rfl) ?_
  refine sv rfl (opv_len_sl si29 rfl) ?_
  refine sv rfl (opv_mv rfl) ?_
  refine snil ?_
  refine cjoin (Unit) (fun b1 => []) (fun b1 => [.box [.i .i64 a1]]) (fun b1 => m52_slices_IndexFuncs2_k1 b1 = some r) (fun _ _ => inbL_of rfl) (fun _ _ => blkinb_of rfl) (fun _ _ => Nat.le_of_ble_eq_true rfl) (fun b1 h => ?_) ?_
  · unfold m52_slices_IndexFuncs2_k1 at h
    refine cseq ?_
    refine cregion ?_
    refine sv rfl (opv_as rfl) ?_
    refine snil ?_
    refine cret ?_
    obtain rfl := Option.some.inj h
    exact ⟨Or.inr rfl, _, [0], [.one (.i .i64 (-1))], [.box [.i .i64 a1]], (resVs_cons (ResV.tmp _ _ rfl) resVs_nil), rfl, rfl, ⟨by decide, rfl⟩, rfl, rfl, ⟨rfl, rfl⟩⟩
  · skip
    refine cblock ?_
    obtain ⟨x2, hx2, ho2⟩ := bind_eq h
    refine awc_loop (G := Nat × (Int)) (fun g => [(0, .s (.one (.sl a0.length (a0.flatMap eGNetLink)))), (1, .s (.one (.fn 50 [] [.lp 0 0]))), (7, .s (.one (.i .i64 (a0.length : Int)))), (8, .s (.one (.i .i64 g.2)))]) (fun g => [.box [.i .i64 a1]]) (fun g => iter (m52_slices_IndexFuncs2_s2 a0 a1) g.1 g.2 = some x2) (fun g => g.1) (fuel, 0) hx2 ⟨rfl, rfl, rfl, rfl, trivial⟩ [] rfl (fun _ _ => inbL_of rfl) (fun _ _ => blkinb_of rfl) (fun _ _ => Nat.le_of_ble_eq_true rfl) ?_
    clear hx2 h
    rintro ⟨n2, s2⟩ h
    obtain ⟨n2, y2, rfl, h, hk2⟩ := iter_eq h
    unfold m52_slices_IndexFuncs2_s2 at h
    refine cseq ?_
    refine cregion ?_
    refine sv rfl (opv_lss rfl rfl) ?_
    refine snil ?_
    refine cseq ?_
    refine ccond rfl (fun hc => ?_) (fun hc => ?_)
    · replace h := ite_t hc h
      clear hc
      refine cskip ?_
      refine then_normal ?_
      refine cseq ?_
      refine cblock ?_
      refine cseq ?_
      refine cregion ?_
      refine sv rfl (opv_mv rfl) ?_
      refine sv rfl (opv_as rfl) ?_
      refine snil ?_
      refine cseq ?_
      refine cregion ?_
      refine sv rfl (opv_mv rfl) ?_
      refine sv rfl (opv_mv rfl) ?_
      refine sv rfl (opv_mv rfl) ?_
      obtain ⟨u3, hu3, h⟩ := bind_eq h
      refine sv rfl (opv_ix (f := eGNetLink) si29 (fun _ => rfl) rfl rfl rfl rfl hu3) ?_
      refine sv rfl (opv_loadNe (ys := [.i .i64 u3.ID, .i .i64 u3.Client, .i .i64 u3.Conn]) ti69 rfl (.cp _) rfl rfl) ?_
      obtain ⟨v4, hv4, h⟩ := bind_eq h
      refine scallB (x' := .s (.one (.b v4))) (M' := [.box [.i .i64 a1]]) [0] rfl fn50 (.fn _ _ _ _ rfl) (opnds_cons rfl opnds_nil) (m50_net_Of_1s_c hv4) rfl rfl (by decide) rfl rfl rfl ?_
      refine snil ?_
      refine ccond rfl (fun hc => ?_) (fun hc => ?_)
      · replace h := ite_t hc h
        clear hc
        refine cseq ?_
        refine cregion ?_
        refine sv rfl (opv_mv rfl) ?_
        refine sv rfl (opv_as rfl) ?_
        refine snil ?_
        refine cret ?_
        refine block_ret ?_
        refine then_ret ?_
        refine then_ret ?_
        refine block_ret ?_
        refine then_ret ?_
        obtain rfl := Option.some.inj h
        obtain rfl : Sum.inl _ = x2 := hk2
        replace ho2 : some _ = some _ := ho2
        obtain rfl := Option.some.inj ho2
        exact ⟨Or.inr rfl, _, [0], [.one (.i .i64 s2)], [.box [.i .i64 a1]], (resVs_cons (ResV.tmp _ _ rfl) resVs_nil), rfl, rfl, ⟨by decide, rfl⟩, rfl, rfl, ⟨rfl, rfl⟩⟩
      · replace h := ite_f hc h
        clear hc
        refine cskip ?_
        refine block_normal ?_
        refine then_normal ?_
        refine cregion ?_
        refine sv rfl (opv_add rfl rfl) ?_
        refine sv rfl (opv_mv rfl) ?_
        refine snil ?_
        obtain rfl := Option.some.inj h
        exact ⟨(n2, (wI (s2 + 1))), _, hk2, ⟨rfl, rfl, rfl, rfl, trivial⟩, rfl, Nat.lt_succ_self _⟩
    · replace h := ite_f hc h
      clear hc
      refine cexit ?_
      refine then_exit ?_
      refine then_exit ?_
      refine block_hit ?_
      refine then_normal ?_
      obtain rfl := Option.some.inj h
      obtain rfl : _ = x2 := hk2
      exact ⟨(), _, ho2, trivial, rfl⟩

def m35_net_finds2_k2 (a0 : GNetNet) (v1 : Int) (b2 : Unit) : Option (GNetLink × Bool) :=
  (idx a0.Links v1).bind fun u3 => some (u3, true)
def m35_net_finds2 (a0 : GNetNet) (a1 : Int) : Option (GNetLink × Bool) :=
  (m52_slices_IndexFuncs2 a0.Links a1).bind fun v1 => if (decide (v1 < 0)) then (some ((GNetLink.mk 0 0 0), false)) else ((m30_net_Sane (GNetNet.mk a0.Links a0.Packets a0.Next)).bind fun v4 => if (!v4) then (some ((GNetLink.mk 0 0 0), false)) else (m35_net_finds2_k2 a0 v1 ()))

set_option maxRecDepth 100000 in
theorem m35_net_finds2_c {a0 : GNetNet} {a1 : Int} {r : GNetLink × Bool} (h : m35_net_finds2 a0 a1 = some r) : CallsB Try.prog 35 [.box [.i .i64 a1]] [.agg a0, .one (.fn 50 [] [.lp 0 0])] (fun y m' => y = .tup [.agg r.1, .one (.b r.2)] ∧ m' = [.box [.i .i64 a1]]) := by
  unfold m35_net_finds2 at h
  refine callsB_of Try.func35 rfl (nt := 24) rfl (Nat.le_of_ble_eq_true rfl) ?_
  intro w0 S0 X0 H0
  refine cseq ?_
  refine cregion ?_
  refine sbox rfl rfl ?_
  refine salloc rfl zi69 ?_
  refine sv rfl (opv_as rfl) ?_
  refine snil ?_
  refine cseq ?_
  refine cregion ?_
  refine sv rfl (opv_fieldAddr_lp fi32_0 rfl) ?_
  refine sv rfl (opv_load1 ti29 rfl (.lp _ _ _ rfl) rfl) ?_
  refine sv rfl (opv_mv rfl) ?_
  obtain ⟨v1, hv1, h⟩ := bind_eq h
  refine scallB (x' := .s (.one (.i .i64 v1))) (M' := [.box [.i .i64 a1], .box a0, .box [.i .i64 0, .i .i64 0, .i .i64 0]]) [0] rfl fn52 (.func _) (opnds_cons rfl (opnds_cons rfl opnds_nil)) (m52_slices_IndexFuncs2_c hv1) rfl rfl (by decide) rfl rfl rfl ?_
  refine sv rfl (opv_as rfl) ?_
  refine snil ?_
  refine cseq ?_
  refine cseq ?_
  refine cjoin3 (Unit) (fun b2 => [(2, .s (.one (.lp 1 0))), (4, .s (.one (.lp 2 0))), (6, .s (.one (.i .i64 v1)))]) (fun b2 => [.box [.i .i64 a1], .box a0, .box [.i .i64 0, .i .i64 0, .i .i64 0]]) (fun b2 => m35_net_finds2_k2 a0 v1 b2 = some r) (fun _ _ => inbL_of rfl) (fun _ _ => blkinb_of rfl) (fun _ _ => Nat.le_of_ble_eq_true rfl) (fun b2 h => ?_) ?_
  · unfold m35_net_finds2_k2 at h
    refine cseq ?_
    refine cregion ?_
    refine sv rfl (opv_fieldAddr_lp fi32_0 rfl) ?_
    refine sv rfl (opv_load1 ti29 rfl (.lp _ _ _ rfl) rfl) ?_
    refine sv rfl (opv_mv rfl) ?_
    obtain ⟨u3, hu3, h⟩ := bind_eq h
    refine sv rfl (opv_ix (f := eGNetLink) si29 (fun _ => rfl) rfl rfl rfl rfl hu3) ?_
    refine sv rfl (opv_loadNe (ys := [.i .i64 u3.ID, .i .i64 u3.Client, .i .i64 u3.Conn]) ti69 rfl (.cp _) rfl rfl) ?_
    refine sstore sz69 rfl rfl rfl rfl (Nat.le_of_ble_eq_true rfl) ?_
    refine smem [.box [.i .i64 a1], .box a0, .box u3] rfl ?_
    refine sv rfl (opv_as rfl) ?_
    refine snil ?_
    refine cret ?_
    obtain rfl := Option.some.inj h
    exact ⟨Or.inr rfl, _, [0], [.agg u3, .one (.b true)], [.box [.i .i64 a1]], (resVs_cons (ResV.agg _ _ _ _ _ ti69 rfl (.lp _ _ _ rfl) (Nat.le_of_ble_eq_true rfl)) (resVs_cons (ResV.tmp _ _ rfl) resVs_nil)), rfl, rfl, ⟨by decide, rfl⟩, rfl, rfl, ⟨rfl, rfl⟩⟩
  · skip
    refine cregion ?_
    refine sv rfl (opv_mv rfl) ?_
    refine sv rfl (opv_lss rfl rfl) ?_
    refine sv rfl (opv_mv rfl) ?_
    refine ssplit 13 rfl (fun hc => ?_) (fun hc => ?_)
    · replace h := ite_t hc h
      clear hc
      refine soff rfl rfl rfl rfl ?_
      refine soff rfl rfl rfl rfl ?_
      refine soff rfl rfl rfl rfl ?_
      refine sv rfl (opv_pick_t rfl rfl) ?_
      refine snil ?_
      refine ccond rfl (fun _ => ?_) (fun hx => Bool.noConfusion hx)
      refine cseq ?_
      refine cregion ?_
      refine sv rfl (opv_build zi69 pi69 parts_nil (.nil _)) ?_
      refine sstore sz69 rfl rfl rfl rfl (Nat.le_of_ble_eq_true rfl) ?_
      refine smem [.box [.i .i64 a1], .box a0, .box [.i .i64 0, .i .i64 0, .i .i64 0]] rfl ?_
      refine sv rfl (opv_as rfl) ?_
      refine snil ?_
      refine cret ?_
      refine then_ret ?_
      obtain rfl := Option.some.inj h
      exact ⟨Or.inr rfl, _, [0], [.agg [.i .i64 0, .i .i64 0, .i .i64 0], .one (.b false)], [.box [.i .i64 a1]], (resVs_cons (ResV.agg _ _ _ _ _ ti69 rfl (.lp _ _ _ rfl) (Nat.le_of_ble_eq_true rfl)) (resVs_cons (ResV.tmp _ _ rfl) resVs_nil)), rfl, rfl, ⟨by decide, rfl⟩, rfl, rfl, ⟨rfl, rfl⟩⟩
    · replace h := ite_f hc h
      clear hc
      refine son rfl rfl rfl ?_
      refine sv rfl (opv_loadN ti32 rfl (.lp _ _ _ rfl) (Nat.le_of_ble_eq_true rfl)) ?_
      refine son rfl rfl rfl ?_
      obtain ⟨v4, hv4, h⟩ := bind_eq h
      refine scall1 rfl fn30 (opnds_cons rfl opnds_nil) (pubA_id rfl) (m30_net_Sane_c hv4) ?_
      refine son rfl rfl rfl ?_
      refine sv rfl (opv_not rfl) ?_
      refine sv rfl (opv_pick_f rfl rfl) ?_
      refine snil ?_
      refine ccond rfl (fun hc => ?_) (fun hc => ?_)
      · replace h := ite_t hc h
        clear hc
        refine cseq ?_
        refine cregion ?_
        refine sv rfl (opv_build zi69 pi69 parts_nil (.nil _)) ?_
        refine sstore sz69 rfl rfl rfl rfl (Nat.le_of_ble_eq_true rfl) ?_
        refine smem [.box [.i .i64 a1], .box a0, .box [.i .i64 0, .i .i64 0, .i .i64 0]] rfl ?_
        refine sv rfl (opv_as rfl) ?_
        refine snil ?_
        refine cret ?_
        refine then_ret ?_
        obtain rfl := Option.some.inj h
        exact ⟨Or.inr rfl, _, [0], [.agg [.i .i64 0, .i .i64 0, .i .i64 0], .one (.b false)], [.box [.i .i64 a1]], (resVs_cons (ResV.agg _ _ _ _ _ ti69 rfl (.lp _ _ _ rfl) (Nat.le_of_ble_eq_true rfl)) (resVs_cons (ResV.tmp _ _ rfl) resVs_nil)), rfl, rfl, ⟨by decide, rfl⟩, rfl, rfl, ⟨rfl, rfl⟩⟩
      · replace h := ite_f hc h
        clear hc
        refine cskip ?_
        refine then_normal ?_
        exact ⟨(), _, h, ⟨rfl, rfl, rfl, trivial⟩, rfl⟩

def m32_net_Of (a0 : GNetNet) (a1 : Int) : Option (GNetLink × Bool) :=
  (m35_net_finds2 a0 a1).bind fun v1 => some (v1.1, v1.2)

set_option maxRecDepth 100000 in
theorem m32_net_Of_c {a0 : GNetNet} {a1 : Int} {r : GNetLink × Bool} (h : m32_net_Of a0 a1 = some r) : CallsA Try.prog 32 [.agg a0, .one (.i .i64 a1)] (· = .tup [.agg r.1, .one (.b r.2)]) := by
  unfold m32_net_Of at h
  refine callsA_of Try.func32 rfl (nt := 11) rfl (Nat.le_of_ble_eq_true rfl) ?_
  intro w0 S0
  refine cseq ?_
  refine cregion ?_
  refine sbox rfl rfl ?_
  refine sbox rfl rfl ?_
  refine salloc rfl zi69 ?_
  refine sv rfl (opv_as rfl) ?_
  refine snil ?_
  refine cseq ?_
  refine cregion ?_
  refine sv rfl (opv_loadN ti32 rfl (.lp _ _ _ rfl) (Nat.le_of_ble_eq_true rfl)) ?_
  refine sv rfl (opv_makeFunc opnds1_nil (opnds1_cons rfl rfl opnds1_nil)) ?_
  obtain ⟨v1, hv1, h⟩ := bind_eq h
  refine scallB (x' := .tup [.agg v1.1, .one (.b v1.2)]) (M' := [.box a0, .box [.i .i64 a1], .box [.i .i64 0, .i .i64 0, .i .i64 0]]) [1] rfl fn35 (.func _) (opnds_cons rfl (opnds_cons rfl opnds_nil)) (m35_net_finds2_c hv1) rfl rfl (by decide) rfl rfl rfl ?_
  refine sv rfl (opv_extract rfl rfl) ?_
  refine sv rfl (opv_extract rfl rfl) ?_
  refine sstore sz69 rfl rfl rfl rfl (Nat.le_of_ble_eq_true rfl) ?_
  refine smem [.box a0, .box [.i .i64 a1], .box v1.1] rfl ?_
  refine sv rfl (opv_as rfl) ?_
  refine snil ?_
  refine cret ?_
  obtain rfl := Option.some.inj h
  refine ⟨Or.inr rfl, _, _, _, (resVs_cons (ResV.agg _ _ _ _ _ ti69 rfl (.lp _ _ _ rfl) (Nat.le_of_ble_eq_true rfl)) (resVs_cons (ResV.tmp _ _ rfl) resVs_nil)), (pubA_id rfl), ?_⟩
  rfl

def m51_net_At_1s (a0 : GNetLink) (a1 : Int) : Option Bool :=
  some (decide (a0.Conn = a1))

set_option maxRecDepth 100000 in
theorem m51_net_At_1s_c {a0 : GNetLink} {a1 : Int} {r : Bool} (h : m51_net_At_1s a0 a1 = some r) : CallsB Try.prog 51 [.box [.i .i64 a1]] [.agg a0, .one (.lp 0 0)] (fun y m' => y = .s (.one (.b r)) ∧ m' = [.box [.i .i64 a1]]) := by
  unfold m51_net_At_1s at h
  refine callsB_of Try.func51 rfl (nt := 8) rfl (Nat.le_of_ble_eq_true rfl) ?_
  intro w0 S0 X0 H0
  refine cseq ?_
  refine cregion ?_
  refine sbox rfl rfl ?_
  refine sv rfl (opv_as rfl) ?_
  refine snil ?_
  refine cseq ?_
  refine cregion ?_
  refine sv rfl (opv_fieldAddr_lp fi69_2 rfl) ?_
  refine sv rfl (opv_load1 ti3 rfl (.lp _ _ _ rfl) rfl) ?_
  refine sv rfl (opv_load1 ti3 rfl (.lp _ _ _ rfl) rfl) ?_
  refine sv rfl (opv_ieql rfl rfl) ?_
  refine sv rfl (opv_as rfl) ?_
  refine snil ?_
  refine cret ?_
  obtain rfl := Option.some.inj h
  exact ⟨Or.inr rfl, _, [0], [.one (.b (decide (a0.Conn = a1)))], [.box [.i .i64 a1]], (resVs_cons (ResV.tmp _ _ rfl) resVs_nil), rfl, rfl, ⟨by decide, rfl⟩, rfl, rfl, ⟨rfl, rfl⟩⟩

def m52_slices_IndexFuncs3_k1 (b1 : Unit) : Option Int :=
  some (-1)

def m52_slices_IndexFuncs3_s2 (a0 : List GNetLink) (a1 : Int) (s2 : Int) : Option (LR (Int) (Unit) (Int)) :=
  if (decide (s2 < (a0.length : Int))) then ((idx a0 s2).bind fun u3 => (m51_net_At_1s u3 a1).bind fun v4 => if v4 then (some (.ret s2)) else (some (.cont (wI (s2 + 1))))) else (some (.brk ()))
def m52_slices_IndexFuncs3 (a0 : List GNetLink) (a1 : Int) : Option Int :=
  (iter (m52_slices_IndexFuncs3_s2 a0 a1) fuel 0).bind fun x => match x with | .inl r => some r | .inr e5 => m52_slices_IndexFuncs3_k1 e5

set_option maxRecDepth 100000 in
theorem m52_slices_IndexFuncs3_c {a0 : List GNetLink} {a1 : Int} {r : Int} (h : m52_slices_IndexFuncs3 a0 a1 = some r) : CallsB Try.prog 52 [.box [.i .i64 a1]] [.one (.sl a0.length (a0.flatMap eGNetLink)), .one (.fn 51 [] [.lp 0 0])] (fun y m' => y = .s (.one (.i .i64 r)) ∧ m' = [.box [.i .i64 a1]]) := by
  unfold m52_slices_IndexFuncs3 at h
  refine callsB_of Try.func52 rfl (nt := 19) rfl (Nat.le_of_ble_eq_true rfl) ?_
  intro w0 S0 X0 H0
  refine cseq ?_
  refine cregion ?_
  refine sv rfl (opv_as rfl) ?_
  refine snil ?_
  refine cseq ?_
  refine cseq ?_
  refine cregion ?_
  refine sv rfl (opv_mv rfl) ?_
  refine sv rfl (opv_len_sl si29 rfl) ?_
  refine sv rfl (opv_mv rfl) ?_
  refine snil ?_
  refine cjoin (Unit) (fun b1 => []) (fun b1 => [.box [.i .i64 a1]]) (fun b1 => m52_slices_IndexFuncs3_k1 b1 = some r) (fun _ _ => inbL_of rfl) (fun _ _ => blkinb_of rfl) (fun _ _ => Nat.le_of_ble_eq_true rfl) (fun b1 h => ?_) ?_
  · unfold m52_slices_IndexFuncs3_k1 at h
    refine cseq ?_
    refine cregion ?_
    refine sv rfl (opv_as rfl) ?_
    refine snil ?_
    refine cret ?_
    obtain rfl := Option.some.inj h
    exact ⟨Or.inr rfl, _, [0], [.one (.i .i64 (-1))], [.box [.i .i64 a1]], (resVs_cons (ResV.tmp _ _ rfl) resVs_nil), rfl, rfl, ⟨by decide, rfl⟩, rfl, rfl, ⟨rfl, rfl⟩⟩
  · skip
    refine cblock ?_
    obtain ⟨x2, hx2, ho2⟩ := bind_eq h
    refine awc_loop (G := Nat × (Int)) (fun g => [(0, .s (.one (.sl a0.length (a0.flatMap eGNetLink)))), (1, .s (.one (.fn 51 [] [.lp 0 0]))), (7, .s (.one (.i .i64 (a0.length : Int)))), (8, .s (.one (.i .i64 g.2)))]) (fun g => [.box [.i .i64 a1]]) (fun g => iter (m52_slices_IndexFuncs3_s2 a0 a1) g.1 g.2 = some x2) (fun g => g.1) (fuel, 0) hx2 ⟨rfl, rfl, rfl, rfl, trivial⟩ [] rfl (fun _ _ => inbL_of rfl) (fun _ _ => blkinb_of rfl) (fun _ _ => Nat.le_of_ble_eq_true rfl) ?_
    clear hx2 h
    rintro ⟨n2, s2⟩ h
    obtain ⟨n2, y2, rfl, h, hk2⟩ := iter_eq h
    unfold m52_slices_IndexFuncs3_s2 at h
    refine cseq ?_
    refine cregion ?_
    refine sv rfl (opv_lss rfl rfl) ?_
    refine snil ?_
    refine cseq ?_
    refine ccond rfl (fun hc => ?_) (fun hc => ?_)
    · replace h := ite_t hc h
      clear hc
      refine cskip ?_
      refine then_normal ?_
      refine cseq ?_
      refine cblock ?_
      refine cseq ?_
      refine cregion ?_
      refine sv rfl (opv_mv rfl) ?_
      refine sv rfl (opv_as rfl) ?_
      refine snil ?_
      refine cseq ?_
      refine cregion ?_
      refine sv rfl (opv_mv rfl) ?_
      refine sv rfl (opv_mv rfl) ?_
      refine sv rfl (opv_mv rfl) ?_
      obtain ⟨u3, hu3, h⟩ := bind_eq h
      refine sv rfl (opv_ix (f := eGNetLink) si29 (fun _ => rfl) rfl rfl rfl rfl hu3) ?_
      refine sv rfl (opv_loadNe (ys := [.i .i64 u3.ID, .i .i64 u3.Client, .i .i64 u3.Conn]) ti69 rfl (.cp _) rfl rfl) ?_
      obtain ⟨v4, hv4, h⟩ := bind_eq h
      refine scallB (x' := .s (.one (.b v4))) (M' := [.box [.i .i64 a1]]) [0] rfl fn51 (.fn _ _ _ _ rfl) (opnds_cons rfl opnds_nil) (m51_net_At_1s_c hv4) rfl rfl (by decide) rfl rfl rfl ?_
      refine snil ?_
      refine ccond rfl (fun hc => ?_) (fun hc => ?_)
      · replace h := ite_t hc h
        clear hc
        refine cseq ?_
        refine cregion ?_
        refine sv rfl (opv_mv rfl) ?_
        refine sv rfl (opv_as rfl) ?_
        refine snil ?_
        refine cret ?_
        refine block_ret ?_
        refine then_ret ?_
        refine then_ret ?_
        refine block_ret ?_
        refine then_ret ?_
        obtain rfl := Option.some.inj h
        obtain rfl : Sum.inl _ = x2 := hk2
        replace ho2 : some _ = some _ := ho2
        obtain rfl := Option.some.inj ho2
        exact ⟨Or.inr rfl, _, [0], [.one (.i .i64 s2)], [.box [.i .i64 a1]], (resVs_cons (ResV.tmp _ _ rfl) resVs_nil), rfl, rfl, ⟨by decide, rfl⟩, rfl, rfl, ⟨rfl, rfl⟩⟩
      · replace h := ite_f hc h
        clear hc
        refine cskip ?_
        refine block_normal ?_
        refine then_normal ?_
        refine cregion ?_
        refine sv rfl (opv_add rfl rfl) ?_
        refine sv rfl (opv_mv rfl) ?_
        refine snil ?_
        obtain rfl := Option.some.inj h
        exact ⟨(n2, (wI (s2 + 1))), _, hk2, ⟨rfl, rfl, rfl, rfl, trivial⟩, rfl, Nat.lt_succ_self _⟩
    · replace h := ite_f hc h
      clear hc
      refine cexit ?_
      refine then_exit ?_
      refine then_exit ?_
      refine block_hit ?_
      refine then_normal ?_
      obtain rfl := Option.some.inj h
      obtain rfl : _ = x2 := hk2
      exact ⟨(), _, ho2, trivial, rfl⟩

def m35_net_finds3_k2 (a0 : GNetNet) (v1 : Int) (b2 : Unit) : Option (GNetLink × Bool) :=
  (idx a0.Links v1).bind fun u3 => some (u3, true)
def m35_net_finds3 (a0 : GNetNet) (a1 : Int) : Option (GNetLink × Bool) :=
  (m52_slices_IndexFuncs3 a0.Links a1).bind fun v1 => if (decide (v1 < 0)) then (some ((GNetLink.mk 0 0 0), false)) else ((m30_net_Sane (GNetNet.mk a0.Links a0.Packets a0.Next)).bind fun v4 => if (!v4) then (some ((GNetLink.mk 0 0 0), false)) else (m35_net_finds3_k2 a0 v1 ()))

set_option maxRecDepth 100000 in
theorem m35_net_finds3_c {a0 : GNetNet} {a1 : Int} {r : GNetLink × Bool} (h : m35_net_finds3 a0 a1 = some r) : CallsB Try.prog 35 [.box [.i .i64 a1]] [.agg a0, .one (.fn 51 [] [.lp 0 0])] (fun y m' => y = .tup [.agg r.1, .one (.b r.2)] ∧ m' = [.box [.i .i64 a1]]) := by
  unfold m35_net_finds3 at h
  refine callsB_of Try.func35 rfl (nt := 24) rfl (Nat.le_of_ble_eq_true rfl) ?_
  intro w0 S0 X0 H0
  refine cseq ?_
  refine cregion ?_
  refine sbox rfl rfl ?_
  refine salloc rfl zi69 ?_
  refine sv rfl (opv_as rfl) ?_
  refine snil ?_
  refine cseq ?_
  refine cregion ?_
  refine sv rfl (opv_fieldAddr_lp fi32_0 rfl) ?_
  refine sv rfl (opv_load1 ti29 rfl (.lp _ _ _ rfl) rfl) ?_
  refine sv rfl (opv_mv rfl) ?_
  obtain ⟨v1, hv1, h⟩ := bind_eq h
  refine scallB (x' := .s (.one (.i .i64 v1))) (M' := [.box [.i .i64 a1], .box a0, .box [.i .i64 0, .i .i64 0, .i .i64 0]]) [0] rfl fn52 (.func _) (opnds_cons rfl (opnds_cons rfl opnds_nil)) (m52_slices_IndexFuncs3_c hv1) rfl rfl (by decide) rfl rfl rfl ?_
  refine sv rfl (opv_as rfl) ?_
  refine snil ?_
  refine cseq ?_
  refine cseq ?_
  refine cjoin3 (Unit) (fun b2 => [(2, .s (.one (.lp 1 0))), (4, .s (.one (.lp 2 0))), (6, .s (.one (.i .i64 v1)))]) (fun b2 => [.box [.i .i64 a1], .box a0, .box [.i .i64 0, .i .i64 0, .i .i64 0]]) (fun b2 => m35_net_finds3_k2 a0 v1 b2 = some r) (fun _ _ => inbL_of rfl) (fun _ _ => blkinb_of rfl) (fun _ _ => Nat.le_of_ble_eq_true rfl) (fun b2 h => ?_) ?_
  · unfold m35_net_finds3_k2 at h
    refine cseq ?_
    refine cregion ?_
    refine sv rfl (opv_fieldAddr_lp fi32_0 rfl) ?_
    refine sv rfl (opv_load1 ti29 rfl (.lp _ _ _ rfl) rfl) ?_
    refine sv rfl (opv_mv rfl) ?_
    obtain ⟨u3, hu3, h⟩ := bind_eq h
    refine sv rfl (opv_ix (f := eGNetLink) si29 (fun _ => rfl) rfl rfl rfl rfl hu3) ?_
    refine sv rfl (opv_loadNe (ys := [.i .i64 u3.ID, .i .i64 u3.Client, .i .i64 u3.Conn]) ti69 rfl (.cp _) rfl rfl) ?_
    refine sstore sz69 rfl rfl rfl rfl (Nat.le_of_ble_eq_true rfl) ?_
    refine smem [.box [.i .i64 a1], .box a0, .box u3] rfl ?_
    refine sv rfl (opv_as rfl) ?_
    refine snil ?_
    refine cret ?_
    obtain rfl := Option.some.inj h
    exact ⟨Or.inr rfl, _, [0], [.agg u3, .one (.b true)], [.box [.i .i64 a1]], (resVs_cons (ResV.agg _ _ _ _ _ ti69 rfl (.lp _ _ _ rfl) (Nat.le_of_ble_eq_true rfl)) (resVs_cons (ResV.tmp _ _ rfl) resVs_nil)), rfl, rfl, ⟨by decide, rfl⟩, rfl, rfl, ⟨rfl, rfl⟩⟩
  · skip
    refine cregion ?_
    refine sv rfl (opv_mv rfl) ?_
    refine sv rfl (opv_lss rfl rfl) ?_
    refine sv rfl (opv_mv rfl) ?_
    refine ssplit 13 rfl (fun hc => ?_) (fun hc => ?_)
    · replace h := ite_t hc h
      clear hc
      refine soff rfl rfl rfl rfl ?_
      refine soff rfl rfl rfl rfl ?_
      refine soff rfl rfl rfl rfl ?_
      refine sv rfl (opv_pick_t rfl rfl) ?_
      refine snil ?_
      refine ccond rfl (fun _ => ?_) (fun hx => Bool.noConfusion hx)
      refine cseq ?_
      refine cregion ?_
      refine sv rfl (opv_build zi69 pi69 parts_nil (.nil _)) ?_
      refine sstore sz69 rfl rfl rfl rfl (Nat.le_of_ble_eq_true rfl) ?_
      refine smem [.box [.i .i64 a1], .box a0, .box [.i .i64 0, .i .i64 0, .i .i64 0]] rfl ?_
      refine sv rfl (opv_as rfl) ?_
      refine snil ?_
      refine cret ?_
      refine then_ret ?_
      obtain rfl := Option.some.inj h
      exact ⟨Or.inr rfl, _, [0], [.agg [.i .i64 0, .i .i64 0, .i .i64 0], .one (.b false)], [.box [.i .i64 a1]], (resVs_cons (ResV.agg _ _ _ _ _ ti69 rfl (.lp _ _ _ rfl) (Nat.le_of_ble_eq_true rfl)) (resVs_cons (ResV.tmp _ _ rfl) resVs_nil)), rfl, rfl, ⟨by decide, rfl⟩, rfl, rfl, ⟨rfl, rfl⟩⟩
    · replace h := ite_f hc h
      clear hc
      refine son rfl rfl rfl ?_
      refine sv rfl (opv_loadN ti32 rfl (.lp _ _ _ rfl) (Nat.le_of_ble_eq_true rfl)) ?_
      refine son rfl rfl rfl ?_
      obtain ⟨v4, hv4, h⟩ := bind_eq h
      refine scall1 rfl fn30 (opnds_cons rfl opnds_nil) (pubA_id rfl) (m30_net_Sane_c hv4) ?_
      refine son rfl rfl rfl ?_
      refine sv rfl (opv_not rfl) ?_
      refine sv rfl (opv_pick_f rfl rfl) ?_
      refine snil ?_
      refine ccond rfl (fun hc => ?_) (fun hc => ?_)
      · replace h := ite_t hc h
        clear hc
        refine cseq ?_
        refine cregion ?_
        refine sv rfl (opv_build zi69 pi69 parts_nil (.nil _)) ?_
        refine sstore sz69 rfl rfl rfl rfl (Nat.le_of_ble_eq_true rfl) ?_
        refine smem [.box [.i .i64 a1], .box a0, .box [.i .i64 0, .i .i64 0, .i .i64 0]] rfl ?_
        refine sv rfl (opv_as rfl) ?_
        refine snil ?_
        refine cret ?_
        refine then_ret ?_
        obtain rfl := Option.some.inj h
        exact ⟨Or.inr rfl, _, [0], [.agg [.i .i64 0, .i .i64 0, .i .i64 0], .one (.b false)], [.box [.i .i64 a1]], (resVs_cons (ResV.agg _ _ _ _ _ ti69 rfl (.lp _ _ _ rfl) (Nat.le_of_ble_eq_true rfl)) (resVs_cons (ResV.tmp _ _ rfl) resVs_nil)), rfl, rfl, ⟨by decide, rfl⟩, rfl, rfl, ⟨rfl, rfl⟩⟩
      · replace h := ite_f hc h
        clear hc
        refine cskip ?_
        refine then_normal ?_
        exact ⟨(), _, h, ⟨rfl, rfl, rfl, trivial⟩, rfl⟩

def m33_net_At (a0 : GNetNet) (a1 : Int) : Option (GNetLink × Bool) :=
  (m35_net_finds3 a0 a1).bind fun v1 => some (v1.1, v1.2)

set_option maxRecDepth 100000 in
theorem m33_net_At_c {a0 : GNetNet} {a1 : Int} {r : GNetLink × Bool} (h : m33_net_At a0 a1 = some r) : CallsA Try.prog 33 [.agg a0, .one (.i .i64 a1)] (· = .tup [.agg r.1, .one (.b r.2)]) := by
  unfold m33_net_At at h
  refine callsA_of Try.func33 rfl (nt := 11) rfl (Nat.le_of_ble_eq_true rfl) ?_
  intro w0 S0
  refine cseq ?_
  refine cregion ?_
  refine sbox rfl rfl ?_
  refine sbox rfl rfl ?_
  refine salloc rfl zi69 ?_
  refine sv rfl (opv_as rfl) ?_
  refine snil ?_
  refine cseq ?_
  refine cregion ?_
  refine sv rfl (opv_loadN ti32 rfl (.lp _ _ _ rfl) (Nat.le_of_ble_eq_true rfl)) ?_
  refine sv rfl (opv_makeFunc opnds1_nil (opnds1_cons rfl rfl opnds1_nil)) ?_
  obtain ⟨v1, hv1, h⟩ := bind_eq h
  refine scallB (x' := .tup [.agg v1.1, .one (.b v1.2)]) (M' := [.box a0, .box [.i .i64 a1], .box [.i .i64 0, .i .i64 0, .i .i64 0]]) [1] rfl fn35 (.func _) (opnds_cons rfl (opnds_cons rfl opnds_nil)) (m35_net_finds3_c hv1) rfl rfl (by decide) rfl rfl rfl ?_
  refine sv rfl (opv_extract rfl rfl) ?_
  refine sv rfl (opv_extract rfl rfl) ?_
  refine sstore sz69 rfl rfl rfl rfl (Nat.le_of_ble_eq_true rfl) ?_
  refine smem [.box a0, .box [.i .i64 a1], .box v1.1] rfl ?_
  refine sv rfl (opv_as rfl) ?_
  refine snil ?_
  refine cret ?_
  obtain rfl := Option.some.inj h
  refine ⟨Or.inr rfl, _, _, _, (resVs_cons (ResV.agg _ _ _ _ _ ti69 rfl (.lp _ _ _ rfl) (Nat.le_of_ble_eq_true rfl)) (resVs_cons (ResV.tmp _ _ rfl) resVs_nil)), (pubA_id rfl), ?_⟩
  rfl

def m23_l22_finds (a0 : GNetNet) (a1 : GR22Net) (a2 : Int) (a3 : Int) : Option Bool :=
  (m32_net_Of (GNetNet.mk a0.Links a0.Packets a0.Next) a2).bind fun v1 => (m38_r22_Of (GR22Net.mk a1.Links a1.Packets a1.Next) a2).bind fun v2 => (m33_net_At (GNetNet.mk a0.Links a0.Packets a0.Next) a3).bind fun v3 => (m39_r22_At (GR22Net.mk a1.Links a1.Packets a1.Next) a3).bind fun v4 => (m44_l22_link v1.1).bind fun v5 => if ((decide (v5.ID = v2.1.ID)) && ((decide (v5.Client = v2.1.Client)) && ((decide (v5.Conn = v2.1.Conn)) && true))) then (if (v1.2 == v2.2) then ((m44_l22_link v3.1).bind fun v6 => if ((decide (v6.ID = v4.1.ID)) && ((decide (v6.Client = v4.1.Client)) && ((decide (v6.Conn = v4.1.Conn)) && true))) then (some (v3.2 == v4.2)) else (some false)) else (some false)) else (some false)

set_option maxRecDepth 100000 in
theorem m23_l22_finds_c {a0 : GNetNet} {a1 : GR22Net} {a2 : Int} {a3 : Int} {r : Bool} (h : m23_l22_finds a0 a1 a2 a3 = some r) : CallsA Try.prog 23 [.agg a0, .agg a1, .one (.i .i64 a2), .one (.i .i64 a3)] (· = .s (.one (.b r))) := by
  unfold m23_l22_finds at h
  refine callsA_of Try.func23 rfl (nt := 61) rfl (Nat.le_of_ble_eq_true rfl) ?_
  intro w0 S0
  refine cseq ?_
  refine cregion ?_
  refine sbox rfl rfl ?_
  refine sbox rfl rfl ?_
  refine sv rfl (opv_as rfl) ?_
  refine snil ?_
  refine cseq ?_
  refine cregion ?_
  refine sv rfl (opv_loadN ti32 rfl (.lp _ _ _ rfl) (Nat.le_of_ble_eq_true rfl)) ?_
  refine sv rfl (opv_mv rfl) ?_
  obtain ⟨v1, hv1, h⟩ := bind_eq h
  refine scall1 rfl fn32 (opnds_cons rfl (opnds_cons rfl opnds_nil)) (pubA_id rfl) (m32_net_Of_c hv1) ?_
  refine sv rfl (opv_mvt rfl) ?_
  refine sv rfl (opv_extract rfl rfl) ?_
  refine sv rfl (opv_extract rfl rfl) ?_
  refine salloc rfl zi69 ?_
  refine sstore sz69 rfl rfl rfl rfl (Nat.le_of_ble_eq_true rfl) ?_
  refine smem [.box a0, .box a1, .box v1.1] rfl ?_
  refine sv rfl (opv_as rfl) ?_
  refine snil ?_
  refine cseq ?_
  refine cregion ?_
  refine sv rfl (opv_loadN ti25 rfl (.lp _ _ _ rfl) (Nat.le_of_ble_eq_true rfl)) ?_
  refine sv rfl (opv_mv rfl) ?_
  obtain ⟨v2, hv2, h⟩ := bind_eq h
  refine scall1 rfl fn38 (opnds_cons rfl (opnds_cons rfl opnds_nil)) (pubA_id rfl) (m38_r22_Of_c hv2) ?_
  refine sv rfl (opv_mvt rfl) ?_
  refine sv rfl (opv_extract rfl rfl) ?_
  refine sv rfl (opv_extract rfl rfl) ?_
  refine salloc rfl zi75 ?_
  refine sstore sz75 rfl rfl rfl rfl (Nat.le_of_ble_eq_true rfl) ?_
  refine smem [.box a0, .box a1, .box v1.1, .box v2.1] rfl ?_
  refine sv rfl (opv_as rfl) ?_
  refine snil ?_
  refine cseq ?_
  refine cregion ?_
  refine sv rfl (opv_loadN ti32 rfl (.lp _ _ _ rfl) (Nat.le_of_ble_eq_true rfl)) ?_
  refine sv rfl (opv_mv rfl) ?_
  obtain ⟨v3, hv3, h⟩ := bind_eq h
  refine scall1 rfl fn33 (opnds_cons rfl (opnds_cons rfl opnds_nil)) (pubA_id rfl) (m33_net_At_c hv3) ?_
  refine sv rfl (opv_mvt rfl) ?_
  refine sv rfl (opv_extract rfl rfl) ?_
  refine sv rfl (opv_extract rfl rfl) ?_
  refine salloc rfl zi69 ?_
  refine sstore sz69 rfl rfl rfl rfl (Nat.le_of_ble_eq_true rfl) ?_
  refine smem [.box a0, .box a1, .box v1.1, .box v2.1, .box v3.1] rfl ?_
  refine sv rfl (opv_as rfl) ?_
  refine snil ?_
  refine cseq ?_
  refine cregion ?_
  refine sv rfl (opv_loadN ti25 rfl (.lp _ _ _ rfl) (Nat.le_of_ble_eq_true rfl)) ?_
  refine sv rfl (opv_mv rfl) ?_
  obtain ⟨v4, hv4, h⟩ := bind_eq h
  refine scall1 rfl fn39 (opnds_cons rfl (opnds_cons rfl opnds_nil)) (pubA_id rfl) (m39_r22_At_c hv4) ?_
  refine sv rfl (opv_mvt rfl) ?_
  refine sv rfl (opv_extract rfl rfl) ?_
  refine sv rfl (opv_extract rfl rfl) ?_
  refine salloc rfl zi75 ?_
  refine sstore sz75 rfl rfl rfl rfl (Nat.le_of_ble_eq_true rfl) ?_
  refine smem [.box a0, .box a1, .box v1.1, .box v2.1, .box v3.1, .box v4.1] rfl ?_
  refine sv rfl (opv_as rfl) ?_
  refine snil ?_
  refine cseq ?_
  refine cdraw mixed (by kernel_rfl) ?_
  refine dv rfl (opv_loadN ti69 rfl (.lp _ _ _ rfl) (Nat.le_of_ble_eq_true rfl)) ?_
  obtain ⟨v5, hv5, h⟩ := bind_eq h
  refine dd rfl (opD_call fn44 (opnds_cons rfl opnds_nil) rfl (m44_l22_link_c hv5)) ?_
  refine dv rfl (opv_loadN ti75 rfl (.lp _ _ _ rfl) (Nat.le_of_ble_eq_true rfl)) ?_
  refine dv rfl (opv_steql et75 rfl rfl rfl rfl rfl) ?_
  refine dv rfl (opv_mv rfl) ?_
  refine dsplit 45 rfl (fun hc => ?_) (fun hc => ?_)
  · replace h := ite_t hc h
    clear hc
    refine dvg rfl rfl rfl (opv_mv rfl) ?_
    refine dvg rfl rfl rfl (opv_mv rfl) ?_
    refine dvg rfl rfl rfl (opv_beql Try.underlying4 rfl rfl) ?_
    refine dv rfl (opv_pick_t rfl rfl) ?_
    refine dv rfl (opv_mv rfl) ?_
    refine dsplit 50 rfl (fun hc => ?_) (fun hc => ?_)
    · replace h := ite_t hc h
      clear hc
      refine dvg rfl rfl rfl (opv_loadN ti69 rfl (.lp _ _ _ rfl) (Nat.le_of_ble_eq_true rfl)) ?_
      obtain ⟨v6, hv6, h⟩ := bind_eq h
      refine ddg rfl rfl rfl (opD_call fn44 (opnds_cons rfl opnds_nil) rfl (m44_l22_link_c hv6)) ?_
      refine dvg rfl rfl rfl (opv_loadN ti75 rfl (.lp _ _ _ rfl) (Nat.le_of_ble_eq_true rfl)) ?_
      refine dvg rfl rfl rfl (opv_steql et75 rfl rfl rfl rfl rfl) ?_
      refine dv rfl (opv_pick_t rfl rfl) ?_
      refine dv rfl (opv_mv rfl) ?_
      refine dsplit 56 rfl (fun hc => ?_) (fun hc => ?_)
      · replace h := ite_t hc h
        clear hc
        refine dvg rfl rfl rfl (opv_mv rfl) ?_
        refine dvg rfl rfl rfl (opv_mv rfl) ?_
        refine dvg rfl rfl rfl (opv_beql Try.underlying4 rfl rfl) ?_
        refine dv rfl (opv_pick_t rfl rfl) ?_
        refine dv rfl (opv_as rfl) ?_
        refine dnil ?_
        refine then_normal ?_
        refine cret ?_
        obtain rfl := Option.some.inj h
        refine ⟨Or.inr rfl, _, _, _, (resVs_cons (ResV.tmp _ _ rfl) resVs_nil), (pubA_id rfl), ?_⟩
        rfl
      · replace h := ite_f hc h
        clear hc
        refine doff rfl rfl rfl rfl ?_
        refine doff rfl rfl rfl rfl ?_
        refine doff rfl rfl rfl rfl ?_
        refine dv rfl (opv_pick_f rfl rfl) ?_
        refine dv rfl (opv_as rfl) ?_
        refine dnil ?_
        refine then_normal ?_
        refine cret ?_
        obtain rfl := Option.some.inj h
        refine ⟨Or.inr rfl, _, _, _, (resVs_cons (ResV.tmp _ _ rfl) resVs_nil), (pubA_id rfl), ?_⟩
        rfl
    · replace h := ite_f hc h
      clear hc
      refine doff rfl rfl rfl rfl ?_
      refine doff rfl rfl rfl rfl ?_
      refine doff rfl rfl rfl rfl ?_
      refine doff rfl rfl rfl rfl ?_
      refine dv rfl (opv_pick_f rfl rfl) ?_
      refine dv rfl (opv_mv rfl) ?_
      refine doff rfl rfl rfl rfl ?_
      refine doff rfl rfl rfl rfl ?_
      refine doff rfl rfl rfl rfl ?_
      refine dv rfl (opv_pick_f rfl rfl) ?_
      refine dv rfl (opv_as rfl) ?_
      refine dnil ?_
      refine then_normal ?_
      refine cret ?_
      obtain rfl := Option.some.inj h
      refine ⟨Or.inr rfl, _, _, _, (resVs_cons (ResV.tmp _ _ rfl) resVs_nil), (pubA_id rfl), ?_⟩
      rfl
  · replace h := ite_f hc h
    clear hc
    refine doff rfl rfl rfl rfl ?_
    refine doff rfl rfl rfl rfl ?_
    refine doff rfl rfl rfl rfl ?_
    refine dv rfl (opv_pick_f rfl rfl) ?_
    refine dv rfl (opv_mv rfl) ?_
    refine doff rfl rfl rfl rfl ?_
    refine doff rfl rfl rfl rfl ?_
    refine doff rfl rfl rfl rfl ?_
    refine doff rfl rfl rfl rfl ?_
    refine dv rfl (opv_pick_f rfl rfl) ?_
    refine dv rfl (opv_mv rfl) ?_
    refine doff rfl rfl rfl rfl ?_
    refine doff rfl rfl rfl rfl ?_
    refine doff rfl rfl rfl rfl ?_
    refine dv rfl (opv_pick_f rfl rfl) ?_
    refine dv rfl (opv_as rfl) ?_
    refine dnil ?_
    refine then_normal ?_
    refine cret ?_
    obtain rfl := Option.some.inj h
    refine ⟨Or.inr rfl, _, _, _, (resVs_cons (ResV.tmp _ _ rfl) resVs_nil), (pubA_id rfl), ?_⟩
    rfl

def m25_r22_Drop (a0 : GR22Net) (a1 : Int) : Option GR22Net :=
  (m18_r22_Take a0 a1).bind fun v1 => some v1.1

set_option maxRecDepth 100000 in
theorem m25_r22_Drop_c {a0 : GR22Net} {a1 : Int} {r : GR22Net} (h : m25_r22_Drop a0 a1 = some r) : CallsA Try.prog 25 [.agg a0, .one (.i .i64 a1)] (· = .s (.agg r)) := by
  unfold m25_r22_Drop at h
  refine callsA_of Try.func25 rfl (nt := 16) rfl (Nat.le_of_ble_eq_true rfl) ?_
  intro w0 S0
  refine cseq ?_
  refine cregion ?_
  refine sbox rfl rfl ?_
  refine salloc rfl zi25 ?_
  refine snil ?_
  refine cseq ?_
  refine cregion ?_
  refine sv rfl (opv_loadN ti25 rfl (.lp _ _ _ rfl) (Nat.le_of_ble_eq_true rfl)) ?_
  refine sv rfl (opv_mv rfl) ?_
  obtain ⟨v1, hv1, h⟩ := bind_eq h
  refine scall1 rfl fn18 (opnds_cons rfl (opnds_cons rfl opnds_nil)) (pubA_id rfl) (m18_r22_Take_c hv1) ?_
  refine sv rfl (opv_mvt rfl) ?_
  refine sv rfl (opv_extract rfl rfl) ?_
  refine sv rfl (opv_extract rfl rfl) ?_
  refine sv rfl (opv_extract rfl rfl) ?_
  refine salloc rfl zi25 ?_
  refine salloc rfl zi49 ?_
  refine sstore sz25 rfl rfl rfl rfl (Nat.le_of_ble_eq_true rfl) ?_
  refine smem [.box a0, .box [.raw (.slice none 0 0), .raw (.slice none 0 0), .i .i64 0], .box v1.1, .box [.i .i64 0, .b false, .raw (.slice none 0 0)]] rfl ?_
  refine sstore sz49 rfl rfl rfl rfl (Nat.le_of_ble_eq_true rfl) ?_
  refine smem [.box a0, .box [.raw (.slice none 0 0), .raw (.slice none 0 0), .i .i64 0], .box v1.1, .box v1.2.1] rfl ?_
  refine sv rfl (opv_as rfl) ?_
  refine snil ?_
  refine cseq ?_
  refine cregion ?_
  refine sv rfl (opv_loadN ti25 rfl (.lp _ _ _ rfl) (Nat.le_of_ble_eq_true rfl)) ?_
  refine sstore sz25 rfl rfl rfl rfl (Nat.le_of_ble_eq_true rfl) ?_
  refine smem [.box a0, .box v1.1, .box v1.1, .box v1.2.1] rfl ?_
  refine snil ?_
  refine cret ?_
  obtain rfl := Option.some.inj h
  refine ⟨Or.inr rfl, _, _, _, (resVs_cons (ResV.agg _ _ _ _ _ ti25 rfl (.lp _ _ _ rfl) (Nat.le_of_ble_eq_true rfl)) resVs_nil), (pubA_id rfl), ?_⟩
  rfl

def m26_net_Cut_k2 (a0 : GNetNet) (b2 : (List GNetLink)) : Option GNetNet :=
  some (GNetNet.mk b2 a0.Packets a0.Next)

def m26_net_Cut_s3 (a0 : GNetNet) (a1 : Int) (s3 : Int × (List GNetLink)) : Option (LB (Int × (List GNetLink)) ((List GNetLink))) :=
  if (decide (s3.1 < (a0.Links.length : Int))) then ((idx a0.Links s3.1).bind fun u4 => if (!decide (u4.ID = a1)) then (if (s3.2.length + [u4].length) * 24 ≤ 140737488355328 then (some (.cont ((wI (s3.1 + 1)), (s3.2 ++ [u4])))) else none) else (some (.cont ((wI (s3.1 + 1)), s3.2)))) else (some (.brk s3.2))
def m26_net_Cut (a0 : GNetNet) (a1 : Int) : Option GNetNet :=
  (m30_net_Sane a0).bind fun v1 => if (!v1) then (some (GNetNet.mk ([] : List GNetLink) ([] : List GNetPacket) 0)) else ((iterB (m26_net_Cut_s3 a0 a1) fuel (0, ([] : List GNetLink))).bind fun e6 => m26_net_Cut_k2 a0 e6)

set_option maxRecDepth 100000 in
theorem m26_net_Cut_c {a0 : GNetNet} {a1 : Int} {r : GNetNet} (h : m26_net_Cut a0 a1 = some r) : CallsA Try.prog 26 [.agg a0, .one (.i .i64 a1)] (· = .s (.agg r)) := by
  unfold m26_net_Cut at h
  refine callsA_of Try.func26 rfl (nt := 31) rfl (Nat.le_of_ble_eq_true rfl) ?_
  intro w0 S0
  refine cseq ?_
  refine cregion ?_
  refine sbox rfl rfl ?_
  refine salloc rfl zi32 ?_
  refine snil ?_
  refine cseq ?_
  refine cseq ?_
  refine cregion ?_
  refine sv rfl (opv_loadN ti32 rfl (.lp _ _ _ rfl) (Nat.le_of_ble_eq_true rfl)) ?_
  obtain ⟨v1, hv1, h⟩ := bind_eq h
  refine scall1 rfl fn30 (opnds_cons rfl opnds_nil) (pubA_id rfl) (m30_net_Sane_c hv1) ?_
  refine sv rfl (opv_not rfl) ?_
  refine snil ?_
  refine ccond rfl (fun hc => ?_) (fun hc => ?_)
  · replace h := ite_t hc h
    clear hc
    refine cseq ?_
    refine cregion ?_
    refine sv rfl (opv_build zi32 pi32 parts_nil (.nil _)) ?_
    refine sstore sz32 rfl rfl rfl rfl (Nat.le_of_ble_eq_true rfl) ?_
    refine smem [.box a0, .box [.raw (.slice none 0 0), .raw (.slice none 0 0), .i .i64 0]] rfl ?_
    refine snil ?_
    refine cret ?_
    refine then_ret ?_
    obtain rfl := Option.some.inj h
    refine ⟨Or.inr rfl, _, _, _, (resVs_cons (ResV.agg _ _ _ _ _ ti32 rfl (.lp _ _ _ rfl) (Nat.le_of_ble_eq_true rfl)) resVs_nil), (pubC rfl), ?_⟩
    rfl
  · replace h := ite_f hc h
    clear hc
    refine cskip ?_
    refine then_normal ?_
    refine cseq ?_
    refine cregion ?_
    refine sv rfl (opv_as rfl) ?_
    refine snil ?_
    refine cseq ?_
    refine cseq ?_
    refine cregion ?_
    refine sv rfl (opv_fieldAddr_lp fi32_0 rfl) ?_
    refine sv rfl (opv_load1 ti29 rfl (.lp _ _ _ rfl) rfl) ?_
    refine sv rfl (opv_len_sl si29 rfl) ?_
    refine sv rfl (opv_mv rfl) ?_
    refine snil ?_
    refine sadopt_c 69 3 5 (by decide) rfl ?_
    refine cjoin ((List GNetLink)) (fun b2 => [(2, .s (.one (.lp 0 0))), (4, .s (.one (.lp 1 0))), (5, .s (.one (.ls 2 b2.length)))]) (fun b2 => [.box a0, .box [.raw (.slice none 0 0), .raw (.slice none 0 0), .i .i64 0], .arr 69 3 0 (b2.flatMap eGNetLink)]) (fun b2 => m26_net_Cut_k2 a0 b2 = some r) (fun _ _ => inbL_of rfl) (fun _ _ => blkinb_of rfl) (fun _ _ => Nat.le_of_ble_eq_true rfl) (fun b2 h => ?_) ?_
    · unfold m26_net_Cut_k2 at h
      refine cseq ?_
      refine cregion ?_
      refine sv rfl (opv_mv rfl) ?_
      refine sv rfl (opv_fieldAddr_lp fi32_0 rfl) ?_
      refine sstore sz29 rfl rfl rfl rfl (Nat.le_of_ble_eq_true rfl) ?_
      refine smem [.box [.ls 2 b2.length, .sl a0.Packets.length (a0.Packets.flatMap eGNetPacket), .i .i64 a0.Next], .box [.raw (.slice none 0 0), .raw (.slice none 0 0), .i .i64 0], .arr 69 3 0 (b2.flatMap eGNetLink)] rfl ?_
      refine snil ?_
      refine cseq ?_
      refine cregion ?_
      refine sv rfl (opv_loadN ti32 rfl (.lp _ _ _ rfl) (Nat.le_of_ble_eq_true rfl)) ?_
      refine sstore sz32 rfl rfl rfl rfl (Nat.le_of_ble_eq_true rfl) ?_
      refine smem [.box [.ls 2 b2.length, .sl a0.Packets.length (a0.Packets.flatMap eGNetPacket), .i .i64 a0.Next], .box [.ls 2 b2.length, .sl a0.Packets.length (a0.Packets.flatMap eGNetPacket), .i .i64 a0.Next], .arr 69 3 0 (b2.flatMap eGNetLink)] rfl ?_
      refine snil ?_
      refine cret ?_
      obtain rfl := Option.some.inj h
      refine ⟨Or.inr rfl, _, _, _, (resVs_cons (ResV.agg _ _ _ _ _ ti32 rfl (.lp _ _ _ rfl) (Nat.le_of_ble_eq_true rfl)) resVs_nil), (by (repeat' first | exact PubA.nil _ | apply PubA.cons | apply PubV.one | apply PubV.agg | exact PubL.nil | exact PubL.ls _ _ _ _ _ _ rfl (flat_len (f := eGNetLink) (fun _ => rfl) _).symm | exact PubL.id _ rfl | exact PubLs.nil _ | apply PubLs.cons)), ?_⟩
      rfl
    · skip
      refine cblock ?_
      obtain ⟨x3, hx3, ho3⟩ := bind_eq h
      refine awc_loop (G := Nat × (Int × (List GNetLink))) (fun g => [(1, .s (.one (.i .i64 a1))), (2, .s (.one (.lp 0 0))), (4, .s (.one (.lp 1 0))), (5, .s (.one (.ls 2 g.2.2.length))), (13, .s (.one (.sl a0.Links.length (a0.Links.flatMap eGNetLink)))), (14, .s (.one (.i .i64 (a0.Links.length : Int)))), (15, .s (.one (.i .i64 g.2.1)))]) (fun g => [.box a0, .box [.raw (.slice none 0 0), .raw (.slice none 0 0), .i .i64 0], .arr 69 3 0 (g.2.2.flatMap eGNetLink)]) (fun g => iterB (m26_net_Cut_s3 a0 a1) g.1 g.2 = some x3) (fun g => g.1) (fuel, (0, ([] : List GNetLink))) hx3 ⟨rfl, rfl, rfl, rfl, rfl, rfl, rfl, trivial⟩ [] rfl (fun _ _ => inbL_of rfl) (fun _ _ => blkinb_of rfl) (fun _ _ => Nat.le_of_ble_eq_true rfl) ?_
      clear hx3 h
      rintro ⟨n3, s3⟩ h
      obtain ⟨n3, y3, rfl, h, hk3⟩ := iterB_eq h
      unfold m26_net_Cut_s3 at h
      refine cseq ?_
      refine cregion ?_
      refine sv rfl (opv_lss rfl rfl) ?_
      refine snil ?_
      refine cseq ?_
      refine ccond rfl (fun hc => ?_) (fun hc => ?_)
      · replace h := ite_t hc h
        clear hc
        refine cskip ?_
        refine then_normal ?_
        refine cseq ?_
        refine cblock ?_
        refine cseq ?_
        refine cregion ?_
        obtain ⟨u4, hu4, h⟩ := bind_eq h
        refine sv rfl (opv_ix (f := eGNetLink) si29 (fun _ => rfl) rfl rfl rfl rfl hu4) ?_
        refine sv rfl (opv_loadNe (ys := [.i .i64 u4.ID, .i .i64 u4.Client, .i .i64 u4.Conn]) ti69 rfl (.cp _) rfl rfl) ?_
        refine salloc rfl zi69 ?_
        refine sstore sz69 rfl rfl rfl rfl (Nat.le_of_ble_eq_true rfl) ?_
        refine smem [.box a0, .box [.raw (.slice none 0 0), .raw (.slice none 0 0), .i .i64 0], .arr 69 3 0 (s3.2.flatMap eGNetLink), .box u4] rfl ?_
        refine snil ?_
        refine cseq ?_
        refine cregion ?_
        refine sv rfl (opv_fieldAddr_lp fi69_0 rfl) ?_
        refine sv rfl (opv_load1 ti3 rfl (.lp _ _ _ rfl) rfl) ?_
        refine sv rfl (opv_mv rfl) ?_
        refine sv rfl (opv_ineq rfl rfl) ?_
        refine snil ?_
        refine ccond rfl (fun hc => ?_) (fun hc => ?_)
        · replace h := ite_t hc h
          clear hc
          refine cregion ?_
          refine sv rfl (opv_mv rfl) ?_
          refine sv rfl (opv_loadN ti69 rfl (.lp _ _ _ rfl) (Nat.le_of_ble_eq_true rfl)) ?_
          refine sbuild1 rfl Try.underlying29 ei69 rfl rfl (List.all_eq_true.1 rfl) (by decide) ?_
          refine smem [.box a0, .box [.raw (.slice none 0 0), .raw (.slice none 0 0), .i .i64 0], .arr 69 3 0 (s3.2.flatMap eGNetLink), .box u4, .arr 69 3 0 ([u4].flatMap eGNetLink)] rfl ?_
          obtain ⟨hb5, h⟩ := chk_eq h
          refine sapp (f := eGNetLink) (xs := s3.2) (us := [u4]) rfl Try.underlying29 ei69 ni29 (fun _ => rfl) rfl rfl (.one _ _ _ _ (.ls _ _ _ _ _ _ rfl (flat_len (f := eGNetLink) (fun _ => rfl) [u4]).symm)) rfl rfl rfl (.sl _ _ _ (flat_len (f := eGNetLink) (fun _ => rfl) _)) rfl rfl hb5 (by decide) ?_
          refine sv rfl (opv_as rfl) ?_
          refine snil0 ?_
          refine block_normal ?_
          refine then_normal ?_
          refine cregion ?_
          refine sv rfl (opv_add rfl rfl) ?_
          refine sv rfl (opv_mv rfl) ?_
          refine snil ?_
          obtain rfl := Option.some.inj h
          exact ⟨(n3, ((wI (s3.1 + 1)), (s3.2 ++ [u4]))), _, hk3, ⟨rfl, rfl, rfl, rfl, rfl, rfl, rfl, trivial⟩, rfl, Nat.lt_succ_self _⟩
        · replace h := ite_f hc h
          clear hc
          refine cskip ?_
          refine block_normal ?_
          refine then_normal ?_
          refine cregion ?_
          refine sv rfl (opv_add rfl rfl) ?_
          refine sv rfl (opv_mv rfl) ?_
          refine snil ?_
          obtain rfl := Option.some.inj h
          exact ⟨(n3, ((wI (s3.1 + 1)), s3.2)), _, hk3, ⟨rfl, rfl, rfl, rfl, rfl, rfl, rfl, trivial⟩, rfl, Nat.lt_succ_self _⟩
      · replace h := ite_f hc h
        clear hc
        refine cexit ?_
        refine then_exit ?_
        refine then_exit ?_
        refine block_hit ?_
        refine then_normal ?_
        obtain rfl := Option.some.inj h
        obtain rfl : _ = x3 := hk3
        exact ⟨s3.2, _, ho3, ⟨rfl, rfl, rfl, trivial⟩, rfl⟩

def m27_r22_Cut_k2 (a0 : GR22Net) (b2 : (List GR22Link)) : Option GR22Net :=
  some (GR22Net.mk b2 a0.Packets a0.Next)

def m27_r22_Cut_s3 (a0 : GR22Net) (a1 : Int) (s3 : Int × (List GR22Link)) : Option (LB (Int × (List GR22Link)) ((List GR22Link))) :=
  if (decide (s3.1 < (a0.Links.length : Int))) then ((idx a0.Links s3.1).bind fun u4 => if (!decide (u4.ID = a1)) then ((idx a0.Links s3.1).bind fun u5 => if (s3.2.length + [u5].length) * 24 ≤ 140737488355328 then (some (.cont ((wI (s3.1 + 1)), (s3.2 ++ [u5])))) else none) else (some (.cont ((wI (s3.1 + 1)), s3.2)))) else (some (.brk s3.2))
def m27_r22_Cut (a0 : GR22Net) (a1 : Int) : Option GR22Net :=
  (m31_r22_Sane a0).bind fun v1 => if (!v1) then (some (GR22Net.mk ([] : List GR22Link) ([] : List GR22Packet) 0)) else ((iterB (m27_r22_Cut_s3 a0 a1) fuel (0, ([] : List GR22Link))).bind fun e7 => m27_r22_Cut_k2 a0 e7)

set_option maxRecDepth 100000 in
theorem m27_r22_Cut_c {a0 : GR22Net} {a1 : Int} {r : GR22Net} (h : m27_r22_Cut a0 a1 = some r) : CallsA Try.prog 27 [.agg a0, .one (.i .i64 a1)] (· = .s (.agg r)) := by
  unfold m27_r22_Cut at h
  refine callsA_of Try.func27 rfl (nt := 40) rfl (Nat.le_of_ble_eq_true rfl) ?_
  intro w0 S0
  refine cseq ?_
  refine cregion ?_
  refine sbox rfl rfl ?_
  refine salloc rfl zi25 ?_
  refine snil ?_
  refine cseq ?_
  refine cseq ?_
  refine cregion ?_
  refine sv rfl (opv_loadN ti25 rfl (.lp _ _ _ rfl) (Nat.le_of_ble_eq_true rfl)) ?_
  obtain ⟨v1, hv1, h⟩ := bind_eq h
  refine scall1 rfl fn31 (opnds_cons rfl opnds_nil) (pubA_id rfl) (m31_r22_Sane_c hv1) ?_
  refine sv rfl (opv_not rfl) ?_
  refine snil ?_
  refine ccond rfl (fun hc => ?_) (fun hc => ?_)
  · replace h := ite_t hc h
    clear hc
    refine cseq ?_
    refine cregion ?_
    refine sv rfl (opv_build zi25 pi25 parts_nil (.nil _)) ?_
    refine sstore sz25 rfl rfl rfl rfl (Nat.le_of_ble_eq_true rfl) ?_
    refine smem [.box a0, .box [.raw (.slice none 0 0), .raw (.slice none 0 0), .i .i64 0]] rfl ?_
    refine snil ?_
    refine cret ?_
    refine then_ret ?_
    obtain rfl := Option.some.inj h
    refine ⟨Or.inr rfl, _, _, _, (resVs_cons (ResV.agg _ _ _ _ _ ti25 rfl (.lp _ _ _ rfl) (Nat.le_of_ble_eq_true rfl)) resVs_nil), (pubC rfl), ?_⟩
    rfl
  · replace h := ite_f hc h
    clear hc
    refine cskip ?_
    refine then_normal ?_
    refine cseq ?_
    refine cregion ?_
    refine sv rfl (opv_as rfl) ?_
    refine snil ?_
    refine cseq ?_
    refine cseq ?_
    refine cregion ?_
    refine sv rfl (opv_as rfl) ?_
    refine snil ?_
    refine sadopt_c 75 3 5 (by decide) rfl ?_
    refine cjoin ((List GR22Link)) (fun b2 => [(2, .s (.one (.lp 0 0))), (4, .s (.one (.lp 1 0))), (5, .s (.one (.ls 2 b2.length)))]) (fun b2 => [.box a0, .box [.raw (.slice none 0 0), .raw (.slice none 0 0), .i .i64 0], .arr 75 3 0 (b2.flatMap eGR22Link)]) (fun b2 => m27_r22_Cut_k2 a0 b2 = some r) (fun _ _ => inbL_of rfl) (fun _ _ => blkinb_of rfl) (fun _ _ => Nat.le_of_ble_eq_true rfl) (fun b2 h => ?_) ?_
    · unfold m27_r22_Cut_k2 at h
      refine cseq ?_
      refine cregion ?_
      refine sv rfl (opv_mv rfl) ?_
      refine sv rfl (opv_fieldAddr_lp fi25_1 rfl) ?_
      refine sv rfl (opv_load1 ti23 rfl (.lp _ _ _ rfl) rfl) ?_
      refine sv rfl (opv_fieldAddr_lp fi25_2 rfl) ?_
      refine sv rfl (opv_load1 ti3 rfl (.lp _ _ _ rfl) rfl) ?_
      refine sv rfl (opv_build zi25 pi25 (parts_cons rfl (parts_cons rfl (parts_cons rfl parts_nil))) (.cons _ _ _ _ _ _ _ rfl rfl (Nat.le_of_ble_eq_true rfl) (.cons _ _ _ _ _ _ _ rfl rfl (Nat.le_of_ble_eq_true rfl) (.cons _ _ _ _ _ _ _ rfl rfl (Nat.le_of_ble_eq_true rfl) (.nil _))))) ?_
      refine sstore sz25 rfl rfl rfl rfl (Nat.le_of_ble_eq_true rfl) ?_
      refine smem [.box a0, .box [.ls 2 b2.length, .sl a0.Packets.length (a0.Packets.flatMap eGR22Packet), .i .i64 a0.Next], .arr 75 3 0 (b2.flatMap eGR22Link)] rfl ?_
      refine snil ?_
      refine cret ?_
      obtain rfl := Option.some.inj h
      refine ⟨Or.inr rfl, _, _, _, (resVs_cons (ResV.agg _ _ _ _ _ ti25 rfl (.lp _ _ _ rfl) (Nat.le_of_ble_eq_true rfl)) resVs_nil), (by (repeat' first | exact PubA.nil _ | apply PubA.cons | apply PubV.one | apply PubV.agg | exact PubL.nil | exact PubL.ls _ _ _ _ _ _ rfl (flat_len (f := eGR22Link) (fun _ => rfl) _).symm | exact PubL.id _ rfl | exact PubLs.nil _ | apply PubLs.cons)), ?_⟩
      rfl
    · skip
      refine cblock ?_
      obtain ⟨x3, hx3, ho3⟩ := bind_eq h
      refine awc_loop (G := Nat × (Int × (List GR22Link))) (fun g => [(1, .s (.one (.i .i64 a1))), (2, .s (.one (.lp 0 0))), (4, .s (.one (.lp 1 0))), (5, .s (.one (.ls 2 g.2.2.length))), (6, .s (.one (.i .i64 g.2.1)))]) (fun g => [.box a0, .box [.raw (.slice none 0 0), .raw (.slice none 0 0), .i .i64 0], .arr 75 3 0 (g.2.2.flatMap eGR22Link)]) (fun g => iterB (m27_r22_Cut_s3 a0 a1) g.1 g.2 = some x3) (fun g => g.1) (fuel, (0, ([] : List GR22Link))) hx3 ⟨rfl, rfl, rfl, rfl, rfl, trivial⟩ [] rfl (fun _ _ => inbL_of rfl) (fun _ _ => blkinb_of rfl) (fun _ _ => Nat.le_of_ble_eq_true rfl) ?_
      clear hx3 h
      rintro ⟨n3, s3⟩ h
      obtain ⟨n3, y3, rfl, h, hk3⟩ := iterB_eq h
      unfold m27_r22_Cut_s3 at h
      refine cseq ?_
      refine cseq ?_
      refine cregion ?_
      refine sv rfl (opv_mv rfl) ?_
      refine sv rfl (opv_fieldAddr_lp fi25_0 rfl) ?_
      refine sv rfl (opv_load1 ti22 rfl (.lp _ _ _ rfl) rfl) ?_
      refine sv rfl (opv_len_sl si22 rfl) ?_
      refine sv rfl (opv_lss rfl rfl) ?_
      refine snil ?_
      refine ccond rfl (fun hc => ?_) (fun hc => ?_)
      · replace h := ite_t hc h
        clear hc
        refine cskip ?_
        refine then_normal ?_
        refine cseq ?_
        refine cblock ?_
        refine cseq ?_
        refine cregion ?_
        refine sv rfl (opv_fieldAddr_lp fi25_0 rfl) ?_
        refine sv rfl (opv_load1 ti22 rfl (.lp _ _ _ rfl) rfl) ?_
        refine sv rfl (opv_mv rfl) ?_
        obtain ⟨u4, hu4, h⟩ := bind_eq h
        refine sv rfl (opv_ix (f := eGR22Link) si22 (fun _ => rfl) rfl rfl rfl rfl hu4) ?_
        refine sv rfl (opv_fieldAddr_cp fi75_0 rfl) ?_
        refine sv rfl (opv_load1 ti3 rfl (.cp _) rfl) ?_
        refine sv rfl (opv_mv rfl) ?_
        refine sv rfl (opv_ineq rfl rfl) ?_
        refine snil ?_
        refine ccond rfl (fun hc => ?_) (fun hc => ?_)
        · replace h := ite_t hc h
          clear hc
          refine cregion ?_
          refine sv rfl (opv_mv rfl) ?_
          refine sv rfl (opv_fieldAddr_lp fi25_0 rfl) ?_
          refine sv rfl (opv_load1 ti22 rfl (.lp _ _ _ rfl) rfl) ?_
          refine sv rfl (opv_mv rfl) ?_
          obtain ⟨u5, hu5, h⟩ := bind_eq h
          refine sv rfl (opv_ix (f := eGR22Link) si22 (fun _ => rfl) rfl rfl rfl rfl hu5) ?_
          refine sv rfl (opv_loadNe (ys := [.i .i64 u5.ID, .i .i64 u5.Client, .i .i64 u5.Conn]) ti75 rfl (.cp _) rfl rfl) ?_
          refine sbuild1 rfl Try.underlying22 ei75 rfl rfl (List.all_eq_true.1 rfl) (by decide) ?_
          refine smem [.box a0, .box [.raw (.slice none 0 0), .raw (.slice none 0 0), .i .i64 0], .arr 75 3 0 (s3.2.flatMap eGR22Link), .arr 75 3 0 ([u5].flatMap eGR22Link)] rfl ?_
          obtain ⟨hb6, h⟩ := chk_eq h
          refine sapp (f := eGR22Link) (xs := s3.2) (us := [u5]) rfl Try.underlying22 ei75 ni22 (fun _ => rfl) rfl rfl (.one _ _ _ _ (.ls _ _ _ _ _ _ rfl (flat_len (f := eGR22Link) (fun _ => rfl) [u5]).symm)) rfl rfl rfl (.sl _ _ _ (flat_len (f := eGR22Link) (fun _ => rfl) _)) rfl rfl hb6 (by decide) ?_
          refine sv rfl (opv_as rfl) ?_
          refine snil0 ?_
          refine block_normal ?_
          refine then_normal ?_
          refine cregion ?_
          refine sv rfl (opv_mv rfl) ?_
          refine sv rfl (opv_add rfl rfl) ?_
          refine sv rfl (opv_as rfl) ?_
          refine snil ?_
          obtain rfl := Option.some.inj h
          exact ⟨(n3, ((wI (s3.1 + 1)), (s3.2 ++ [u5]))), _, hk3, ⟨rfl, rfl, rfl, rfl, rfl, trivial⟩, rfl, Nat.lt_succ_self _⟩
        · replace h := ite_f hc h
          clear hc
          refine cskip ?_
          refine block_normal ?_
          refine then_normal ?_
          refine cregion ?_
          refine sv rfl (opv_mv rfl) ?_
          refine sv rfl (opv_add rfl rfl) ?_
          refine sv rfl (opv_as rfl) ?_
          refine snil ?_
          obtain rfl := Option.some.inj h
          exact ⟨(n3, ((wI (s3.1 + 1)), s3.2)), _, hk3, ⟨rfl, rfl, rfl, rfl, rfl, trivial⟩, rfl, Nat.lt_succ_self _⟩
      · replace h := ite_f hc h
        clear hc
        refine cexit ?_
        refine then_exit ?_
        refine then_exit ?_
        refine block_hit ?_
        refine then_normal ?_
        obtain rfl := Option.some.inj h
        obtain rfl : _ = x3 := hk3
        exact ⟨s3.2, _, ho3, ⟨rfl, rfl, rfl, trivial⟩, rfl⟩

def m47_slices_Cloneo (a0 : List GNetPacket) : Option (List GNetPacket) :=
  if (([] : List GNetPacket).length + a0.length) * 40 ≤ 140737488355328 then (some (([] : List GNetPacket) ++ a0)) else none

set_option maxRecDepth 100000 in
theorem m47_slices_Cloneo_c {a0 : List GNetPacket} {r : (List GNetPacket)} (h : m47_slices_Cloneo a0 = some r) : CallsB Try.prog 47 [] [.one (.sl a0.length (a0.flatMap eGNetPacket))] (fun y m' => y = .s (.one (.ls 0 r.length)) ∧ m' = [.arr 46 3 0 (r.flatMap eGNetPacket)]) := by
  unfold m47_slices_Cloneo at h
  refine callsB_of Try.func47 rfl (nt := 8) rfl (Nat.le_of_ble_eq_true rfl) ?_
  intro w0 S0 X0 H0
  refine cseq ?_
  refine cregion ?_
  refine sv rfl (opv_as rfl) ?_
  refine snil ?_
  refine cseq ?_
  refine cseq ?_
  refine cregion ?_
  refine sv rfl (opv_mv rfl) ?_
  refine snilq rfl Try.underlying30 rfl (fun nq hnq => ?_)
  cases nq
  · skip
    refine snil ?_
    refine ccond rfl (fun hx => Bool.noConfusion hx) (fun _ => ?_)
    refine cskip ?_
    refine then_normal ?_
    refine cseq ?_
    refine cregion ?_
    refine sbuild0 rfl Try.underlying30 ei46 ?_
    refine sv rfl (opv_mv rfl) ?_
    obtain ⟨hb1, h⟩ := chk_eq h
    refine sapp (f := eGNetPacket) (xs := ([] : List GNetPacket)) (us := a0) rfl Try.underlying30 ei46 ni30 (fun _ => rfl) rfl rfl (.one _ _ _ _ (.id _ rfl)) rfl rfl rfl (.sl _ _ _ (flat_len (f := eGNetPacket) (fun _ => rfl) _)) rfl rfl hb1 (by decide) ?_
    refine sv rfl (opv_as rfl) ?_
    refine snil ?_
    refine cret ?_
    obtain rfl := Option.some.inj h
    exact ⟨Or.inr rfl, _, [0], [.one (.ls 0 (([] : List GNetPacket) ++ a0).length)], [.arr 46 3 0 ((([] : List GNetPacket) ++ a0).flatMap eGNetPacket)], (resVs_cons (ResV.tmp _ _ rfl) resVs_nil), rfl, rfl, ⟨by decide, rfl⟩, rfl, rfl, ⟨rfl, rfl⟩⟩
  · obtain rfl := List.eq_nil_of_length_eq_zero (hnq rfl)
    replace h : (some ([] : List GNetPacket)) = some r := by first | exact h | (rw [if_pos (by decide)] at h; exact h)
    refine snil ?_
    refine ccond rfl (fun _ => ?_) (fun hx => Bool.noConfusion hx)
    refine cseq ?_
    refine cregion ?_
    refine sv rfl (opv_as rfl) ?_
    refine snil ?_
    refine sadopt_c 46 3 2 (by decide) rfl ?_
    refine cret ?_
    refine then_ret ?_
    obtain rfl := Option.some.inj h
    exact ⟨Or.inr rfl, _, [0], [.one (.ls 0 ([] : List GNetPacket).length)], [.arr 46 3 0 (([] : List GNetPacket).flatMap eGNetPacket)], (resVs_cons (ResV.tmp _ _ rfl) resVs_nil), rfl, rfl, ⟨by decide, rfl⟩, rfl, rfl, ⟨rfl, rfl⟩⟩

def m48_bytes_Cloneo (a0 : List UInt8) : Option (List UInt8) :=
  if (([] : List UInt8).length + a0.length) * 1 ≤ 140737488355328 then (some (([] : List UInt8) ++ a0)) else none

set_option maxRecDepth 100000 in
theorem m48_bytes_Cloneo_c {a0 : List UInt8} {r : (List UInt8)} (h : m48_bytes_Cloneo a0 = some r) : CallsB Try.prog 48 [] [.one (.sl a0.length (a0.flatMap eU8))] (fun y m' => y = .s (.one (.ls 0 r.length)) ∧ m' = [.arr 5 1 0 (r.flatMap eU8)]) := by
  unfold m48_bytes_Cloneo at h
  refine callsB_of Try.func48 rfl (nt := 8) rfl (Nat.le_of_ble_eq_true rfl) ?_
  intro w0 S0 X0 H0
  refine cseq ?_
  refine cregion ?_
  refine sv rfl (opv_as rfl) ?_
  refine snil ?_
  refine cseq ?_
  refine cseq ?_
  refine cregion ?_
  refine sv rfl (opv_mv rfl) ?_
  refine snilq rfl Try.underlying26 rfl (fun nq hnq => ?_)
  cases nq
  · skip
    refine snil ?_
    refine ccond rfl (fun hx => Bool.noConfusion hx) (fun _ => ?_)
    refine cskip ?_
    refine then_normal ?_
    refine cseq ?_
    refine cregion ?_
    refine sbuild0 rfl Try.underlying26 ei5 ?_
    refine sv rfl (opv_mv rfl) ?_
    obtain ⟨hb1, h⟩ := chk_eq h
    refine sapp (f := eU8) (xs := ([] : List UInt8)) (us := a0) rfl Try.underlying26 ei5 ni26 (fun _ => rfl) rfl rfl (.one _ _ _ _ (.id _ rfl)) rfl rfl rfl (.sl _ _ _ (flat_len (f := eU8) (fun _ => rfl) _)) rfl rfl hb1 (by decide) ?_
    refine sv rfl (opv_as rfl) ?_
    refine snil ?_
    refine cret ?_
    obtain rfl := Option.some.inj h
    exact ⟨Or.inr rfl, _, [0], [.one (.ls 0 (([] : List UInt8) ++ a0).length)], [.arr 5 1 0 ((([] : List UInt8) ++ a0).flatMap eU8)], (resVs_cons (ResV.tmp _ _ rfl) resVs_nil), rfl, rfl, ⟨by decide, rfl⟩, rfl, rfl, ⟨rfl, rfl⟩⟩
  · obtain rfl := List.eq_nil_of_length_eq_zero (hnq rfl)
    replace h : (some ([] : List UInt8)) = some r := by first | exact h | (rw [if_pos (by decide)] at h; exact h)
    refine snil ?_
    refine ccond rfl (fun _ => ?_) (fun hx => Bool.noConfusion hx)
    refine cseq ?_
    refine cregion ?_
    refine sv rfl (opv_as rfl) ?_
    refine snil ?_
    refine sadopt_c 5 1 2 (by decide) rfl ?_
    refine cret ?_
    refine then_ret ?_
    obtain rfl := Option.some.inj h
    exact ⟨Or.inr rfl, _, [0], [.one (.ls 0 ([] : List UInt8).length)], [.arr 5 1 0 (([] : List UInt8).flatMap eU8)], (resVs_cons (ResV.tmp _ _ rfl) resVs_nil), rfl, rfl, ⟨by decide, rfl⟩, rfl, rfl, ⟨rfl, rfl⟩⟩

def m28_net_Flip_k2 (a0 : GNetNet) (a1 : Int) (a2 : Int) (b2 : Unit) : Option GNetNet :=
  (m47_slices_Cloneo a0.Packets).bind fun v3 => (idx v3 a1).bind fun u4 => (m48_bytes_Cloneo u4.Bytes).bind fun v5 => if (wI (8 * (v5.length : Int))) ≠ 0 then ((idx v5 (wI ((a2.tmod (wI (8 * (v5.length : Int)))).tdiv 8))).bind fun u7 => if 0 ≤ ((a2.tmod (wI (8 * (v5.length : Int)))).tmod 8) then ((idx v5 (wI ((a2.tmod (wI (8 * (v5.length : Int)))).tdiv 8))).bind fun u9 => (idx v3 a1).bind fun u10 => some (GNetNet.mk a0.Links (v3.set a1.toNat (GNetPacket.mk u10.Link u10.Up (v5.set ((wI ((a2.tmod (wI (8 * (v5.length : Int)))).tdiv 8)).toNat) (UInt8.ofBitVec (u7.toBitVec ^^^ ((1#8) <<< ((a2.tmod (wI (8 * (v5.length : Int)))).tmod 8).toNat)))))) a0.Next)) else none) else none
def m28_net_Flip (a0 : GNetNet) (a1 : Int) (a2 : Int) : Option GNetNet :=
  (m30_net_Sane a0).bind fun v1 => if (!v1) then (some (GNetNet.mk ([] : List GNetLink) ([] : List GNetPacket) 0)) else ((m45_net_there (GNetNet.mk a0.Links a0.Packets a0.Next) a1).bind fun v11 => if (!v11) then (some (GNetNet.mk a0.Links a0.Packets a0.Next)) else (if (decide (a2 < 0)) then (some (GNetNet.mk a0.Links a0.Packets a0.Next)) else (m28_net_Flip_k2 a0 a1 a2 ())))

set_option maxRecDepth 100000 in
theorem m28_net_Flip_c {a0 : GNetNet} {a1 : Int} {a2 : Int} {r : GNetNet} (h : m28_net_Flip a0 a1 a2 = some r) : CallsA Try.prog 28 [.agg a0, .one (.i .i64 a1), .one (.i .i64 a2)] (· = .s (.agg r)) := by
  unfold m28_net_Flip at h
  refine callsA_of Try.func28 rfl (nt := 54) rfl (Nat.le_of_ble_eq_true rfl) ?_
  intro w0 S0
  refine cseq ?_
  refine cregion ?_
  refine sbox rfl rfl ?_
  refine salloc rfl zi32 ?_
  refine snil ?_
  refine cseq ?_
  refine cseq ?_
  refine cregion ?_
  refine sv rfl (opv_loadN ti32 rfl (.lp _ _ _ rfl) (Nat.le_of_ble_eq_true rfl)) ?_
  obtain ⟨v1, hv1, h⟩ := bind_eq h
  refine scall1 rfl fn30 (opnds_cons rfl opnds_nil) (pubA_id rfl) (m30_net_Sane_c hv1) ?_
  refine sv rfl (opv_not rfl) ?_
  refine snil ?_
  refine ccond rfl (fun hc => ?_) (fun hc => ?_)
  · replace h := ite_t hc h
    clear hc
    refine cseq ?_
    refine cregion ?_
    refine sv rfl (opv_build zi32 pi32 parts_nil (.nil _)) ?_
    refine sstore sz32 rfl rfl rfl rfl (Nat.le_of_ble_eq_true rfl) ?_
    refine smem [.box a0, .box [.raw (.slice none 0 0), .raw (.slice none 0 0), .i .i64 0]] rfl ?_
    refine snil ?_
    refine cret ?_
    refine then_ret ?_
    obtain rfl := Option.some.inj h
    refine ⟨Or.inr rfl, _, _, _, (resVs_cons (ResV.agg _ _ _ _ _ ti32 rfl (.lp _ _ _ rfl) (Nat.le_of_ble_eq_true rfl)) resVs_nil), (pubC rfl), ?_⟩
    rfl
  · replace h := ite_f hc h
    clear hc
    refine cskip ?_
    refine then_normal ?_
    refine cseq ?_
    refine cseq ?_
    refine cjoin3 (Unit) (fun b2 => [(1, .s (.one (.i .i64 a1))), (2, .s (.one (.i .i64 a2))), (3, .s (.one (.lp 0 0))), (6, .s (.one (.lp 1 0)))]) (fun b2 => [.box a0, .box [.raw (.slice none 0 0), .raw (.slice none 0 0), .i .i64 0]]) (fun b2 => m28_net_Flip_k2 a0 a1 a2 b2 = some r) (fun _ _ => inbL_of rfl) (fun _ _ => blkinb_of rfl) (fun _ _ => Nat.le_of_ble_eq_true rfl) (fun b2 h => ?_) ?_
    · unfold m28_net_Flip_k2 at h
      refine cseq ?_
      refine cregion ?_
      refine sv rfl (opv_fieldAddr_lp fi32_1 rfl) ?_
      refine sv rfl (opv_load1 ti30 rfl (.lp _ _ _ rfl) rfl) ?_
      obtain ⟨v3, hv3, h⟩ := bind_eq h
      refine scallB (x' := .s (.one (.ls 2 v3.length))) (M' := [.box a0, .box [.raw (.slice none 0 0), .raw (.slice none 0 0), .i .i64 0], .arr 46 3 0 (v3.flatMap eGNetPacket)]) [] rfl fn47 (.func _) (opnds_cons rfl opnds_nil) (m47_slices_Cloneo_c hv3) rfl rfl (by decide) rfl rfl rfl ?_
      refine sv rfl (opv_fieldAddr_lp fi32_1 rfl) ?_
      refine sstore sz30 rfl rfl rfl rfl (Nat.le_of_ble_eq_true rfl) ?_
      refine smem [.box [.sl a0.Links.length (a0.Links.flatMap eGNetLink), .ls 2 v3.length, .i .i64 a0.Next], .box [.raw (.slice none 0 0), .raw (.slice none 0 0), .i .i64 0], .arr 46 3 0 (v3.flatMap eGNetPacket)] rfl ?_
      refine snil ?_
      refine cseq ?_
      refine cregion ?_
      refine sv rfl (opv_fieldAddr_lp fi32_1 rfl) ?_
      refine sv rfl (opv_load1 ti30 rfl (.lp _ _ _ rfl) rfl) ?_
      refine sv rfl (opv_mv rfl) ?_
      obtain ⟨u4, hu4, h⟩ := bind_eq h
      refine sv rfl (opv_ixo (f := eGNetPacket) si30 (fun _ => rfl) rfl rfl rfl rfl rfl hu4) ?_
      refine sv rfl (opv_fieldAddr_ap fi46_2 rfl rfl (flat_len (f := eGNetPacket) (fun _ => rfl) _).symm) ?_
      refine sv rfl (opv_ld1o (f := eGNetPacket) 2 ti26 (fun _ => rfl) rfl rfl rfl rfl (idx_eq hu4).2 rfl) ?_
      obtain ⟨v5, hv5, h⟩ := bind_eq h
      refine scallB (x' := .s (.one (.ls 3 v5.length))) (M' := [.box [.sl a0.Links.length (a0.Links.flatMap eGNetLink), .ls 2 v3.length, .i .i64 a0.Next], .box [.raw (.slice none 0 0), .raw (.slice none 0 0), .i .i64 0], .arr 46 3 0 (v3.flatMap eGNetPacket), .arr 5 1 0 (v5.flatMap eU8)]) [] rfl fn48 (.func _) (opnds_cons rfl opnds_nil) (m48_bytes_Cloneo_c hv5) rfl rfl (by decide) rfl rfl rfl ?_
      refine sv rfl (opv_as rfl) ?_
      refine snil ?_
      refine cseq ?_
      refine cregion ?_
      refine sv rfl (opv_mv rfl) ?_
      refine sv rfl (opv_mv rfl) ?_
      refine sv rfl (opv_len_ls si26 rfl rfl (flat_len (f := eU8) (fun _ => rfl) _).symm) ?_
      refine sv rfl (opv_mul rfl rfl) ?_
      obtain ⟨hz6, h⟩ := chk_eq h
      refine sv rfl (opv_rem rfl rfl hz6) ?_
      refine sv rfl (opv_as rfl) ?_
      refine snil ?_
      refine cseq ?_
      obtain ⟨u7, hu7, h⟩ := bind_eq h
      obtain ⟨hz8, h⟩ := chk_eq h
      obtain ⟨u9, hu9, h⟩ := bind_eq h
      refine cdraw_e [10] [0, 0, 2, 7, 15, 0, 32, 96, 255, 511, 1023] [[.box [.sl a0.Links.length (a0.Links.flatMap eGNetLink), .ls 2 v3.length, .i .i64 a0.Next], .box [.raw (.slice none 0 0), .raw (.slice none 0 0), .i .i64 0], .arr 46 3 0 (v3.flatMap eGNetPacket), .arr 5 1 0 (v5.flatMap eU8)], [.box [.sl a0.Links.length (a0.Links.flatMap eGNetLink), .ls 2 v3.length, .i .i64 a0.Next], .box [.raw (.slice none 0 0), .raw (.slice none 0 0), .i .i64 0], .arr 46 3 0 (v3.flatMap eGNetPacket), .arr 5 1 0 ((v5.set ((wI ((a2.tmod (wI (8 * (v5.length : Int)))).tdiv 8)).toNat) (UInt8.ofBitVec (u7.toBitVec ^^^ ((1#8) <<< ((a2.tmod (wI (8 * (v5.length : Int)))).tmod 8).toNat)))).flatMap eU8)]] (by kernel_rfl) mixed (by kernel_rfl) (by decide) rfl rfl rfl rfl ?_
      refine ev (sees_at 0 rfl rfl) rfl rfl (opv_mv rfl) ?_
      refine ev (sees_at 0 rfl rfl) rfl rfl (opv_mv rfl) ?_
      refine ev (sees_at 0 rfl rfl) rfl rfl (opv_quow rfl rfl (by decide)) ?_
      refine ev (sees_at 0 rfl rfl) rfl rfl (opv_ixo (f := eU8) si26 (fun _ => rfl) rfl rfl rfl (by first | rfl | exact List.length_set.symm) rfl hu7) ?_
      refine ev (sees_at 0 rfl rfl) rfl rfl (opv_ld1o (f := eU8) 0 ti5 (fun _ => rfl) rfl rfl rfl rfl (idx_eq hu7).2 rfl) ?_
      refine ev (sees_at 0 rfl rfl) rfl rfl (opv_mv rfl) ?_
      refine ev (sees_at 0 rfl rfl) rfl rfl (opv_rem rfl rfl (by decide)) ?_
      refine ev (sees_at 0 rfl rfl) rfl rfl (opv_shl_u8 (a := 1#8) rfl rfl rfl hz8) ?_
      refine ev (sees_at 0 rfl rfl) rfl rfl (opv_xor_u8 (a := u7.toBitVec) (b := ((1#8) <<< ((a2.tmod (wI (8 * (v5.length : Int)))).tmod 8).toNat)) rfl rfl rfl rfl) ?_
      refine ev (sees_at 0 rfl rfl) rfl rfl (opv_ixo (f := eU8) si26 (fun _ => rfl) rfl rfl rfl (by first | rfl | exact List.length_set.symm) rfl hu9) ?_
      refine ee0 0 rfl rfl rfl rfl (fun ζ => ?_) ?_
      · refine sseto (f := eU8) (u' := (UInt8.ofBitVec (u7.toBitVec ^^^ ((1#8) <<< ((a2.tmod (wI (8 * (v5.length : Int)))).tmod 8).toNat)))) (sz := 1) 0 sz5 (fun _ => rfl) rfl rfl rfl rfl (by first | rfl | exact List.length_set.symm) rfl rfl (List.all_eq_true.1 rfl) (idx_eq hu9).2 (Nat.le_of_ble_eq_true rfl) rfl ?_
        exact eend
      refine enil ?_
      refine then_normal ?_
      refine stell_c 31 (y := .s (.one (.ls 3 v5.length))) (.s (.one (.ls 3 (v5.set ((wI ((a2.tmod (wI (8 * (v5.length : Int)))).tdiv 8)).toNat) (UInt8.ofBitVec (u7.toBitVec ^^^ ((1#8) <<< ((a2.tmod (wI (8 * (v5.length : Int)))).tmod 8).toNat)))).length))) rfl (congrArg (fun n => AV.s (.one (.ls 3 n))) List.length_set.symm) ?_
      refine stell_c 7 (y := .s (.one (.ls 3 v5.length))) (.s (.one (.ls 3 (v5.set ((wI ((a2.tmod (wI (8 * (v5.length : Int)))).tdiv 8)).toNat) (UInt8.ofBitVec (u7.toBitVec ^^^ ((1#8) <<< ((a2.tmod (wI (8 * (v5.length : Int)))).tmod 8).toNat)))).length))) rfl (congrArg (fun n => AV.s (.one (.ls 3 n))) List.length_set.symm) ?_
      refine stell_c 33 (y := .s (.one (.ls 3 v5.length))) (.s (.one (.ls 3 (v5.set ((wI ((a2.tmod (wI (8 * (v5.length : Int)))).tdiv 8)).toNat) (UInt8.ofBitVec (u7.toBitVec ^^^ ((1#8) <<< ((a2.tmod (wI (8 * (v5.length : Int)))).tmod 8).toNat)))).length))) rfl (congrArg (fun n => AV.s (.one (.ls 3 n))) List.length_set.symm) ?_
      refine stell_c 37 (y := .s (.one (.ls 3 v5.length))) (.s (.one (.ls 3 (v5.set ((wI ((a2.tmod (wI (8 * (v5.length : Int)))).tdiv 8)).toNat) (UInt8.ofBitVec (u7.toBitVec ^^^ ((1#8) <<< ((a2.tmod (wI (8 * (v5.length : Int)))).tmod 8).toNat)))).length))) rfl (congrArg (fun n => AV.s (.one (.ls 3 n))) List.length_set.symm) ?_
      refine cseq ?_
      refine cregion ?_
      refine sv rfl (opv_fieldAddr_lp fi32_1 rfl) ?_
      refine sv rfl (opv_load1 ti30 rfl (.lp _ _ _ rfl) rfl) ?_
      refine sv rfl (opv_mv rfl) ?_
      refine sv rfl (opv_mv rfl) ?_
      obtain ⟨u10, hu10, h⟩ := bind_eq h
      refine sv rfl (opv_ixo (f := eGNetPacket) si30 (fun _ => rfl) rfl rfl rfl rfl rfl hu10) ?_
      refine sv rfl (opv_fieldAddr_ap fi46_2 rfl rfl (flat_len (f := eGNetPacket) (fun _ => rfl) _).symm) ?_
      refine spub 50 rfl (by (repeat' first | exact PubA.nil _ | apply PubA.cons | apply PubV.one | apply PubV.agg | exact PubL.nil | exact PubL.ls _ _ _ _ _ _ rfl (flat_len (f := eGNetPacket) (fun _ => rfl) _).symm | exact PubL.ls _ _ _ _ _ _ rfl (flat_len (f := eU8) (fun _ => rfl) _).symm | exact PubL.id _ rfl | exact PubLs.nil _ | apply PubLs.cons)) ?_
      refine sseto (f := eGNetPacket) (u' := (GNetPacket.mk u10.Link u10.Up (v5.set ((wI ((a2.tmod (wI (8 * (v5.length : Int)))).tdiv 8)).toNat) (UInt8.ofBitVec (u7.toBitVec ^^^ ((1#8) <<< ((a2.tmod (wI (8 * (v5.length : Int)))).tmod 8).toNat)))))) (sz := 3) 2 sz26 (fun _ => rfl) rfl rfl rfl rfl rfl rfl rfl (List.all_eq_true.1 rfl) (idx_eq hu10).2 (Nat.le_of_ble_eq_true rfl) rfl ?_
      refine stell 23 (y := .s (.one (.ls 2 v3.length))) (.s (.one (.ls 2 (v3.set a1.toNat (GNetPacket.mk u10.Link u10.Up (v5.set ((wI ((a2.tmod (wI (8 * (v5.length : Int)))).tdiv 8)).toNat) (UInt8.ofBitVec (u7.toBitVec ^^^ ((1#8) <<< ((a2.tmod (wI (8 * (v5.length : Int)))).tmod 8).toNat)))))).length))) rfl (congrArg (fun n => AV.s (.one (.ls 2 n))) List.length_set.symm) ?_
      refine stell 26 (y := .s (.one (.ls 2 v3.length))) (.s (.one (.ls 2 (v3.set a1.toNat (GNetPacket.mk u10.Link u10.Up (v5.set ((wI ((a2.tmod (wI (8 * (v5.length : Int)))).tdiv 8)).toNat) (UInt8.ofBitVec (u7.toBitVec ^^^ ((1#8) <<< ((a2.tmod (wI (8 * (v5.length : Int)))).tmod 8).toNat)))))).length))) rfl (congrArg (fun n => AV.s (.one (.ls 2 n))) List.length_set.symm) ?_
      refine stell 48 (y := .s (.one (.ls 2 v3.length))) (.s (.one (.ls 2 (v3.set a1.toNat (GNetPacket.mk u10.Link u10.Up (v5.set ((wI ((a2.tmod (wI (8 * (v5.length : Int)))).tdiv 8)).toNat) (UInt8.ofBitVec (u7.toBitVec ^^^ ((1#8) <<< ((a2.tmod (wI (8 * (v5.length : Int)))).tmod 8).toNat)))))).length))) rfl (congrArg (fun n => AV.s (.one (.ls 2 n))) List.length_set.symm) ?_
      refine smem [.box [.sl a0.Links.length (a0.Links.flatMap eGNetLink), .ls 2 v3.length, .i .i64 a0.Next], .box [.raw (.slice none 0 0), .raw (.slice none 0 0), .i .i64 0], .arr 46 3 0 ((v3.set a1.toNat (GNetPacket.mk u10.Link u10.Up (v5.set ((wI ((a2.tmod (wI (8 * (v5.length : Int)))).tdiv 8)).toNat) (UInt8.ofBitVec (u7.toBitVec ^^^ ((1#8) <<< ((a2.tmod (wI (8 * (v5.length : Int)))).tmod 8).toNat)))))).flatMap eGNetPacket), .arr 5 1 ((v5.set ((wI ((a2.tmod (wI (8 * (v5.length : Int)))).tdiv 8)).toNat) (UInt8.ofBitVec (u7.toBitVec ^^^ ((1#8) <<< ((a2.tmod (wI (8 * (v5.length : Int)))).tmod 8).toNat)))).flatMap eU8).length ((v5.set ((wI ((a2.tmod (wI (8 * (v5.length : Int)))).tdiv 8)).toNat) (UInt8.ofBitVec (u7.toBitVec ^^^ ((1#8) <<< ((a2.tmod (wI (8 * (v5.length : Int)))).tmod 8).toNat)))).flatMap eU8)] rfl ?_
      refine smem [.box [.sl a0.Links.length (a0.Links.flatMap eGNetLink), .ls 2 (v3.set a1.toNat (GNetPacket.mk u10.Link u10.Up (v5.set ((wI ((a2.tmod (wI (8 * (v5.length : Int)))).tdiv 8)).toNat) (UInt8.ofBitVec (u7.toBitVec ^^^ ((1#8) <<< ((a2.tmod (wI (8 * (v5.length : Int)))).tmod 8).toNat)))))).length, .i .i64 a0.Next], .box [.raw (.slice none 0 0), .raw (.slice none 0 0), .i .i64 0], .arr 46 3 0 ((v3.set a1.toNat (GNetPacket.mk u10.Link u10.Up (v5.set ((wI ((a2.tmod (wI (8 * (v5.length : Int)))).tdiv 8)).toNat) (UInt8.ofBitVec (u7.toBitVec ^^^ ((1#8) <<< ((a2.tmod (wI (8 * (v5.length : Int)))).tmod 8).toNat)))))).flatMap eGNetPacket), .arr 5 1 ((v5.set ((wI ((a2.tmod (wI (8 * (v5.length : Int)))).tdiv 8)).toNat) (UInt8.ofBitVec (u7.toBitVec ^^^ ((1#8) <<< ((a2.tmod (wI (8 * (v5.length : Int)))).tmod 8).toNat)))).flatMap eU8).length ((v5.set ((wI ((a2.tmod (wI (8 * (v5.length : Int)))).tdiv 8)).toNat) (UInt8.ofBitVec (u7.toBitVec ^^^ ((1#8) <<< ((a2.tmod (wI (8 * (v5.length : Int)))).tmod 8).toNat)))).flatMap eU8)] (by rw [List.length_set]) ?_
      refine snil ?_
      refine cseq ?_
      refine cregion ?_
      refine sv rfl (opv_loadN ti32 rfl (.lp _ _ _ rfl) (Nat.le_of_ble_eq_true rfl)) ?_
      refine sstore sz32 rfl rfl rfl rfl (Nat.le_of_ble_eq_true rfl) ?_
      refine smem [.box [.sl a0.Links.length (a0.Links.flatMap eGNetLink), .ls 2 (v3.set a1.toNat (GNetPacket.mk u10.Link u10.Up (v5.set ((wI ((a2.tmod (wI (8 * (v5.length : Int)))).tdiv 8)).toNat) (UInt8.ofBitVec (u7.toBitVec ^^^ ((1#8) <<< ((a2.tmod (wI (8 * (v5.length : Int)))).tmod 8).toNat)))))).length, .i .i64 a0.Next], .box [.sl a0.Links.length (a0.Links.flatMap eGNetLink), .ls 2 (v3.set a1.toNat (GNetPacket.mk u10.Link u10.Up (v5.set ((wI ((a2.tmod (wI (8 * (v5.length : Int)))).tdiv 8)).toNat) (UInt8.ofBitVec (u7.toBitVec ^^^ ((1#8) <<< ((a2.tmod (wI (8 * (v5.length : Int)))).tmod 8).toNat)))))).length, .i .i64 a0.Next], .arr 46 3 0 ((v3.set a1.toNat (GNetPacket.mk u10.Link u10.Up (v5.set ((wI ((a2.tmod (wI (8 * (v5.length : Int)))).tdiv 8)).toNat) (UInt8.ofBitVec (u7.toBitVec ^^^ ((1#8) <<< ((a2.tmod (wI (8 * (v5.length : Int)))).tmod 8).toNat)))))).flatMap eGNetPacket), .arr 5 1 ((v5.set ((wI ((a2.tmod (wI (8 * (v5.length : Int)))).tdiv 8)).toNat) (UInt8.ofBitVec (u7.toBitVec ^^^ ((1#8) <<< ((a2.tmod (wI (8 * (v5.length : Int)))).tmod 8).toNat)))).flatMap eU8).length ((v5.set ((wI ((a2.tmod (wI (8 * (v5.length : Int)))).tdiv 8)).toNat) (UInt8.ofBitVec (u7.toBitVec ^^^ ((1#8) <<< ((a2.tmod (wI (8 * (v5.length : Int)))).tmod 8).toNat)))).flatMap eU8)] rfl ?_
      refine snil ?_
      refine cret ?_
      obtain rfl := Option.some.inj h
      refine ⟨Or.inr rfl, _, _, _, (resVs_cons (ResV.agg _ _ _ _ _ ti32 rfl (.lp _ _ _ rfl) (Nat.le_of_ble_eq_true rfl)) resVs_nil), (by (repeat' first | exact PubA.nil _ | apply PubA.cons | apply PubV.one | apply PubV.agg | exact PubL.nil | exact PubL.ls _ _ _ _ _ _ rfl (flat_len (f := eGNetPacket) (fun _ => rfl) _).symm | exact PubL.ls _ _ _ _ _ _ rfl (flat_len (f := eU8) (fun _ => rfl) _).symm | exact PubL.id _ rfl | exact PubLs.nil _ | apply PubLs.cons)), ?_⟩
      rfl
    · skip
      refine cregion ?_
      refine sv rfl (opv_loadN ti32 rfl (.lp _ _ _ rfl) (Nat.le_of_ble_eq_true rfl)) ?_
      refine sv rfl (opv_mv rfl) ?_
      obtain ⟨v11, hv11, h⟩ := bind_eq h
      refine scall1 rfl fn45 (opnds_cons rfl (opnds_cons rfl opnds_nil)) (pubA_id rfl) (m45_net_there_c hv11) ?_
      refine sv rfl (opv_not rfl) ?_
      refine sv rfl (opv_mv rfl) ?_
      refine ssplit 16 rfl (fun hc => ?_) (fun hc => ?_)
      · replace h := ite_t hc h
        clear hc
        refine soff rfl rfl rfl rfl ?_
        refine soff rfl rfl rfl rfl ?_
        refine sv rfl (opv_pick_t rfl rfl) ?_
        refine snil ?_
        refine ccond rfl (fun _ => ?_) (fun hx => Bool.noConfusion hx)
        refine cseq ?_
        refine cregion ?_
        refine sv rfl (opv_loadN ti32 rfl (.lp _ _ _ rfl) (Nat.le_of_ble_eq_true rfl)) ?_
        refine sstore sz32 rfl rfl rfl rfl (Nat.le_of_ble_eq_true rfl) ?_
        refine smem [.box a0, .box a0] rfl ?_
        refine snil ?_
        refine cret ?_
        refine then_ret ?_
        obtain rfl := Option.some.inj h
        refine ⟨Or.inr rfl, _, _, _, (resVs_cons (ResV.agg _ _ _ _ _ ti32 rfl (.lp _ _ _ rfl) (Nat.le_of_ble_eq_true rfl)) resVs_nil), (pubA_id rfl), ?_⟩
        rfl
      · replace h := ite_f hc h
        clear hc
        refine son rfl rfl rfl ?_
        refine sv rfl (opv_mv rfl) ?_
        refine son rfl rfl rfl ?_
        refine sv rfl (opv_lss rfl rfl) ?_
        refine sv rfl (opv_pick_f rfl rfl) ?_
        refine snil ?_
        refine ccond rfl (fun hc => ?_) (fun hc => ?_)
        · replace h := ite_t hc h
          clear hc
          refine cseq ?_
          refine cregion ?_
          refine sv rfl (opv_loadN ti32 rfl (.lp _ _ _ rfl) (Nat.le_of_ble_eq_true rfl)) ?_
          refine sstore sz32 rfl rfl rfl rfl (Nat.le_of_ble_eq_true rfl) ?_
          refine smem [.box a0, .box a0] rfl ?_
          refine snil ?_
          refine cret ?_
          refine then_ret ?_
          obtain rfl := Option.some.inj h
          refine ⟨Or.inr rfl, _, _, _, (resVs_cons (ResV.agg _ _ _ _ _ ti32 rfl (.lp _ _ _ rfl) (Nat.le_of_ble_eq_true rfl)) resVs_nil), (pubA_id rfl), ?_⟩
          rfl
        · replace h := ite_f hc h
          clear hc
          refine cskip ?_
          refine then_normal ?_
          exact ⟨(), _, h, ⟨rfl, rfl, rfl, rfl, trivial⟩, rfl⟩

def m29_r22_Flip_k7 (a0 : GR22Net) (a1 : Int) (a2 : Int) (u4 : GR22Packet) (b7 : (BitVec 8)) : Option GR22Net :=
  (idx (([] : List UInt8) ++ u4.Bytes) (wI ((a2.tmod (wI (8 * ((([] : List UInt8) ++ u4.Bytes).length : Int)))).tdiv 8))).bind fun u8 => (idx (([] : List UInt8) ++ u4.Bytes) (wI ((a2.tmod (wI (8 * ((([] : List UInt8) ++ u4.Bytes).length : Int)))).tdiv 8))).bind fun u9 => (idx (([] : List GR22Packet) ++ a0.Packets) a1).bind fun u10 => some (GR22Net.mk a0.Links ((([] : List GR22Packet) ++ a0.Packets).set a1.toNat (GR22Packet.mk u10.Link u10.Up ((([] : List UInt8) ++ u4.Bytes).set ((wI ((a2.tmod (wI (8 * ((([] : List UInt8) ++ u4.Bytes).length : Int)))).tdiv 8)).toNat) (UInt8.ofBitVec (u8.toBitVec ^^^ b7))))) a0.Next)

def m29_r22_Flip_s11 (a2 : Int) (u4 : GR22Packet) (s11 : (BitVec 8) × Int) : Option (LB ((BitVec 8) × Int) ((BitVec 8))) :=
  if (decide (s11.2 < ((a2.tmod (wI (8 * ((([] : List UInt8) ++ u4.Bytes).length : Int)))).tmod 8))) then (some (.cont ((s11.1 * (2#8)), (wI (s11.2 + 1))))) else (some (.brk s11.1))

def m29_r22_Flip_k2 (a0 : GR22Net) (a1 : Int) (a2 : Int) (b2 : Unit) : Option GR22Net :=
  if (([] : List GR22Packet).length + a0.Packets.length) * 40 ≤ 140737488355328 then ((idx (([] : List GR22Packet) ++ a0.Packets) a1).bind fun u4 => if (([] : List UInt8).length + u4.Bytes.length) * 1 ≤ 140737488355328 then (if (wI (8 * ((([] : List UInt8) ++ u4.Bytes).length : Int))) ≠ 0 then ((iterB (m29_r22_Flip_s11 a2 u4) fuel (1#8, 0)).bind fun e12 => m29_r22_Flip_k7 a0 a1 a2 u4 e12) else none) else none) else none
def m29_r22_Flip (a0 : GR22Net) (a1 : Int) (a2 : Int) : Option GR22Net :=
  (m31_r22_Sane a0).bind fun v1 => if (!v1) then (some (GR22Net.mk ([] : List GR22Link) ([] : List GR22Packet) 0)) else (if (decide (a1 < 0)) then (some a0) else (if (decide ((a0.Packets.length : Int) ≤ a1)) then (some a0) else (if (decide (a2 < 0)) then (some a0) else (m29_r22_Flip_k2 a0 a1 a2 ()))))

set_option maxRecDepth 100000 in
theorem m29_r22_Flip_c {a0 : GR22Net} {a1 : Int} {a2 : Int} {r : GR22Net} (h : m29_r22_Flip a0 a1 a2 = some r) : CallsA Try.prog 29 [.agg a0, .one (.i .i64 a1), .one (.i .i64 a2)] (· = .s (.agg r)) := by
  unfold m29_r22_Flip at h
  refine callsA_of Try.func29 rfl (nt := 76) rfl (Nat.le_of_ble_eq_true rfl) ?_
  intro w0 S0
  refine cseq ?_
  refine cregion ?_
  refine sbox rfl rfl ?_
  refine salloc rfl zi25 ?_
  refine snil ?_
  refine cseq ?_
  refine cseq ?_
  refine cregion ?_
  refine sv rfl (opv_loadN ti25 rfl (.lp _ _ _ rfl) (Nat.le_of_ble_eq_true rfl)) ?_
  obtain ⟨v1, hv1, h⟩ := bind_eq h
  refine scall1 rfl fn31 (opnds_cons rfl opnds_nil) (pubA_id rfl) (m31_r22_Sane_c hv1) ?_
  refine sv rfl (opv_not rfl) ?_
  refine snil ?_
  refine ccond rfl (fun hc => ?_) (fun hc => ?_)
  · replace h := ite_t hc h
    clear hc
    refine cseq ?_
    refine cregion ?_
    refine sv rfl (opv_build zi25 pi25 parts_nil (.nil _)) ?_
    refine sstore sz25 rfl rfl rfl rfl (Nat.le_of_ble_eq_true rfl) ?_
    refine smem [.box a0, .box [.raw (.slice none 0 0), .raw (.slice none 0 0), .i .i64 0]] rfl ?_
    refine snil ?_
    refine cret ?_
    refine then_ret ?_
    obtain rfl := Option.some.inj h
    refine ⟨Or.inr rfl, _, _, _, (resVs_cons (ResV.agg _ _ _ _ _ ti25 rfl (.lp _ _ _ rfl) (Nat.le_of_ble_eq_true rfl)) resVs_nil), (pubC rfl), ?_⟩
    rfl
  · replace h := ite_f hc h
    clear hc
    refine cskip ?_
    refine then_normal ?_
    refine cseq ?_
    refine cseq ?_
    refine cjoin3 (Unit) (fun b2 => [(1, .s (.one (.i .i64 a1))), (2, .s (.one (.i .i64 a2))), (3, .s (.one (.lp 0 0))), (6, .s (.one (.lp 1 0)))]) (fun b2 => [.box a0, .box [.raw (.slice none 0 0), .raw (.slice none 0 0), .i .i64 0]]) (fun b2 => m29_r22_Flip_k2 a0 a1 a2 b2 = some r) (fun _ _ => inbL_of rfl) (fun _ _ => blkinb_of rfl) (fun _ _ => Nat.le_of_ble_eq_true rfl) (fun b2 h => ?_) ?_
    · unfold m29_r22_Flip_k2 at h
      refine cseq ?_
      refine cregion ?_
      refine sbuild0 rfl Try.underlying23 ei49 ?_
      refine sv rfl (opv_fieldAddr_lp fi25_1 rfl) ?_
      refine sv rfl (opv_load1 ti23 rfl (.lp _ _ _ rfl) rfl) ?_
      obtain ⟨hb3, h⟩ := chk_eq h
      refine sapp (f := eGR22Packet) (xs := ([] : List GR22Packet)) (us := a0.Packets) rfl Try.underlying23 ei49 ni23 (fun _ => rfl) rfl rfl (.one _ _ _ _ (.id _ rfl)) rfl rfl rfl (.sl _ _ _ (flat_len (f := eGR22Packet) (fun _ => rfl) _)) rfl rfl hb3 (by decide) ?_
      refine sv rfl (opv_as rfl) ?_
      refine snil ?_
      refine cseq ?_
      refine cregion ?_
      refine sbuild0 rfl Try.underlying26 ei5 ?_
      refine sv rfl (opv_mv rfl) ?_
      refine sv rfl (opv_mv rfl) ?_
      obtain ⟨u4, hu4, h⟩ := bind_eq h
      refine sv rfl (opv_ixo (f := eGR22Packet) si23 (fun _ => rfl) rfl rfl rfl rfl rfl hu4) ?_
      refine sv rfl (opv_fieldAddr_ap fi49_2 rfl rfl (flat_len (f := eGR22Packet) (fun _ => rfl) _).symm) ?_
      refine sv rfl (opv_ld1o (f := eGR22Packet) 2 ti26 (fun _ => rfl) rfl rfl rfl rfl (idx_eq hu4).2 rfl) ?_
      obtain ⟨hb5, h⟩ := chk_eq h
      refine sapp (f := eU8) (xs := ([] : List UInt8)) (us := u4.Bytes) rfl Try.underlying26 ei5 ni26 (fun _ => rfl) rfl rfl (.one _ _ _ _ (.id _ rfl)) rfl rfl rfl (.sl _ _ _ (flat_len (f := eU8) (fun _ => rfl) _)) rfl rfl hb5 (by decide) ?_
      refine sv rfl (opv_as rfl) ?_
      refine snil ?_
      refine cseq ?_
      refine cregion ?_
      refine sv rfl (opv_mv rfl) ?_
      refine sv rfl (opv_mv rfl) ?_
      refine sv rfl (opv_len_ls si26 rfl rfl (flat_len (f := eU8) (fun _ => rfl) _).symm) ?_
      refine sv rfl (opv_mul rfl rfl) ?_
      obtain ⟨hz6, h⟩ := chk_eq h
      refine sv rfl (opv_rem rfl rfl hz6) ?_
      refine sv rfl (opv_as rfl) ?_
      refine snil ?_
      refine cseq ?_
      refine cregion ?_
      refine sv rfl (opv_as rfl) ?_
      refine snil ?_
      refine cseq ?_
      refine cseq ?_
      refine cregion ?_
      refine sv rfl (opv_as rfl) ?_
      refine snil ?_
      refine cjoin ((BitVec 8)) (fun b7 => [(1, .s (.one (.i .i64 a1))), (3, .s (.one (.lp 0 0))), (6, .s (.one (.lp 1 0))), (7, .s (.one (.ls 2 (([] : List GR22Packet) ++ a0.Packets).length))), (8, .s (.one (.ls 3 (([] : List UInt8) ++ u4.Bytes).length))), (9, .s (.one (.i .i64 (a2.tmod (wI (8 * ((([] : List UInt8) ++ u4.Bytes).length : Int))))))), (10, .s (.one (.i .u8 (b7.toNat : Int))))]) (fun b7 => [.box a0, .box [.raw (.slice none 0 0), .raw (.slice none 0 0), .i .i64 0], .arr 49 3 0 ((([] : List GR22Packet) ++ a0.Packets).flatMap eGR22Packet), .arr 5 1 0 ((([] : List UInt8) ++ u4.Bytes).flatMap eU8)]) (fun b7 => m29_r22_Flip_k7 a0 a1 a2 u4 b7 = some r) (fun _ _ => inbL_of rfl) (fun _ _ => blkinb_of rfl) (fun _ _ => Nat.le_of_ble_eq_true rfl) (fun b7 h => ?_) ?_
      · unfold m29_r22_Flip_k7 at h
        refine cseq ?_
        refine cregion ?_
        refine sv rfl (opv_mv rfl) ?_
        refine sv rfl (opv_mv rfl) ?_
        refine sv rfl (opv_quow rfl rfl (by decide)) ?_
        refine sv rfl (opv_mv rfl) ?_
        refine sv rfl (opv_mv rfl) ?_
        refine sv rfl (opv_quow rfl rfl (by decide)) ?_
        obtain ⟨u8, hu8, h⟩ := bind_eq h
        refine sv rfl (opv_ixo (f := eU8) si26 (fun _ => rfl) rfl rfl rfl rfl rfl hu8) ?_
        refine sv rfl (opv_ld1o (f := eU8) 0 ti5 (fun _ => rfl) rfl rfl rfl rfl (idx_eq hu8).2 rfl) ?_
        refine sv rfl (opv_mv rfl) ?_
        refine sv rfl (opv_xor_u8 (a := u8.toBitVec) (b := b7) rfl rfl rfl rfl) ?_
        obtain ⟨u9, hu9, h⟩ := bind_eq h
        refine sv rfl (opv_ixo (f := eU8) si26 (fun _ => rfl) rfl rfl rfl rfl rfl hu9) ?_
        refine sseto (f := eU8) (u' := (UInt8.ofBitVec (u8.toBitVec ^^^ b7))) (sz := 1) 0 sz5 (fun _ => rfl) rfl rfl rfl rfl rfl rfl rfl (List.all_eq_true.1 rfl) (idx_eq hu9).2 (Nat.le_of_ble_eq_true rfl) rfl ?_
        refine stell 8 (y := .s (.one (.ls 3 (([] : List UInt8) ++ u4.Bytes).length))) (.s (.one (.ls 3 ((([] : List UInt8) ++ u4.Bytes).set ((wI ((a2.tmod (wI (8 * ((([] : List UInt8) ++ u4.Bytes).length : Int)))).tdiv 8)).toNat) (UInt8.ofBitVec (u8.toBitVec ^^^ b7))).length))) rfl (congrArg (fun n => AV.s (.one (.ls 3 n))) List.length_set.symm) ?_
        refine stell 54 (y := .s (.one (.ls 3 (([] : List UInt8) ++ u4.Bytes).length))) (.s (.one (.ls 3 ((([] : List UInt8) ++ u4.Bytes).set ((wI ((a2.tmod (wI (8 * ((([] : List UInt8) ++ u4.Bytes).length : Int)))).tdiv 8)).toNat) (UInt8.ofBitVec (u8.toBitVec ^^^ b7))).length))) rfl (congrArg (fun n => AV.s (.one (.ls 3 n))) List.length_set.symm) ?_
        refine stell 57 (y := .s (.one (.ls 3 (([] : List UInt8) ++ u4.Bytes).length))) (.s (.one (.ls 3 ((([] : List UInt8) ++ u4.Bytes).set ((wI ((a2.tmod (wI (8 * ((([] : List UInt8) ++ u4.Bytes).length : Int)))).tdiv 8)).toNat) (UInt8.ofBitVec (u8.toBitVec ^^^ b7))).length))) rfl (congrArg (fun n => AV.s (.one (.ls 3 n))) List.length_set.symm) ?_
        refine snil ?_
        refine cseq ?_
        refine cregion ?_
        refine sv rfl (opv_mv rfl) ?_
        refine sv rfl (opv_mv rfl) ?_
        refine sv rfl (opv_mv rfl) ?_
        obtain ⟨u10, hu10, h⟩ := bind_eq h
        refine sv rfl (opv_ixo (f := eGR22Packet) si23 (fun _ => rfl) rfl rfl rfl rfl rfl hu10) ?_
        refine sv rfl (opv_fieldAddr_ap fi49_2 rfl rfl (flat_len (f := eGR22Packet) (fun _ => rfl) _).symm) ?_
        refine spub 67 rfl (by (repeat' first | exact PubA.nil _ | apply PubA.cons | apply PubV.one | apply PubV.agg | exact PubL.nil | exact PubL.ls _ _ _ _ _ _ rfl (flat_len (f := eGR22Packet) (fun _ => rfl) _).symm | exact PubL.ls _ _ _ _ _ _ rfl (flat_len (f := eU8) (fun _ => rfl) _).symm | exact PubL.id _ rfl | exact PubLs.nil _ | apply PubLs.cons)) ?_
        refine sseto (f := eGR22Packet) (u' := (GR22Packet.mk u10.Link u10.Up ((([] : List UInt8) ++ u4.Bytes).set ((wI ((a2.tmod (wI (8 * ((([] : List UInt8) ++ u4.Bytes).length : Int)))).tdiv 8)).toNat) (UInt8.ofBitVec (u8.toBitVec ^^^ b7))))) (sz := 3) 2 sz26 (fun _ => rfl) rfl rfl rfl rfl rfl rfl rfl (List.all_eq_true.1 rfl) (idx_eq hu10).2 (Nat.le_of_ble_eq_true rfl) rfl ?_
        refine stell 7 (y := .s (.one (.ls 2 (([] : List GR22Packet) ++ a0.Packets).length))) (.s (.one (.ls 2 ((([] : List GR22Packet) ++ a0.Packets).set a1.toNat (GR22Packet.mk u10.Link u10.Up ((([] : List UInt8) ++ u4.Bytes).set ((wI ((a2.tmod (wI (8 * ((([] : List UInt8) ++ u4.Bytes).length : Int)))).tdiv 8)).toNat) (UInt8.ofBitVec (u8.toBitVec ^^^ b7))))).length))) rfl (congrArg (fun n => AV.s (.one (.ls 2 n))) List.length_set.symm) ?_
        refine stell 65 (y := .s (.one (.ls 2 (([] : List GR22Packet) ++ a0.Packets).length))) (.s (.one (.ls 2 ((([] : List GR22Packet) ++ a0.Packets).set a1.toNat (GR22Packet.mk u10.Link u10.Up ((([] : List UInt8) ++ u4.Bytes).set ((wI ((a2.tmod (wI (8 * ((([] : List UInt8) ++ u4.Bytes).length : Int)))).tdiv 8)).toNat) (UInt8.ofBitVec (u8.toBitVec ^^^ b7))))).length))) rfl (congrArg (fun n => AV.s (.one (.ls 2 n))) List.length_set.symm) ?_
        refine snil ?_
        refine cseq ?_
        refine cregion ?_
        refine sv rfl (opv_fieldAddr_lp fi25_0 rfl) ?_
        refine sv rfl (opv_load1 ti22 rfl (.lp _ _ _ rfl) rfl) ?_
        refine sv rfl (opv_mv rfl) ?_
        refine sv rfl (opv_fieldAddr_lp fi25_2 rfl) ?_
        refine sv rfl (opv_load1 ti3 rfl (.lp _ _ _ rfl) rfl) ?_
        refine sv rfl (opv_build zi25 pi25 (parts_cons rfl (parts_cons rfl (parts_cons rfl parts_nil))) (.cons _ _ _ _ _ _ _ rfl rfl (Nat.le_of_ble_eq_true rfl) (.cons _ _ _ _ _ _ _ rfl rfl (Nat.le_of_ble_eq_true rfl) (.cons _ _ _ _ _ _ _ rfl rfl (Nat.le_of_ble_eq_true rfl) (.nil _))))) ?_
        refine sstore sz25 rfl rfl rfl rfl (Nat.le_of_ble_eq_true rfl) ?_
        refine smem [.box a0, .box [.sl a0.Links.length (a0.Links.flatMap eGR22Link), .ls 2 ((([] : List GR22Packet) ++ a0.Packets).set a1.toNat (GR22Packet.mk u10.Link u10.Up ((([] : List UInt8) ++ u4.Bytes).set ((wI ((a2.tmod (wI (8 * ((([] : List UInt8) ++ u4.Bytes).length : Int)))).tdiv 8)).toNat) (UInt8.ofBitVec (u8.toBitVec ^^^ b7))))).length, .i .i64 a0.Next], .arr 49 3 0 (((([] : List GR22Packet) ++ a0.Packets).set a1.toNat (GR22Packet.mk u10.Link u10.Up ((([] : List UInt8) ++ u4.Bytes).set ((wI ((a2.tmod (wI (8 * ((([] : List UInt8) ++ u4.Bytes).length : Int)))).tdiv 8)).toNat) (UInt8.ofBitVec (u8.toBitVec ^^^ b7))))).flatMap eGR22Packet), .arr 5 1 (((([] : List UInt8) ++ u4.Bytes).set ((wI ((a2.tmod (wI (8 * ((([] : List UInt8) ++ u4.Bytes).length : Int)))).tdiv 8)).toNat) (UInt8.ofBitVec (u8.toBitVec ^^^ b7))).flatMap eU8).length (((([] : List UInt8) ++ u4.Bytes).set ((wI ((a2.tmod (wI (8 * ((([] : List UInt8) ++ u4.Bytes).length : Int)))).tdiv 8)).toNat) (UInt8.ofBitVec (u8.toBitVec ^^^ b7))).flatMap eU8)] rfl ?_
        refine snil ?_
        refine cret ?_
        obtain rfl := Option.some.inj h
        refine ⟨Or.inr rfl, _, _, _, (resVs_cons (ResV.agg _ _ _ _ _ ti25 rfl (.lp _ _ _ rfl) (Nat.le_of_ble_eq_true rfl)) resVs_nil), (by (repeat' first | exact PubA.nil _ | apply PubA.cons | apply PubV.one | apply PubV.agg | exact PubL.nil | exact PubL.ls _ _ _ _ _ _ rfl (flat_len (f := eGR22Packet) (fun _ => rfl) _).symm | exact PubL.ls _ _ _ _ _ _ rfl (flat_len (f := eU8) (fun _ => rfl) _).symm | exact PubL.id _ rfl | exact PubLs.nil _ | apply PubLs.cons)), ?_⟩
        rfl
      · skip
        refine cblock ?_
        obtain ⟨x11, hx11, ho11⟩ := bind_eq h
        refine awc_loop (G := Nat × ((BitVec 8) × Int)) (fun g => [(1, .s (.one (.i .i64 a1))), (3, .s (.one (.lp 0 0))), (6, .s (.one (.lp 1 0))), (7, .s (.one (.ls 2 (([] : List GR22Packet) ++ a0.Packets).length))), (8, .s (.one (.ls 3 (([] : List UInt8) ++ u4.Bytes).length))), (9, .s (.one (.i .i64 (a2.tmod (wI (8 * ((([] : List UInt8) ++ u4.Bytes).length : Int))))))), (10, .s (.one (.i .u8 (g.2.1.toNat : Int)))), (11, .s (.one (.i .i64 g.2.2)))]) (fun g => [.box a0, .box [.raw (.slice none 0 0), .raw (.slice none 0 0), .i .i64 0], .arr 49 3 0 ((([] : List GR22Packet) ++ a0.Packets).flatMap eGR22Packet), .arr 5 1 0 ((([] : List UInt8) ++ u4.Bytes).flatMap eU8)]) (fun g => iterB (m29_r22_Flip_s11 a2 u4) g.1 g.2 = some x11) (fun g => g.1) (fuel, (1#8, 0)) hx11 ⟨rfl, rfl, rfl, rfl, rfl, rfl, rfl, rfl, trivial⟩ [] rfl (fun _ _ => inbL_of rfl) (fun _ _ => blkinb_of rfl) (fun _ _ => Nat.le_of_ble_eq_true rfl) ?_
        clear hx11 h
        rintro ⟨n11, s11⟩ h
        obtain ⟨n11, y11, rfl, h, hk11⟩ := iterB_eq h
        unfold m29_r22_Flip_s11 at h
        refine cseq ?_
        refine cseq ?_
        refine cregion ?_
        refine sv rfl (opv_mv rfl) ?_
        refine sv rfl (opv_mv rfl) ?_
        refine sv rfl (opv_rem rfl rfl (by decide)) ?_
        refine sv rfl (opv_lss rfl rfl) ?_
        refine snil ?_
        refine ccond rfl (fun hc => ?_) (fun hc => ?_)
        · replace h := ite_t hc h
          clear hc
          refine cskip ?_
          refine then_normal ?_
          refine cseq ?_
          refine cblock ?_
          refine cregion ?_
          refine sv rfl (opv_mv rfl) ?_
          refine sv rfl (opv_mul_u8 (a := s11.1) (b := 2#8) rfl rfl rfl rfl) ?_
          refine sv rfl (opv_as rfl) ?_
          refine snil0 ?_
          refine block_normal ?_
          refine then_normal ?_
          refine cregion ?_
          refine sv rfl (opv_mv rfl) ?_
          refine sv rfl (opv_add rfl rfl) ?_
          refine sv rfl (opv_as rfl) ?_
          refine snil ?_
          obtain rfl := Option.some.inj h
          exact ⟨(n11, ((s11.1 * (2#8)), (wI (s11.2 + 1)))), _, hk11, ⟨rfl, rfl, rfl, rfl, rfl, rfl, rfl, rfl, trivial⟩, rfl, Nat.lt_succ_self _⟩
        · replace h := ite_f hc h
          clear hc
          refine cexit ?_
          refine then_exit ?_
          refine then_exit ?_
          refine block_hit ?_
          refine then_normal ?_
          obtain rfl := Option.some.inj h
          obtain rfl : _ = x11 := hk11
          exact ⟨s11.1, _, ho11, ⟨rfl, rfl, rfl, rfl, rfl, rfl, rfl, trivial⟩, rfl⟩
    · skip
      refine cregion ?_
      refine sv rfl (opv_mv rfl) ?_
      refine sv rfl (opv_lss rfl rfl) ?_
      refine sv rfl (opv_mv rfl) ?_
      refine ssplit 18 rfl (fun hc => ?_) (fun hc => ?_)
      · replace h := ite_t hc h
        clear hc
        refine soff rfl rfl rfl rfl ?_
        refine soff rfl rfl rfl rfl ?_
        refine soff rfl rfl rfl rfl ?_
        refine soff rfl rfl rfl rfl ?_
        refine soff rfl rfl rfl rfl ?_
        refine sv rfl (opv_pick_t rfl rfl) ?_
        refine sv rfl (opv_mv rfl) ?_
        refine soff rfl rfl rfl rfl ?_
        refine soff rfl rfl rfl rfl ?_
        refine sv rfl (opv_pick_t rfl rfl) ?_
        refine snil ?_
        refine ccond rfl (fun _ => ?_) (fun hx => Bool.noConfusion hx)
        refine cseq ?_
        refine cregion ?_
        refine sv rfl (opv_loadN ti25 rfl (.lp _ _ _ rfl) (Nat.le_of_ble_eq_true rfl)) ?_
        refine sstore sz25 rfl rfl rfl rfl (Nat.le_of_ble_eq_true rfl) ?_
        refine smem [.box a0, .box a0] rfl ?_
        refine snil ?_
        refine cret ?_
        refine then_ret ?_
        obtain rfl := Option.some.inj h
        refine ⟨Or.inr rfl, _, _, _, (resVs_cons (ResV.agg _ _ _ _ _ ti25 rfl (.lp _ _ _ rfl) (Nat.le_of_ble_eq_true rfl)) resVs_nil), (pubA_id rfl), ?_⟩
        rfl
      · replace h := ite_f hc h
        clear hc
        refine son rfl rfl rfl ?_
        refine sv rfl (opv_mv rfl) ?_
        refine son rfl rfl rfl ?_
        refine sv rfl (opv_fieldAddr_lp fi25_1 rfl) ?_
        refine son rfl rfl rfl ?_
        refine sv rfl (opv_load1 ti23 rfl (.lp _ _ _ rfl) rfl) ?_
        refine son rfl rfl rfl ?_
        refine sv rfl (opv_len_sl si23 rfl) ?_
        refine son rfl rfl rfl ?_
        refine sv rfl (opv_geq rfl rfl) ?_
        refine sv rfl (opv_pick_f rfl rfl) ?_
        refine sv rfl (opv_mv rfl) ?_
        refine ssplit 25 rfl (fun hc => ?_) (fun hc => ?_)
        · replace h := ite_t hc h
          clear hc
          refine soff rfl rfl rfl rfl ?_
          refine soff rfl rfl rfl rfl ?_
          refine sv rfl (opv_pick_t rfl rfl) ?_
          refine snil ?_
          refine ccond rfl (fun _ => ?_) (fun hx => Bool.noConfusion hx)
          refine cseq ?_
          refine cregion ?_
          refine sv rfl (opv_loadN ti25 rfl (.lp _ _ _ rfl) (Nat.le_of_ble_eq_true rfl)) ?_
          refine sstore sz25 rfl rfl rfl rfl (Nat.le_of_ble_eq_true rfl) ?_
          refine smem [.box a0, .box a0] rfl ?_
          refine snil ?_
          refine cret ?_
          refine then_ret ?_
          obtain rfl := Option.some.inj h
          refine ⟨Or.inr rfl, _, _, _, (resVs_cons (ResV.agg _ _ _ _ _ ti25 rfl (.lp _ _ _ rfl) (Nat.le_of_ble_eq_true rfl)) resVs_nil), (pubA_id rfl), ?_⟩
          rfl
        · replace h := ite_f hc h
          clear hc
          refine son rfl rfl rfl ?_
          refine sv rfl (opv_mv rfl) ?_
          refine son rfl rfl rfl ?_
          refine sv rfl (opv_lss rfl rfl) ?_
          refine sv rfl (opv_pick_f rfl rfl) ?_
          refine snil ?_
          refine ccond rfl (fun hc => ?_) (fun hc => ?_)
          · replace h := ite_t hc h
            clear hc
            refine cseq ?_
            refine cregion ?_
            refine sv rfl (opv_loadN ti25 rfl (.lp _ _ _ rfl) (Nat.le_of_ble_eq_true rfl)) ?_
            refine sstore sz25 rfl rfl rfl rfl (Nat.le_of_ble_eq_true rfl) ?_
            refine smem [.box a0, .box a0] rfl ?_
            refine snil ?_
            refine cret ?_
            refine then_ret ?_
            obtain rfl := Option.some.inj h
            refine ⟨Or.inr rfl, _, _, _, (resVs_cons (ResV.agg _ _ _ _ _ ti25 rfl (.lp _ _ _ rfl) (Nat.le_of_ble_eq_true rfl)) resVs_nil), (pubA_id rfl), ?_⟩
            rfl
          · replace h := ite_f hc h
            clear hc
            refine cskip ?_
            refine then_normal ?_
            exact ⟨(), _, h, ⟨rfl, rfl, rfl, rfl, trivial⟩, rfl⟩

def m3_l22_NetIs_k13 (a0 : GR22Net) (a1 : Int) (a2 : Int) (a3 : Int) (a4 : Int) (v1 : Bool) (v3 : GNetNet) (b13 : Unit) : Option Bool :=
  if v1 then ((m23_l22_finds (GNetNet.mk v3.Links v3.Packets v3.Next) (GR22Net.mk a0.Links a0.Packets a0.Next) a3 a4).bind fun v14 => if v14 then ((m24_net_Drop (GNetNet.mk v3.Links v3.Packets v3.Next) a1).bind fun v15 => (m16_l22_theirs v15).bind fun v16 => (m25_r22_Drop a0 a1).bind fun v17 => (m15_r22_Same v16 v17).bind fun v18 => if v18 then ((m26_net_Cut (GNetNet.mk v3.Links v3.Packets v3.Next) a1).bind fun v19 => (m16_l22_theirs v19).bind fun v20 => (m27_r22_Cut a0 a1).bind fun v21 => (m15_r22_Same v20 v21).bind fun v22 => if v22 then ((m28_net_Flip (GNetNet.mk v3.Links v3.Packets v3.Next) a1 a2).bind fun v23 => (m16_l22_theirs v23).bind fun v24 => (m29_r22_Flip a0 a1 a2).bind fun v25 => (m15_r22_Same v24 v25).bind fun v26 => if v26 then ((m30_net_Sane (GNetNet.mk v3.Links v3.Packets v3.Next)).bind fun v27 => (m31_r22_Sane a0).bind fun v28 => if (v27 == v28) then ((m16_l22_theirs (GNetNet.mk v3.Links v3.Packets v3.Next)).bind fun v29 => (m15_r22_Same v29 a0).bind fun v30 => some v30) else (some false)) else (some false)) else (some false)) else (some false)) else (some false)) else (some false)

end Go.Proofs.Ythmibhmmbajcfaa.Abs
