/-
  t
-/
import Derived.Test.YtbmciegldpeaiaaT11b
namespace Go.Proofs.Ytbmciegldpeaiaa.Abs
open Go.RowKit Go.Proofs
def m25_r11_SameTx (a0 : GR11Tx) (a1 : GR11Tx) : Option Bool :=
  if (!decide (a0.ID = a1.ID)) then (some false) else (if (!decide (a0.Begin = a1.Begin)) then (some false) else (if (!decide (a0.End = a1.End)) then (some false) else (if (!decide (a0.State = a1.State)) then (some false) else (if (!(a0.In == a1.In)) then (some false) else (if (!(a0.Out == a1.Out)) then (some false) else (if (!(a0.RO == a1.RO)) then (some false) else (if (!decide ((a0.Keys.length : Int) = (a1.Keys.length : Int))) then (some false) else (m25_r11_SameTx_k1 a0 a1 ()))))))))

set_option maxRecDepth 100000 in
theorem m25_r11_SameTx_c {a0 : GR11Tx} {a1 : GR11Tx} {r : Bool} (h : m25_r11_SameTx a0 a1 = some r) : CallsA Try.prog 25 [.agg a0, .agg a1] (· = .s (.one (.b r))) := by
  unfold m25_r11_SameTx at h
  refine callsA_of Try.func25 rfl (nt := 82) rfl (Nat.le_of_ble_eq_true rfl) ?_
  intro w0 S0
  refine cseq ?_
  refine cregion ?_
  refine sbox rfl rfl ?_
  refine sbox rfl rfl ?_
  refine sv rfl (opv_as rfl) ?_
  refine snil ?_
  refine cseq ?_
  refine cseq ?_
  refine cjoin3 (Unit) (fun b1 => [(2, .s (.one (.lp 0 0))), (3, .s (.one (.lp 1 0)))]) (fun b1 => [.box a0, .box a1]) (fun b1 => m25_r11_SameTx_k1 a0 a1 b1 = some r) (fun _ _ => inbL_of rfl) (fun _ _ => blkinb_of rfl) (fun _ _ => Nat.le_of_ble_eq_true rfl) (fun b1 h => ?_) ?_
  · unfold m25_r11_SameTx_k1 at h
    refine cseq ?_
    refine cseq ?_
    refine cregion ?_
    refine sv rfl (opv_as rfl) ?_
    refine snil ?_
    refine cjoin (Unit) (fun b2 => []) (fun b2 => [.box a0, .box a1]) (fun b2 => m25_r11_SameTx_k2 b2 = some r) (fun _ _ => inbL_of rfl) (fun _ _ => blkinb_of rfl) (fun _ _ => Nat.le_of_ble_eq_true rfl) (fun b2 h => ?_) ?_
    · unfold m25_r11_SameTx_k2 at h
      refine cseq ?_
      refine cregion ?_
      refine sv rfl (opv_as rfl) ?_
      refine snil ?_
      refine cret ?_
      obtain rfl := Option.some.inj h
      refine ⟨Or.inr rfl, _, _, _, (resVs_cons (ResV.tmp _ _ rfl) resVs_nil), (pubA_id rfl), ?_⟩
      rfl
    · skip
      refine cblock ?_
      obtain ⟨x3, hx3, ho3⟩ := bind_eq h
      refine awc_loop (G := Nat × (Int)) (fun g => [(2, .s (.one (.lp 0 0))), (3, .s (.one (.lp 1 0))), (5, .s (.one (.i .i64 g.2)))]) (fun g => [.box a0, .box a1]) (fun g => iter (m25_r11_SameTx_s3 a0 a1) g.1 g.2 = some x3) (fun g => g.1) (fuel, 0) hx3 ⟨rfl, rfl, rfl, trivial⟩ [] rfl (fun _ _ => inbL_of rfl) (fun _ _ => blkinb_of rfl) (fun _ _ => Nat.le_of_ble_eq_true rfl) ?_
      clear hx3 h
      rintro ⟨n3, s3⟩ h
      obtain ⟨n3, y3, rfl, h, hk3⟩ := iter_eq h
      unfold m25_r11_SameTx_s3 at h
      refine cseq ?_
      refine cseq ?_
      refine cregion ?_
      refine sv rfl (opv_mv rfl) ?_
      refine sv rfl (opv_fieldAddr_lp fi46_7 rfl) ?_
      refine sv rfl (opv_load1 ti41 rfl (.lp _ _ _ rfl) rfl) ?_
      refine sv rfl (opv_len_sl si41 rfl) ?_
      refine sv rfl (opv_lss rfl rfl) ?_
      refine snil ?_
      refine ccond rfl (fun hc => ?_) (fun hc => ?_)
      · replace h := ite_t hc h
        clear hc
        refine cskip ?_
        refine then_normal ?_
        refine cseq ?_
        refine cblock ?_
        refine cseq ?_
        refine cdraw mixed (by kernel_rfl) ?_
        refine dv rfl (opv_fieldAddr_lp fi46_7 rfl) ?_
        refine dv rfl (opv_load1 ti41 rfl (.lp _ _ _ rfl) rfl) ?_
        refine dv rfl (opv_mv rfl) ?_
        obtain ⟨u4, hu4, h⟩ := bind_eq h
        refine dv rfl (opv_ix (f := (eL eU8)) si41 (fun _ => rfl) rfl rfl rfl rfl hu4) ?_
        refine dv rfl (opv_load1 ti38 rfl (.cp _) rfl) ?_
        refine dv rfl (opv_bs (l := u4) Try.underlying38 Try.underlying5 Try.underlying9 rfl rfl rfl) ?_
        refine dv rfl (opv_fieldAddr_lp fi46_7 rfl) ?_
        refine dv rfl (opv_load1 ti41 rfl (.lp _ _ _ rfl) rfl) ?_
        refine dv rfl (opv_mv rfl) ?_
        obtain ⟨u5, hu5, h⟩ := bind_eq h
        refine dv rfl (opv_ix (f := (eL eU8)) si41 (fun _ => rfl) rfl rfl rfl rfl hu5) ?_
        refine dv rfl (opv_load1 ti38 rfl (.cp _) rfl) ?_
        refine dv rfl (opv_bs (l := u5) Try.underlying38 Try.underlying5 Try.underlying9 rfl rfl rfl) ?_
        refine dv rfl (opv_sneq' rfl rfl) ?_
        refine dnil ?_
        refine then_normal ?_
        refine ccond rfl (fun hc => ?_) (fun hc => ?_)
        · replace h := ite_t hc h
          clear hc
          refine cseq ?_
          refine cregion ?_
          refine sv rfl (opv_as rfl) ?_
          refine snil ?_
          refine cret ?_
          refine block_ret ?_
          refine then_ret ?_
          refine then_ret ?_
          refine block_ret ?_
          refine then_ret ?_
          obtain rfl := Option.some.inj h
          obtain rfl : Sum.inl _ = x3 := hk3
          replace ho3 : some _ = some _ := ho3
          obtain rfl := Option.some.inj ho3
          refine ⟨Or.inr rfl, _, _, _, (resVs_cons (ResV.tmp _ _ rfl) resVs_nil), (pubA_id rfl), ?_⟩
          rfl
        · replace h := ite_f hc h
          clear hc
          refine cskip ?_
          refine block_normal ?_
          refine then_normal ?_
          refine cregion ?_
          refine sv rfl (opv_mv rfl) ?_
          refine sv rfl (opv_add rfl rfl) ?_
          refine sv rfl (opv_as rfl) ?_
          refine snil ?_
          obtain rfl := Option.some.inj h
          exact ⟨(n3, (wI (s3 + 1))), _, hk3, ⟨rfl, rfl, rfl, trivial⟩, rfl, Nat.lt_succ_self _⟩
      · replace h := ite_f hc h
        clear hc
        refine cexit ?_
        refine then_exit ?_
        refine then_exit ?_
        refine block_hit ?_
        refine then_normal ?_
        obtain rfl := Option.some.inj h
        obtain rfl : _ = x3 := hk3
        exact ⟨(), _, ho3, trivial, rfl⟩
  · skip
    refine cregion ?_
    refine sv rfl (opv_fieldAddr_lp fi46_0 rfl) ?_
    refine sv rfl (opv_load1 ti3 rfl (.lp _ _ _ rfl) rfl) ?_
    refine sv rfl (opv_fieldAddr_lp fi46_0 rfl) ?_
    refine sv rfl (opv_load1 ti3 rfl (.lp _ _ _ rfl) rfl) ?_
    refine sv rfl (opv_ineq rfl rfl) ?_
    refine sv rfl (opv_mv rfl) ?_
    refine ssplit 11 rfl (fun hc => ?_) (fun hc => ?_)
    · replace h := ite_t hc h
      clear hc
      refine soff rfl rfl rfl rfl ?_
      refine soff rfl rfl rfl rfl ?_
      refine soff rfl rfl rfl rfl ?_
      refine soff rfl rfl rfl rfl ?_
      refine soff rfl rfl rfl rfl ?_
      refine sv rfl (opv_pick_t rfl rfl) ?_
      refine sv rfl (opv_mv rfl) ?_
      refine soff rfl rfl rfl rfl ?_
      refine soff rfl rfl rfl rfl ?_
      refine soff rfl rfl rfl rfl ?_
      refine soff rfl rfl rfl rfl ?_
      refine soff rfl rfl rfl rfl ?_
      refine sv rfl (opv_pick_t rfl rfl) ?_
      refine sv rfl (opv_mv rfl) ?_
      refine soff rfl rfl rfl rfl ?_
      refine soff rfl rfl rfl rfl ?_
      refine soff rfl rfl rfl rfl ?_
      refine soff rfl rfl rfl rfl ?_
      refine soff rfl rfl rfl rfl ?_
      refine sv rfl (opv_pick_t rfl rfl) ?_
      refine sv rfl (opv_mv rfl) ?_
      refine soff rfl rfl rfl rfl ?_
      refine soff rfl rfl rfl rfl ?_
      refine soff rfl rfl rfl rfl ?_
      refine soff rfl rfl rfl rfl ?_
      refine soff rfl rfl rfl rfl ?_
      refine sv rfl (opv_pick_t rfl rfl) ?_
      refine sv rfl (opv_mv rfl) ?_
      refine soff rfl rfl rfl rfl ?_
      refine soff rfl rfl rfl rfl ?_
      refine soff rfl rfl rfl rfl ?_
      refine soff rfl rfl rfl rfl ?_
      refine soff rfl rfl rfl rfl ?_
      refine sv rfl (opv_pick_t rfl rfl) ?_
      refine sv rfl (opv_mv rfl) ?_
      refine soff rfl rfl rfl rfl ?_
      refine soff rfl rfl rfl rfl ?_
      refine soff rfl rfl rfl rfl ?_
      refine soff rfl rfl rfl rfl ?_
      refine soff rfl rfl rfl rfl ?_
      refine sv rfl (opv_pick_t rfl rfl) ?_
      refine sv rfl (opv_mv rfl) ?_
      refine soff rfl rfl rfl rfl ?_
      refine soff rfl rfl rfl rfl ?_
      refine soff rfl rfl rfl rfl ?_
      refine soff rfl rfl rfl rfl ?_
      refine soff rfl rfl rfl rfl ?_
      refine soff rfl rfl rfl rfl ?_
      refine soff rfl rfl rfl rfl ?_
      refine sv rfl (opv_pick_t rfl rfl) ?_
      refine snil ?_
      refine ccond rfl (fun _ => ?_) (fun hx => Bool.noConfusion hx)
      refine cseq ?_
      refine cregion ?_
      refine sv rfl (opv_as rfl) ?_
      refine snil ?_
      refine cret ?_
      refine then_ret ?_
      obtain rfl := Option.some.inj h
      refine ⟨Or.inr rfl, _, _, _, (resVs_cons (ResV.tmp _ _ rfl) resVs_nil), (pubA_id rfl), ?_⟩
      rfl
    · replace h := ite_f hc h
      clear hc
      refine son rfl rfl rfl ?_
      refine sv rfl (opv_fieldAddr_lp fi46_1 rfl) ?_
      refine son rfl rfl rfl ?_
      refine sv rfl (opv_load1 ti3 rfl (.lp _ _ _ rfl) rfl) ?_
      refine son rfl rfl rfl ?_
      refine sv rfl (opv_fieldAddr_lp fi46_1 rfl) ?_
      refine son rfl rfl rfl ?_
      refine sv rfl (opv_load1 ti3 rfl (.lp _ _ _ rfl) rfl) ?_
      refine son rfl rfl rfl ?_
      refine sv rfl (opv_ineq rfl rfl) ?_
      refine sv rfl (opv_pick_f rfl rfl) ?_
      refine sv rfl (opv_mv rfl) ?_
      refine ssplit 18 rfl (fun hc => ?_) (fun hc => ?_)
      · replace h := ite_t hc h
        clear hc
        refine soff rfl rfl rfl rfl ?_
        refine soff rfl rfl rfl rfl ?_
        refine soff rfl rfl rfl rfl ?_
        refine soff rfl rfl rfl rfl ?_
        refine soff rfl rfl rfl rfl ?_
        refine sv rfl (opv_pick_t rfl rfl) ?_
        refine sv rfl (opv_mv rfl) ?_
        refine soff rfl rfl rfl rfl ?_
        refine soff rfl rfl rfl rfl ?_
        refine soff rfl rfl rfl rfl ?_
        refine soff rfl rfl rfl rfl ?_
        refine soff rfl rfl rfl rfl ?_
        refine sv rfl (opv_pick_t rfl rfl) ?_
        refine sv rfl (opv_mv rfl) ?_
        refine soff rfl rfl rfl rfl ?_
        refine soff rfl rfl rfl rfl ?_
        refine soff rfl rfl rfl rfl ?_
        refine soff rfl rfl rfl rfl ?_
        refine soff rfl rfl rfl rfl ?_
        refine sv rfl (opv_pick_t rfl rfl) ?_
        refine sv rfl (opv_mv rfl) ?_
        refine soff rfl rfl rfl rfl ?_
        refine soff rfl rfl rfl rfl ?_
        refine soff rfl rfl rfl rfl ?_
        refine soff rfl rfl rfl rfl ?_
        refine soff rfl rfl rfl rfl ?_
        refine sv rfl (opv_pick_t rfl rfl) ?_
        refine sv rfl (opv_mv rfl) ?_
        refine soff rfl rfl rfl rfl ?_
        refine soff rfl rfl rfl rfl ?_
        refine soff rfl rfl rfl rfl ?_
        refine soff rfl rfl rfl rfl ?_
        refine soff rfl rfl rfl rfl ?_
        refine sv rfl (opv_pick_t rfl rfl) ?_
        refine sv rfl (opv_mv rfl) ?_
        refine soff rfl rfl rfl rfl ?_
        refine soff rfl rfl rfl rfl ?_
        refine soff rfl rfl rfl rfl ?_
        refine soff rfl rfl rfl rfl ?_
        refine soff rfl rfl rfl rfl ?_
        refine soff rfl rfl rfl rfl ?_
        refine soff rfl rfl rfl rfl ?_
        refine sv rfl (opv_pick_t rfl rfl) ?_
        refine snil ?_
        refine ccond rfl (fun _ => ?_) (fun hx => Bool.noConfusion hx)
        refine cseq ?_
        refine cregion ?_
        refine sv rfl (opv_as rfl) ?_
        refine snil ?_
        refine cret ?_
        refine then_ret ?_
        obtain rfl := Option.some.inj h
        refine ⟨Or.inr rfl, _, _, _, (resVs_cons (ResV.tmp _ _ rfl) resVs_nil), (pubA_id rfl), ?_⟩
        rfl
      · replace h := ite_f hc h
        clear hc
        refine son rfl rfl rfl ?_
        refine sv rfl (opv_fieldAddr_lp fi46_2 rfl) ?_
        refine son rfl rfl rfl ?_
        refine sv rfl (opv_load1 ti3 rfl (.lp _ _ _ rfl) rfl) ?_
        refine son rfl rfl rfl ?_
        refine sv rfl (opv_fieldAddr_lp fi46_2 rfl) ?_
        refine son rfl rfl rfl ?_
        refine sv rfl (opv_load1 ti3 rfl (.lp _ _ _ rfl) rfl) ?_
        refine son rfl rfl rfl ?_
        refine sv rfl (opv_ineq rfl rfl) ?_
        refine sv rfl (opv_pick_f rfl rfl) ?_
        refine sv rfl (opv_mv rfl) ?_
        refine ssplit 25 rfl (fun hc => ?_) (fun hc => ?_)
        · replace h := ite_t hc h
          clear hc
          refine soff rfl rfl rfl rfl ?_
          refine soff rfl rfl rfl rfl ?_
          refine soff rfl rfl rfl rfl ?_
          refine soff rfl rfl rfl rfl ?_
          refine soff rfl rfl rfl rfl ?_
          refine sv rfl (opv_pick_t rfl rfl) ?_
          refine sv rfl (opv_mv rfl) ?_
          refine soff rfl rfl rfl rfl ?_
          refine soff rfl rfl rfl rfl ?_
          refine soff rfl rfl rfl rfl ?_
          refine soff rfl rfl rfl rfl ?_
          refine soff rfl rfl rfl rfl ?_
          refine sv rfl (opv_pick_t rfl rfl) ?_
          refine sv rfl (opv_mv rfl) ?_
          refine soff rfl rfl rfl rfl ?_
          refine soff rfl rfl rfl rfl ?_
          refine soff rfl rfl rfl rfl ?_
          refine soff rfl rfl rfl rfl ?_
          refine soff rfl rfl rfl rfl ?_
          refine sv rfl (opv_pick_t rfl rfl) ?_
          refine sv rfl (opv_mv rfl) ?_
          refine soff rfl rfl rfl rfl ?_
          refine soff rfl rfl rfl rfl ?_
          refine soff rfl rfl rfl rfl ?_
          refine soff rfl rfl rfl rfl ?_
          refine soff rfl rfl rfl rfl ?_
          refine sv rfl (opv_pick_t rfl rfl) ?_
          refine sv rfl (opv_mv rfl) ?_
          refine soff rfl rfl rfl rfl ?_
          refine soff rfl rfl rfl rfl ?_
          refine soff rfl rfl rfl rfl ?_
          refine soff rfl rfl rfl rfl ?_
          refine soff rfl rfl rfl rfl ?_
          refine soff rfl rfl rfl rfl ?_
          refine soff rfl rfl rfl rfl ?_
          refine sv rfl (opv_pick_t rfl rfl) ?_
          refine snil ?_
          refine ccond rfl (fun _ => ?_) (fun hx => Bool.noConfusion hx)
          refine cseq ?_
          refine cregion ?_
          refine sv rfl (opv_as rfl) ?_
          refine snil ?_
          refine cret ?_
          refine then_ret ?_
          obtain rfl := Option.some.inj h
          refine ⟨Or.inr rfl, _, _, _, (resVs_cons (ResV.tmp _ _ rfl) resVs_nil), (pubA_id rfl), ?_⟩
          rfl
        · replace h := ite_f hc h
          clear hc
          refine son rfl rfl rfl ?_
          refine sv rfl (opv_fieldAddr_lp fi46_3 rfl) ?_
          refine son rfl rfl rfl ?_
          refine sv rfl (opv_load1 ti3 rfl (.lp _ _ _ rfl) rfl) ?_
          refine son rfl rfl rfl ?_
          refine sv rfl (opv_fieldAddr_lp fi46_3 rfl) ?_
          refine son rfl rfl rfl ?_
          refine sv rfl (opv_load1 ti3 rfl (.lp _ _ _ rfl) rfl) ?_
          refine son rfl rfl rfl ?_
          refine sv rfl (opv_ineq rfl rfl) ?_
          refine sv rfl (opv_pick_f rfl rfl) ?_
          refine sv rfl (opv_mv rfl) ?_
          refine ssplit 32 rfl (fun hc => ?_) (fun hc => ?_)
          · replace h := ite_t hc h
            clear hc
            refine soff rfl rfl rfl rfl ?_
            refine soff rfl rfl rfl rfl ?_
            refine soff rfl rfl rfl rfl ?_
            refine soff rfl rfl rfl rfl ?_
            refine soff rfl rfl rfl rfl ?_
            refine sv rfl (opv_pick_t rfl rfl) ?_
            refine sv rfl (opv_mv rfl) ?_
            refine soff rfl rfl rfl rfl ?_
            refine soff rfl rfl rfl rfl ?_
            refine soff rfl rfl rfl rfl ?_
            refine soff rfl rfl rfl rfl ?_
            refine soff rfl rfl rfl rfl ?_
            refine sv rfl (opv_pick_t rfl rfl) ?_
            refine sv rfl (opv_mv rfl) ?_
            refine soff rfl rfl rfl rfl ?_
            refine soff rfl rfl rfl rfl ?_
            refine soff rfl rfl rfl rfl ?_
            refine soff rfl rfl rfl rfl ?_
            refine soff rfl rfl rfl rfl ?_
            refine sv rfl (opv_pick_t rfl rfl) ?_
            refine sv rfl (opv_mv rfl) ?_
            refine soff rfl rfl rfl rfl ?_
            refine soff rfl rfl rfl rfl ?_
            refine soff rfl rfl rfl rfl ?_
            refine soff rfl rfl rfl rfl ?_
            refine soff rfl rfl rfl rfl ?_
            refine soff rfl rfl rfl rfl ?_
            refine soff rfl rfl rfl rfl ?_
            refine sv rfl (opv_pick_t rfl rfl) ?_
            refine snil ?_
            refine ccond rfl (fun _ => ?_) (fun hx => Bool.noConfusion hx)
            refine cseq ?_
            refine cregion ?_
            refine sv rfl (opv_as rfl) ?_
            refine snil ?_
            refine cret ?_
            refine then_ret ?_
            obtain rfl := Option.some.inj h
            refine ⟨Or.inr rfl, _, _, _, (resVs_cons (ResV.tmp _ _ rfl) resVs_nil), (pubA_id rfl), ?_⟩
            rfl
          · replace h := ite_f hc h
            clear hc
            refine son rfl rfl rfl ?_
            refine sv rfl (opv_fieldAddr_lp fi46_4 rfl) ?_
            refine son rfl rfl rfl ?_
            refine sv rfl (opv_load1 ti4 rfl (.lp _ _ _ rfl) rfl) ?_
            refine son rfl rfl rfl ?_
            refine sv rfl (opv_fieldAddr_lp fi46_4 rfl) ?_
            refine son rfl rfl rfl ?_
            refine sv rfl (opv_load1 ti4 rfl (.lp _ _ _ rfl) rfl) ?_
            refine son rfl rfl rfl ?_
            refine sv rfl (opv_bneq Try.underlying4 rfl rfl) ?_
            refine sv rfl (opv_pick_f rfl rfl) ?_
            refine sv rfl (opv_mv rfl) ?_
            refine ssplit 39 rfl (fun hc => ?_) (fun hc => ?_)
            · replace h := ite_t hc h
              clear hc
              refine soff rfl rfl rfl rfl ?_
              refine soff rfl rfl rfl rfl ?_
              refine soff rfl rfl rfl rfl ?_
              refine soff rfl rfl rfl rfl ?_
              refine soff rfl rfl rfl rfl ?_
              refine sv rfl (opv_pick_t rfl rfl) ?_
              refine sv rfl (opv_mv rfl) ?_
              refine soff rfl rfl rfl rfl ?_
              refine soff rfl rfl rfl rfl ?_
              refine soff rfl rfl rfl rfl ?_
              refine soff rfl rfl rfl rfl ?_
              refine soff rfl rfl rfl rfl ?_
              refine sv rfl (opv_pick_t rfl rfl) ?_
              refine sv rfl (opv_mv rfl) ?_
              refine soff rfl rfl rfl rfl ?_
              refine soff rfl rfl rfl rfl ?_
              refine soff rfl rfl rfl rfl ?_
              refine soff rfl rfl rfl rfl ?_
              refine soff rfl rfl rfl rfl ?_
              refine soff rfl rfl rfl rfl ?_
              refine soff rfl rfl rfl rfl ?_
              refine sv rfl (opv_pick_t rfl rfl) ?_
              refine snil ?_
              refine ccond rfl (fun _ => ?_) (fun hx => Bool.noConfusion hx)
              refine cseq ?_
              refine cregion ?_
              refine sv rfl (opv_as rfl) ?_
              refine snil ?_
              refine cret ?_
              refine then_ret ?_
              obtain rfl := Option.some.inj h
              refine ⟨Or.inr rfl, _, _, _, (resVs_cons (ResV.tmp _ _ rfl) resVs_nil), (pubA_id rfl), ?_⟩
              rfl
            · replace h := ite_f hc h
              clear hc
              refine son rfl rfl rfl ?_
              refine sv rfl (opv_fieldAddr_lp fi46_5 rfl) ?_
              refine son rfl rfl rfl ?_
              refine sv rfl (opv_load1 ti4 rfl (.lp _ _ _ rfl) rfl) ?_
              refine son rfl rfl rfl ?_
              refine sv rfl (opv_fieldAddr_lp fi46_5 rfl) ?_
              refine son rfl rfl rfl ?_
              refine sv rfl (opv_load1 ti4 rfl (.lp _ _ _ rfl) rfl) ?_
              refine son rfl rfl rfl ?_
              refine sv rfl (opv_bneq Try.underlying4 rfl rfl) ?_
              refine sv rfl (opv_pick_f rfl rfl) ?_
              refine sv rfl (opv_mv rfl) ?_
              refine ssplit 46 rfl (fun hc => ?_) (fun hc => ?_)
              · replace h := ite_t hc h
                clear hc
                refine soff rfl rfl rfl rfl ?_
                refine soff rfl rfl rfl rfl ?_
                refine soff rfl rfl rfl rfl ?_
                refine soff rfl rfl rfl rfl ?_
                refine soff rfl rfl rfl rfl ?_
                refine sv rfl (opv_pick_t rfl rfl) ?_
                refine sv rfl (opv_mv rfl) ?_
                refine soff rfl rfl rfl rfl ?_
                refine soff rfl rfl rfl rfl ?_
                refine soff rfl rfl rfl rfl ?_
                refine soff rfl rfl rfl rfl ?_
                refine soff rfl rfl rfl rfl ?_
                refine soff rfl rfl rfl rfl ?_
                refine soff rfl rfl rfl rfl ?_
                refine sv rfl (opv_pick_t rfl rfl) ?_
                refine snil ?_
                refine ccond rfl (fun _ => ?_) (fun hx => Bool.noConfusion hx)
                refine cseq ?_
                refine cregion ?_
                refine sv rfl (opv_as rfl) ?_
                refine snil ?_
                refine cret ?_
                refine then_ret ?_
                obtain rfl := Option.some.inj h
                refine ⟨Or.inr rfl, _, _, _, (resVs_cons (ResV.tmp _ _ rfl) resVs_nil), (pubA_id rfl), ?_⟩
                rfl
              · replace h := ite_f hc h
                clear hc
                refine son rfl rfl rfl ?_
                refine sv rfl (opv_fieldAddr_lp fi46_6 rfl) ?_
                refine son rfl rfl rfl ?_
                refine sv rfl (opv_load1 ti4 rfl (.lp _ _ _ rfl) rfl) ?_
                refine son rfl rfl rfl ?_
                refine sv rfl (opv_fieldAddr_lp fi46_6 rfl) ?_
                refine son rfl rfl rfl ?_
                refine sv rfl (opv_load1 ti4 rfl (.lp _ _ _ rfl) rfl) ?_
                refine son rfl rfl rfl ?_
                refine sv rfl (opv_bneq Try.underlying4 rfl rfl) ?_
                refine sv rfl (opv_pick_f rfl rfl) ?_
                refine sv rfl (opv_mv rfl) ?_
                refine ssplit 53 rfl (fun hc => ?_) (fun hc => ?_)
                · replace h := ite_t hc h
                  clear hc
                  refine soff rfl rfl rfl rfl ?_
                  refine soff rfl rfl rfl rfl ?_
                  refine soff rfl rfl rfl rfl ?_
                  refine soff rfl rfl rfl rfl ?_
                  refine soff rfl rfl rfl rfl ?_
                  refine soff rfl rfl rfl rfl ?_
                  refine soff rfl rfl rfl rfl ?_
                  refine sv rfl (opv_pick_t rfl rfl) ?_
                  refine snil ?_
                  refine ccond rfl (fun _ => ?_) (fun hx => Bool.noConfusion hx)
                  refine cseq ?_
                  refine cregion ?_
                  refine sv rfl (opv_as rfl) ?_
                  refine snil ?_
                  refine cret ?_
                  refine then_ret ?_
                  obtain rfl := Option.some.inj h
                  refine ⟨Or.inr rfl, _, _, _, (resVs_cons (ResV.tmp _ _ rfl) resVs_nil), (pubA_id rfl), ?_⟩
                  rfl
                · replace h := ite_f hc h
                  clear hc
                  refine son rfl rfl rfl ?_
                  refine sv rfl (opv_fieldAddr_lp fi46_7 rfl) ?_
                  refine son rfl rfl rfl ?_
                  refine sv rfl (opv_load1 ti41 rfl (.lp _ _ _ rfl) rfl) ?_
                  refine son rfl rfl rfl ?_
                  refine sv rfl (opv_len_sl si41 rfl) ?_
                  refine son rfl rfl rfl ?_
                  refine sv rfl (opv_fieldAddr_lp fi46_7 rfl) ?_
                  refine son rfl rfl rfl ?_
                  refine sv rfl (opv_load1 ti41 rfl (.lp _ _ _ rfl) rfl) ?_
                  refine son rfl rfl rfl ?_
                  refine sv rfl (opv_len_sl si41 rfl) ?_
                  refine son rfl rfl rfl ?_
                  refine sv rfl (opv_ineq rfl rfl) ?_
                  refine sv rfl (opv_pick_f rfl rfl) ?_
                  refine snil ?_
                  refine ccond rfl (fun hc => ?_) (fun hc => ?_)
                  · replace h := ite_t hc h
                    clear hc
                    refine cseq ?_
                    refine cregion ?_
                    refine sv rfl (opv_as rfl) ?_
                    refine snil ?_
                    refine cret ?_
                    refine then_ret ?_
                    obtain rfl := Option.some.inj h
                    refine ⟨Or.inr rfl, _, _, _, (resVs_cons (ResV.tmp _ _ rfl) resVs_nil), (pubA_id rfl), ?_⟩
                    rfl
                  · replace h := ite_f hc h
                    clear hc
                    refine cskip ?_
                    refine then_normal ?_
                    exact ⟨(), _, h, ⟨rfl, rfl, trivial⟩, rfl⟩

def m22_r11_Same_k2 (b2 : Unit) : Option Bool :=
  some true

def m22_r11_Same_s3 (a0 : GR11Cert) (a1 : GR11Cert) (s3 : Int) : Option (LR (Int) (Unit) (Bool)) :=
  if (decide (s3 < (a0.Txs.length : Int))) then ((idx a0.Txs s3).bind fun u4 => (idx a1.Txs s3).bind fun u5 => (m25_r11_SameTx u4 u5).bind fun v6 => if (!v6) then (some (.ret false)) else (some (.cont (wI (s3 + 1))))) else (some (.brk ()))

def m22_r11_Same_k1 (a0 : GR11Cert) (a1 : GR11Cert) (b1 : Unit) : Option Bool :=
  (iter (m22_r11_Same_s3 a0 a1) fuel 0).bind fun x => match x with | .inl r => some r | .inr e7 => m22_r11_Same_k2 e7
def m22_r11_Same (a0 : GR11Cert) (a1 : GR11Cert) : Option Bool :=
  if (!decide ((a0.Txs.length : Int) = (a1.Txs.length : Int))) then (some false) else ((m27_r10_Same (GR10Table.mk a0.Reads.L) (GR10Table.mk a1.Reads.L)).bind fun v8 => if (!v8) then (some false) else (m22_r11_Same_k1 a0 a1 ()))

set_option maxRecDepth 100000 in
theorem m22_r11_Same_c {a0 : GR11Cert} {a1 : GR11Cert} {r : Bool} (h : m22_r11_Same a0 a1 = some r) : CallsA Try.prog 22 [.agg a0, .agg a1] (· = .s (.one (.b r))) := by
  unfold m22_r11_Same at h
  refine callsA_of Try.func22 rfl (nt := 40) rfl (Nat.le_of_ble_eq_true rfl) ?_
  intro w0 S0
  refine cseq ?_
  refine cregion ?_
  refine sbox rfl rfl ?_
  refine sbox rfl rfl ?_
  refine sv rfl (opv_as rfl) ?_
  refine snil ?_
  refine cseq ?_
  refine cseq ?_
  refine cjoin3 (Unit) (fun b1 => [(2, .s (.one (.lp 0 0))), (3, .s (.one (.lp 1 0)))]) (fun b1 => [.box a0, .box a1]) (fun b1 => m22_r11_Same_k1 a0 a1 b1 = some r) (fun _ _ => inbL_of rfl) (fun _ _ => blkinb_of rfl) (fun _ _ => Nat.le_of_ble_eq_true rfl) (fun b1 h => ?_) ?_
  · unfold m22_r11_Same_k1 at h
    refine cseq ?_
    refine cseq ?_
    refine cregion ?_
    refine sv rfl (opv_as rfl) ?_
    refine snil ?_
    refine cjoin (Unit) (fun b2 => []) (fun b2 => [.box a0, .box a1]) (fun b2 => m22_r11_Same_k2 b2 = some r) (fun _ _ => inbL_of rfl) (fun _ _ => blkinb_of rfl) (fun _ _ => Nat.le_of_ble_eq_true rfl) (fun b2 h => ?_) ?_
    · unfold m22_r11_Same_k2 at h
      refine cseq ?_
      refine cregion ?_
      refine sv rfl (opv_as rfl) ?_
      refine snil ?_
      refine cret ?_
      obtain rfl := Option.some.inj h
      refine ⟨Or.inr rfl, _, _, _, (resVs_cons (ResV.tmp _ _ rfl) resVs_nil), (pubA_id rfl), ?_⟩
      rfl
    · skip
      refine cblock ?_
      obtain ⟨x3, hx3, ho3⟩ := bind_eq h
      refine awc_loop (G := Nat × (Int)) (fun g => [(2, .s (.one (.lp 0 0))), (3, .s (.one (.lp 1 0))), (5, .s (.one (.i .i64 g.2)))]) (fun g => [.box a0, .box a1]) (fun g => iter (m22_r11_Same_s3 a0 a1) g.1 g.2 = some x3) (fun g => g.1) (fuel, 0) hx3 ⟨rfl, rfl, rfl, trivial⟩ [] rfl (fun _ _ => inbL_of rfl) (fun _ _ => blkinb_of rfl) (fun _ _ => Nat.le_of_ble_eq_true rfl) ?_
      clear hx3 h
      rintro ⟨n3, s3⟩ h
      obtain ⟨n3, y3, rfl, h, hk3⟩ := iter_eq h
      unfold m22_r11_Same_s3 at h
      refine cseq ?_
      refine cseq ?_
      refine cregion ?_
      refine sv rfl (opv_mv rfl) ?_
      refine sv rfl (opv_fieldAddr_lp fi63_0 rfl) ?_
      refine sv rfl (opv_load1 ti33 rfl (.lp _ _ _ rfl) rfl) ?_
      refine sv rfl (opv_len_sl si33 rfl) ?_
      refine sv rfl (opv_lss rfl rfl) ?_
      refine snil ?_
      refine ccond rfl (fun hc => ?_) (fun hc => ?_)
      · replace h := ite_t hc h
        clear hc
        refine cskip ?_
        refine then_normal ?_
        refine cseq ?_
        refine cblock ?_
        refine cseq ?_
        refine cdraw mixed (by kernel_rfl) ?_
        refine dv rfl (opv_fieldAddr_lp fi63_0 rfl) ?_
        refine dv rfl (opv_load1 ti33 rfl (.lp _ _ _ rfl) rfl) ?_
        refine dv rfl (opv_mv rfl) ?_
        obtain ⟨u4, hu4, h⟩ := bind_eq h
        refine dv rfl (opv_ix (f := eGR11Tx) si33 (fun _ => rfl) rfl rfl rfl rfl hu4) ?_
        refine dv rfl (opv_loadNe (ys := [.i .i64 u4.ID, .i .i64 u4.Begin, .i .i64 u4.End, .i .i64 u4.State, .b u4.In, .b u4.Out, .b u4.RO, .sl u4.Keys.length (u4.Keys.flatMap (eL eU8))]) ti46 rfl (.cp _) rfl rfl) ?_
        refine dv rfl (opv_fieldAddr_lp fi63_0 rfl) ?_
        refine dv rfl (opv_load1 ti33 rfl (.lp _ _ _ rfl) rfl) ?_
        refine dv rfl (opv_mv rfl) ?_
        obtain ⟨u5, hu5, h⟩ := bind_eq h
        refine dv rfl (opv_ix (f := eGR11Tx) si33 (fun _ => rfl) rfl rfl rfl rfl hu5) ?_
        refine dv rfl (opv_loadNe (ys := [.i .i64 u5.ID, .i .i64 u5.Begin, .i .i64 u5.End, .i .i64 u5.State, .b u5.In, .b u5.Out, .b u5.RO, .sl u5.Keys.length (u5.Keys.flatMap (eL eU8))]) ti46 rfl (.cp _) rfl rfl) ?_
        obtain ⟨v6, hv6, h⟩ := bind_eq h
        refine dd rfl (opD_call fn25 (opnds_cons rfl (opnds_cons rfl opnds_nil)) rfl (m25_r11_SameTx_c hv6)) ?_
        refine dv rfl (opv_not rfl) ?_
        refine dnil ?_
        refine then_normal ?_
        refine ccond rfl (fun hc => ?_) (fun hc => ?_)
        · replace h := ite_t hc h
          clear hc
          refine cseq ?_
          refine cregion ?_
          refine sv rfl (opv_as rfl) ?_
          refine snil ?_
          refine cret ?_
          refine block_ret ?_
          refine then_ret ?_
          refine then_ret ?_
          refine block_ret ?_
          refine then_ret ?_
          obtain rfl := Option.some.inj h
          obtain rfl : Sum.inl _ = x3 := hk3
          replace ho3 : some _ = some _ := ho3
          obtain rfl := Option.some.inj ho3
          refine ⟨Or.inr rfl, _, _, _, (resVs_cons (ResV.tmp _ _ rfl) resVs_nil), (pubA_id rfl), ?_⟩
          rfl
        · replace h := ite_f hc h
          clear hc
          refine cskip ?_
          refine block_normal ?_
          refine then_normal ?_
          refine cregion ?_
          refine sv rfl (opv_mv rfl) ?_
          refine sv rfl (opv_add rfl rfl) ?_
          refine sv rfl (opv_as rfl) ?_
          refine snil ?_
          obtain rfl := Option.some.inj h
          exact ⟨(n3, (wI (s3 + 1))), _, hk3, ⟨rfl, rfl, rfl, trivial⟩, rfl, Nat.lt_succ_self _⟩
      · replace h := ite_f hc h
        clear hc
        refine cexit ?_
        refine then_exit ?_
        refine then_exit ?_
        refine block_hit ?_
        refine then_normal ?_
        obtain rfl := Option.some.inj h
        obtain rfl : _ = x3 := hk3
        exact ⟨(), _, ho3, trivial, rfl⟩
  · skip
    refine cregion ?_
    refine sv rfl (opv_fieldAddr_lp fi63_0 rfl) ?_
    refine sv rfl (opv_load1 ti33 rfl (.lp _ _ _ rfl) rfl) ?_
    refine sv rfl (opv_len_sl si33 rfl) ?_
    refine sv rfl (opv_fieldAddr_lp fi63_0 rfl) ?_
    refine sv rfl (opv_load1 ti33 rfl (.lp _ _ _ rfl) rfl) ?_
    refine sv rfl (opv_len_sl si33 rfl) ?_
    refine sv rfl (opv_ineq rfl rfl) ?_
    refine sv rfl (opv_mv rfl) ?_
    refine ssplit 13 rfl (fun hc => ?_) (fun hc => ?_)
    · replace h := ite_t hc h
      clear hc
      refine soff rfl rfl rfl rfl ?_
      refine soff rfl rfl rfl rfl ?_
      refine soff rfl rfl rfl rfl ?_
      refine soff rfl rfl rfl rfl ?_
      refine soff rfl rfl rfl rfl ?_
      refine soff rfl rfl rfl rfl ?_
      refine sv rfl (opv_pick_t rfl rfl) ?_
      refine snil ?_
      refine ccond rfl (fun _ => ?_) (fun hx => Bool.noConfusion hx)
      refine cseq ?_
      refine cregion ?_
      refine sv rfl (opv_as rfl) ?_
      refine snil ?_
      refine cret ?_
      refine then_ret ?_
      obtain rfl := Option.some.inj h
      refine ⟨Or.inr rfl, _, _, _, (resVs_cons (ResV.tmp _ _ rfl) resVs_nil), (pubA_id rfl), ?_⟩
      rfl
    · replace h := ite_f hc h
      clear hc
      refine son rfl rfl rfl ?_
      refine sv rfl (opv_fieldAddr_lp fi63_1 rfl) ?_
      refine son rfl rfl rfl ?_
      refine sv rfl (opv_loadN ti61 rfl (.lp _ _ _ rfl) (Nat.le_of_ble_eq_true rfl)) ?_
      refine son rfl rfl rfl ?_
      refine sv rfl (opv_fieldAddr_lp fi63_1 rfl) ?_
      refine son rfl rfl rfl ?_
      refine sv rfl (opv_loadN ti61 rfl (.lp _ _ _ rfl) (Nat.le_of_ble_eq_true rfl)) ?_
      refine son rfl rfl rfl ?_
      obtain ⟨v8, hv8, h⟩ := bind_eq h
      refine scall1 rfl fn27 (opnds_cons rfl (opnds_cons rfl opnds_nil)) (pubA_id rfl) (m27_r10_Same_c hv8) ?_
      refine son rfl rfl rfl ?_
      refine sv rfl (opv_not rfl) ?_
      refine sv rfl (opv_pick_f rfl rfl) ?_
      refine snil ?_
      refine ccond rfl (fun hc => ?_) (fun hc => ?_)
      · replace h := ite_t hc h
        clear hc
        refine cseq ?_
        refine cregion ?_
        refine sv rfl (opv_as rfl) ?_
        refine snil ?_
        refine cret ?_
        refine then_ret ?_
        obtain rfl := Option.some.inj h
        refine ⟨Or.inr rfl, _, _, _, (resVs_cons (ResV.tmp _ _ rfl) resVs_nil), (pubA_id rfl), ?_⟩
        rfl
      · replace h := ite_f hc h
        clear hc
        refine cskip ?_
        refine then_normal ?_
        exact ⟨(), _, h, ⟨rfl, rfl, trivial⟩, rfl⟩

def m6_l11_SsiStill_k5 (a1 : GL11Act) (v1 : Bool) (b3 : (List GSsiTx) × (List GReadsRead) × Int × (List Int) × (List GR11Tx) × (List GR10Read)) (v4 : GR11Cert) (b5 : Int) : Option Bool :=
  (m17_ssi_Begin (GSsiCert.mk b3.1 (GReadsTable.mk b3.2.1)) (b3.2.2.2.1.length : Int) b3.2.2.1 a1.RO).bind fun v6 => (m19_ssi_Read (GSsiCert.mk b3.1 (GReadsTable.mk b3.2.1)) b5 (GApiRange.mk a1.Rng.Lo a1.Rng.Hi a1.Rng.Open)).bind fun v7 => (m20_ssi_Commit (GSsiCert.mk b3.1 (GReadsTable.mk b3.2.1)) b5 (wI (b3.2.2.1 + 1)) a1.Keys).bind fun v8 => (m15_ssi_Abort (GSsiCert.mk b3.1 (GReadsTable.mk b3.2.1)) b5).bind fun v9 => (m16_ssi_Clean (GSsiCert.mk b3.1 (GReadsTable.mk b3.2.1))).bind fun v10 => if v1 then ((m21_l11_theirs (GSsiCert.mk b3.1 (GReadsTable.mk b3.2.1))).bind fun v11 => (m22_r11_Same (GR11Cert.mk v11.Txs (GR10Table.mk v11.Reads.L)) (GR11Cert.mk v4.Txs (GR10Table.mk v4.Reads.L))).bind fun v12 => if v12 then ((m21_l11_theirs (GSsiCert.mk v6.1.Txs (GReadsTable.mk v6.1.Reads.L))).bind fun v13 => (m22_r11_Same (GR11Cert.mk v13.Txs (GR10Table.mk v13.Reads.L)) (GR11Cert.mk ([] : List GR11Tx) (GR10Table.mk ([] : List GR10Read)))).bind fun v14 => if (!((decide (v6.2 = 0)) == v14)) then ((m21_l11_theirs (GSsiCert.mk v7.1.Txs (GReadsTable.mk v7.1.Reads.L))).bind fun v15 => (m22_r11_Same (GR11Cert.mk v15.Txs (GR10Table.mk v15.Reads.L)) (GR11Cert.mk ([] : List GR11Tx) (GR10Table.mk ([] : List GR10Read)))).bind fun v16 => if (!((decide (v7.2 = 0)) == v16)) then ((m21_l11_theirs (GSsiCert.mk v8.1.Txs (GReadsTable.mk v8.1.Reads.L))).bind fun v17 => (m22_r11_Same (GR11Cert.mk v17.Txs (GR10Table.mk v17.Reads.L)) (GR11Cert.mk ([] : List GR11Tx) (GR10Table.mk ([] : List GR10Read)))).bind fun v18 => some (!((decide (v8.2 = 0)) == v18))) else (some false)) else (some false)) else (some false)) else (some false)

def m6_l11_SsiStill_k3 (a1 : GL11Act) (v1 : Bool) (b3 : (List GSsiTx) × (List GReadsRead) × Int × (List Int) × (List GR11Tx) × (List GR10Read)) : Option Bool :=
  (m21_l11_theirs (GSsiCert.mk b3.1 (GReadsTable.mk b3.2.1))).bind fun v4 => if (decide (0 < (b3.2.2.2.1.length : Int))) then (if (b3.2.2.2.1.length : Int) ≠ 0 then (m6_l11_SsiStill_k5 a1 v1 b3 v4 ((wI ((BitVec.ofInt 64 a1.N &&& BitVec.ofInt 64 65535).toNat : Int)).tmod (b3.2.2.2.1.length : Int))) else none) else (m6_l11_SsiStill_k5 a1 v1 b3 v4 0)

def m6_l11_SsiStill_s20 (a0 : List GL11Act) (s20 : Int × (List GSsiTx) × (List GReadsRead) × Int × (List Int) × (List GR11Tx) × (List GR10Read)) : Option (LB (Int × (List GSsiTx) × (List GReadsRead) × Int × (List Int) × (List GR11Tx) × (List GR10Read)) ((List GSsiTx) × (List GReadsRead) × Int × (List Int) × (List GR11Tx) × (List GR10Read))) :=
  if (decide (s20.1 < (a0.length : Int))) then ((idx a0 s20.1).bind fun u21 => (m11_l11_world_dos (GL11Act.mk u21.What u21.N u21.RO (GApiRange.mk u21.Rng.Lo u21.Rng.Hi u21.Rng.Open) u21.Keys) s20.2.1 s20.2.2.1 s20.2.2.2.1 s20.2.2.2.2.1 s20.2.2.2.2.2.1 s20.2.2.2.2.2.2).bind fun v22 => some (.cont ((wI (s20.1 + 1)), v22.1, v22.2.1, v22.2.2.1, v22.2.2.2.1, v22.2.2.2.2.1, v22.2.2.2.2.2))) else (some (.brk (s20.2.1, s20.2.2.1, s20.2.2.2.1, s20.2.2.2.2.1, s20.2.2.2.2.2.1, s20.2.2.2.2.2.2)))

def m6_l11_SsiStill_k2 (a0 : List GL11Act) (a1 : GL11Act) (v1 : Bool) (b2 : Unit) : Option Bool :=
  (iterB (m6_l11_SsiStill_s20 a0) fuel (0, ([] : List GSsiTx), ([] : List GReadsRead), 0, ([] : List Int), ([] : List GR11Tx), ([] : List GR10Read))).bind fun e23 => m6_l11_SsiStill_k3 a1 v1 e23
def m6_l11_SsiStill (a0 : List GL11Act) (a1 : GL11Act) : Option Bool :=
  (m9_l11_awake).bind fun v1 => (m10_l11_small a0).bind fun v24 => if (!v24) then (some v1) else ((m10_l11_small [(GL11Act.mk a1.What a1.N a1.RO (GApiRange.mk a1.Rng.Lo a1.Rng.Hi a1.Rng.Open) a1.Keys)]).bind fun v25 => if (!v25) then (some v1) else (m6_l11_SsiStill_k2 a0 a1 v1 ()))

set_option maxRecDepth 100000 in
theorem m6_l11_SsiStill_c {a0 : List GL11Act} {a1 : GL11Act} {r : Bool} (h : m6_l11_SsiStill a0 a1 = some r) : CallsA Try.prog 6 [.one (.sl a0.length (a0.flatMap eGL11Act)), .agg a1] (· = .s (.one (.b r))) := by
  unfold m6_l11_SsiStill at h
  refine callsA_of Try.func6 rfl (nt := 157) rfl (Nat.le_of_ble_eq_true rfl) ?_
  intro w0 S0
  refine cseq ?_
  refine cregion ?_
  refine sbox rfl rfl ?_
  refine sv rfl (opv_as rfl) ?_
  refine snil ?_
  refine cseq ?_
  refine cregion ?_
  obtain ⟨v1, hv1, h⟩ := bind_eq h
  refine scall1 rfl fn9 opnds_nil (pubA_id rfl) (m9_l11_awake_c hv1) ?_
  refine sv rfl (opv_as rfl) ?_
  refine snil ?_
  refine cseq ?_
  refine cseq ?_
  refine cjoin3 (Unit) (fun b2 => [(0, .s (.one (.sl a0.length (a0.flatMap eGL11Act)))), (3, .s (.one (.lp 0 0))), (5, .s (.one (.b v1)))]) (fun b2 => [.box a1]) (fun b2 => m6_l11_SsiStill_k2 a0 a1 v1 b2 = some r) (fun _ _ => inbL_of rfl) (fun _ _ => blkinb_of rfl) (fun _ _ => Nat.le_of_ble_eq_true rfl) (fun b2 h => ?_) ?_
  · unfold m6_l11_SsiStill_k2 at h
    refine cseq ?_
    refine cregion ?_
    refine sv rfl (opv_build zi36 pi36 parts_nil (.nil _)) ?_
    refine sbox rfl rfl ?_
    refine sv rfl (opv_as rfl) ?_
    refine snil ?_
    refine cseq ?_
    refine cseq ?_
    refine cregion ?_
    refine sv rfl (opv_as rfl) ?_
    refine snil ?_
    refine sadopt_box_c 3 1 1 3 (by decide) rfl rfl ?_
    refine sadopt_box_c 46 8 1 4 (by decide) rfl rfl ?_
    refine sadopt_box_c 76 4 1 5 (by decide) rfl rfl ?_
    refine cjoin ((List GSsiTx) × (List GReadsRead) × Int × (List Int) × (List GR11Tx) × (List GR10Read)) (fun b3 => [(3, .s (.one (.lp 0 0))), (5, .s (.one (.b v1))), (6, .s (.one (.lp 1 0)))]) (fun b3 => [.box a1, .box [.sl b3.1.length (b3.1.flatMap eGSsiTx), .sl b3.2.1.length (b3.2.1.flatMap eGReadsRead), .i .i64 b3.2.2.1, .ls 2 b3.2.2.2.1.length, .ls 3 b3.2.2.2.2.1.length, .ls 4 b3.2.2.2.2.2.length], .arr 3 1 0 (b3.2.2.2.1.flatMap eI), .arr 46 8 0 (b3.2.2.2.2.1.flatMap eGR11Tx), .arr 76 4 0 (b3.2.2.2.2.2.flatMap eGR10Read)]) (fun b3 => m6_l11_SsiStill_k3 a1 v1 b3 = some r) (fun _ _ => inbL_of rfl) (fun _ _ => blkinb_of rfl) (fun _ _ => Nat.le_of_ble_eq_true rfl) (fun b3 h => ?_) ?_
    · unfold m6_l11_SsiStill_k3 at h
      refine cseq ?_
      refine cregion ?_
      refine sv rfl (opv_mv rfl) ?_
      refine sv rfl (opv_nilCheck rfl rfl (fun _ _ _ h => by cases h)) ?_
      refine sv rfl (opv_fieldAddr_lp fi36_0 rfl) ?_
      refine sv rfl (opv_loadN ti31 rfl (.lp _ _ _ rfl) (Nat.le_of_ble_eq_true rfl)) ?_
      obtain ⟨v4, hv4, h⟩ := bind_eq h
      refine scall1 rfl fn21 (opnds_cons rfl opnds_nil) (pubA_id rfl) (m21_l11_theirs_c hv4) ?_
      refine salloc rfl zi63 ?_
      refine sstore sz63 rfl rfl rfl rfl (Nat.le_of_ble_eq_true rfl) ?_
      refine smem [.box a1, .box [.sl b3.1.length (b3.1.flatMap eGSsiTx), .sl b3.2.1.length (b3.2.1.flatMap eGReadsRead), .i .i64 b3.2.2.1, .ls 2 b3.2.2.2.1.length, .ls 3 b3.2.2.2.2.1.length, .ls 4 b3.2.2.2.2.2.length], .arr 3 1 0 (b3.2.2.2.1.flatMap eI), .arr 46 8 0 (b3.2.2.2.2.1.flatMap eGR11Tx), .arr 76 4 0 (b3.2.2.2.2.2.flatMap eGR10Read), .box v4] rfl ?_
      refine snil ?_
      refine cseq ?_
      refine cregion ?_
      refine sv rfl (opv_as rfl) ?_
      refine snil ?_
      refine cseq ?_
      refine cseq ?_
      refine cregion ?_
      refine sv rfl (opv_mv rfl) ?_
      refine sv rfl (opv_nilCheck rfl rfl (fun _ _ _ h => by cases h)) ?_
      refine sv rfl (opv_fieldAddr_lp fi36_2 rfl) ?_
      refine sv rfl (opv_load1 ti32 rfl (.lp _ _ _ rfl) rfl) ?_
      refine sv rfl (opv_len_ls si32 rfl rfl (flat_len (f := eI) (fun _ => rfl) _).symm) ?_
      refine sv rfl (opv_gtr rfl rfl) ?_
      refine snil ?_
      refine cjoin (Int) (fun b5 => [(3, .s (.one (.lp 0 0))), (5, .s (.one (.b v1))), (6, .s (.one (.lp 1 0))), (8, .s (.one (.lp 5 0))), (9, .s (.one (.i .i64 b5)))]) (fun b5 => [.box a1, .box [.sl b3.1.length (b3.1.flatMap eGSsiTx), .sl b3.2.1.length (b3.2.1.flatMap eGReadsRead), .i .i64 b3.2.2.1, .ls 2 b3.2.2.2.1.length, .ls 3 b3.2.2.2.2.1.length, .ls 4 b3.2.2.2.2.2.length], .arr 3 1 0 (b3.2.2.2.1.flatMap eI), .arr 46 8 0 (b3.2.2.2.2.1.flatMap eGR11Tx), .arr 76 4 0 (b3.2.2.2.2.2.flatMap eGR10Read), .box v4]) (fun b5 => m6_l11_SsiStill_k5 a1 v1 b3 v4 b5 = some r) (fun _ _ => inbL_of rfl) (fun _ _ => blkinb_of rfl) (fun _ _ => Nat.le_of_ble_eq_true rfl) (fun b5 h => ?_) ?_
      · unfold m6_l11_SsiStill_k5 at h
        refine cseq ?_
        refine chole ?_
        obtain ⟨v6, hv6, h⟩ := bind_eq h
        refine cdraw_e [19, 20] [0, 1, 3, 7, 0, 16, 48, 112, 240, 0, 512, 1536, 3584, 0, 8192, 32767, 65535, 131071, 131071, 0, 786431, 2097151] [[.box a1, .box [.sl b3.1.length (b3.1.flatMap eGSsiTx), .sl b3.2.1.length (b3.2.1.flatMap eGReadsRead), .i .i64 b3.2.2.1, .ls 2 b3.2.2.2.1.length, .ls 3 b3.2.2.2.2.1.length, .ls 4 b3.2.2.2.2.2.length], .arr 3 1 0 (b3.2.2.2.1.flatMap eI), .arr 46 8 0 (b3.2.2.2.2.1.flatMap eGR11Tx), .arr 76 4 0 (b3.2.2.2.2.2.flatMap eGR10Read), .box v4, .hole], [.box a1, .box [.sl b3.1.length (b3.1.flatMap eGSsiTx), .sl b3.2.1.length (b3.2.1.flatMap eGReadsRead), .i .i64 b3.2.2.1, .ls 2 b3.2.2.2.1.length, .ls 3 b3.2.2.2.2.1.length, .ls 4 b3.2.2.2.2.2.length], .arr 3 1 0 (b3.2.2.2.1.flatMap eI), .arr 46 8 0 (b3.2.2.2.2.1.flatMap eGR11Tx), .arr 76 4 0 (b3.2.2.2.2.2.flatMap eGR10Read), .box v4, .box [.raw (.slice none 0 0), .raw (.slice none 0 0)]], [.box a1, .box [.sl b3.1.length (b3.1.flatMap eGSsiTx), .sl b3.2.1.length (b3.2.1.flatMap eGReadsRead), .i .i64 b3.2.2.1, .ls 2 b3.2.2.2.1.length, .ls 3 b3.2.2.2.2.1.length, .ls 4 b3.2.2.2.2.2.length], .arr 3 1 0 (b3.2.2.2.1.flatMap eI), .arr 46 8 0 (b3.2.2.2.2.1.flatMap eGR11Tx), .arr 76 4 0 (b3.2.2.2.2.2.flatMap eGR10Read), .box v4, .box v6.1]] (by kernel_rfl) mixed (by kernel_rfl) (by decide) rfl rfl rfl rfl ?_
        refine emv rfl rfl (fun _ => opv_mv rfl) ?_
        refine ev (sees_all (md := [.box a1, .box [.sl b3.1.length (b3.1.flatMap eGSsiTx), .sl b3.2.1.length (b3.2.1.flatMap eGReadsRead), .i .i64 b3.2.2.1, .ls 2 b3.2.2.2.1.length, .ls 3 b3.2.2.2.2.1.length, .ls 4 b3.2.2.2.2.2.length], .arr 3 1 0 (b3.2.2.2.1.flatMap eI), .arr 46 8 0 (b3.2.2.2.2.1.flatMap eGR11Tx), .arr 76 4 0 (b3.2.2.2.2.2.flatMap eGR10Read), .box v4, .dead]) ⟨⟨rfl, ⟨rfl, ⟨rfl, ⟨rfl, ⟨rfl, ⟨rfl, ⟨trivial, trivial⟩⟩⟩⟩⟩⟩⟩, ⟨⟨rfl, ⟨rfl, ⟨rfl, ⟨rfl, ⟨rfl, ⟨rfl, ⟨trivial, trivial⟩⟩⟩⟩⟩⟩⟩, ⟨⟨rfl, ⟨rfl, ⟨rfl, ⟨rfl, ⟨rfl, ⟨rfl, ⟨trivial, trivial⟩⟩⟩⟩⟩⟩⟩, trivial⟩⟩⟩) rfl rfl (opv_nilCheck rfl rfl (fun _ _ _ h => by cases h)) ?_
        refine ev (sees_all (md := [.box a1, .box [.sl b3.1.length (b3.1.flatMap eGSsiTx), .sl b3.2.1.length (b3.2.1.flatMap eGReadsRead), .i .i64 b3.2.2.1, .ls 2 b3.2.2.2.1.length, .ls 3 b3.2.2.2.2.1.length, .ls 4 b3.2.2.2.2.2.length], .arr 3 1 0 (b3.2.2.2.1.flatMap eI), .arr 46 8 0 (b3.2.2.2.2.1.flatMap eGR11Tx), .arr 76 4 0 (b3.2.2.2.2.2.flatMap eGR10Read), .box v4, .dead]) ⟨⟨rfl, ⟨rfl, ⟨rfl, ⟨rfl, ⟨rfl, ⟨rfl, ⟨trivial, trivial⟩⟩⟩⟩⟩⟩⟩, ⟨⟨rfl, ⟨rfl, ⟨rfl, ⟨rfl, ⟨rfl, ⟨rfl, ⟨trivial, trivial⟩⟩⟩⟩⟩⟩⟩, ⟨⟨rfl, ⟨rfl, ⟨rfl, ⟨rfl, ⟨rfl, ⟨rfl, ⟨trivial, trivial⟩⟩⟩⟩⟩⟩⟩, trivial⟩⟩⟩) rfl rfl (opv_fieldAddr_lp fi36_0 rfl) ?_
        refine ev (sees_all (md := [.box a1, .box [.sl b3.1.length (b3.1.flatMap eGSsiTx), .sl b3.2.1.length (b3.2.1.flatMap eGReadsRead), .i .i64 b3.2.2.1, .ls 2 b3.2.2.2.1.length, .ls 3 b3.2.2.2.2.1.length, .ls 4 b3.2.2.2.2.2.length], .arr 3 1 0 (b3.2.2.2.1.flatMap eI), .arr 46 8 0 (b3.2.2.2.2.1.flatMap eGR11Tx), .arr 76 4 0 (b3.2.2.2.2.2.flatMap eGR10Read), .box v4, .dead]) ⟨⟨rfl, ⟨rfl, ⟨rfl, ⟨rfl, ⟨rfl, ⟨rfl, ⟨trivial, trivial⟩⟩⟩⟩⟩⟩⟩, ⟨⟨rfl, ⟨rfl, ⟨rfl, ⟨rfl, ⟨rfl, ⟨rfl, ⟨trivial, trivial⟩⟩⟩⟩⟩⟩⟩, ⟨⟨rfl, ⟨rfl, ⟨rfl, ⟨rfl, ⟨rfl, ⟨rfl, ⟨trivial, trivial⟩⟩⟩⟩⟩⟩⟩, trivial⟩⟩⟩) rfl rfl (opv_loadN ti31 rfl (.lp _ _ _ rfl) (Nat.le_of_ble_eq_true rfl)) ?_
        refine emv rfl rfl (fun _ => opv_mv rfl) ?_
        refine ev (sees_all (md := [.box a1, .box [.sl b3.1.length (b3.1.flatMap eGSsiTx), .sl b3.2.1.length (b3.2.1.flatMap eGReadsRead), .i .i64 b3.2.2.1, .ls 2 b3.2.2.2.1.length, .ls 3 b3.2.2.2.2.1.length, .ls 4 b3.2.2.2.2.2.length], .arr 3 1 0 (b3.2.2.2.1.flatMap eI), .arr 46 8 0 (b3.2.2.2.2.1.flatMap eGR11Tx), .arr 76 4 0 (b3.2.2.2.2.2.flatMap eGR10Read), .box v4, .dead]) ⟨⟨rfl, ⟨rfl, ⟨rfl, ⟨rfl, ⟨rfl, ⟨rfl, ⟨trivial, trivial⟩⟩⟩⟩⟩⟩⟩, ⟨⟨rfl, ⟨rfl, ⟨rfl, ⟨rfl, ⟨rfl, ⟨rfl, ⟨trivial, trivial⟩⟩⟩⟩⟩⟩⟩, ⟨⟨rfl, ⟨rfl, ⟨rfl, ⟨rfl, ⟨rfl, ⟨rfl, ⟨trivial, trivial⟩⟩⟩⟩⟩⟩⟩, trivial⟩⟩⟩) rfl rfl (opv_nilCheck rfl rfl (fun _ _ _ h => by cases h)) ?_
        refine ev (sees_all (md := [.box a1, .box [.sl b3.1.length (b3.1.flatMap eGSsiTx), .sl b3.2.1.length (b3.2.1.flatMap eGReadsRead), .i .i64 b3.2.2.1, .ls 2 b3.2.2.2.1.length, .ls 3 b3.2.2.2.2.1.length, .ls 4 b3.2.2.2.2.2.length], .arr 3 1 0 (b3.2.2.2.1.flatMap eI), .arr 46 8 0 (b3.2.2.2.2.1.flatMap eGR11Tx), .arr 76 4 0 (b3.2.2.2.2.2.flatMap eGR10Read), .box v4, .dead]) ⟨⟨rfl, ⟨rfl, ⟨rfl, ⟨rfl, ⟨rfl, ⟨rfl, ⟨trivial, trivial⟩⟩⟩⟩⟩⟩⟩, ⟨⟨rfl, ⟨rfl, ⟨rfl, ⟨rfl, ⟨rfl, ⟨rfl, ⟨trivial, trivial⟩⟩⟩⟩⟩⟩⟩, ⟨⟨rfl, ⟨rfl, ⟨rfl, ⟨rfl, ⟨rfl, ⟨rfl, ⟨trivial, trivial⟩⟩⟩⟩⟩⟩⟩, trivial⟩⟩⟩) rfl rfl (opv_fieldAddr_lp fi36_2 rfl) ?_
        refine ev (sees_all (md := [.box a1, .box [.sl b3.1.length (b3.1.flatMap eGSsiTx), .sl b3.2.1.length (b3.2.1.flatMap eGReadsRead), .i .i64 b3.2.2.1, .ls 2 b3.2.2.2.1.length, .ls 3 b3.2.2.2.2.1.length, .ls 4 b3.2.2.2.2.2.length], .arr 3 1 0 (b3.2.2.2.1.flatMap eI), .arr 46 8 0 (b3.2.2.2.2.1.flatMap eGR11Tx), .arr 76 4 0 (b3.2.2.2.2.2.flatMap eGR10Read), .box v4, .dead]) ⟨⟨rfl, ⟨rfl, ⟨rfl, ⟨rfl, ⟨rfl, ⟨rfl, ⟨trivial, trivial⟩⟩⟩⟩⟩⟩⟩, ⟨⟨rfl, ⟨rfl, ⟨rfl, ⟨rfl, ⟨rfl, ⟨rfl, ⟨trivial, trivial⟩⟩⟩⟩⟩⟩⟩, ⟨⟨rfl, ⟨rfl, ⟨rfl, ⟨rfl, ⟨rfl, ⟨rfl, ⟨trivial, trivial⟩⟩⟩⟩⟩⟩⟩, trivial⟩⟩⟩) rfl rfl (opv_load1 ti32 rfl (.lp _ _ _ rfl) rfl) ?_
        refine ev (sees_all (md := [.box a1, .box [.sl b3.1.length (b3.1.flatMap eGSsiTx), .sl b3.2.1.length (b3.2.1.flatMap eGReadsRead), .i .i64 b3.2.2.1, .ls 2 b3.2.2.2.1.length, .ls 3 b3.2.2.2.2.1.length, .ls 4 b3.2.2.2.2.2.length], .arr 3 1 0 (b3.2.2.2.1.flatMap eI), .arr 46 8 0 (b3.2.2.2.2.1.flatMap eGR11Tx), .arr 76 4 0 (b3.2.2.2.2.2.flatMap eGR10Read), .box v4, .dead]) ⟨⟨rfl, ⟨rfl, ⟨rfl, ⟨rfl, ⟨rfl, ⟨rfl, ⟨trivial, trivial⟩⟩⟩⟩⟩⟩⟩, ⟨⟨rfl, ⟨rfl, ⟨rfl, ⟨rfl, ⟨rfl, ⟨rfl, ⟨trivial, trivial⟩⟩⟩⟩⟩⟩⟩, ⟨⟨rfl, ⟨rfl, ⟨rfl, ⟨rfl, ⟨rfl, ⟨rfl, ⟨trivial, trivial⟩⟩⟩⟩⟩⟩⟩, trivial⟩⟩⟩) rfl rfl (opv_len_ls si32 rfl rfl (flat_len (f := eI) (fun _ => rfl) _).symm) ?_
        refine emv rfl rfl (fun _ => opv_mv rfl) ?_
        refine ev (sees_all (md := [.box a1, .box [.sl b3.1.length (b3.1.flatMap eGSsiTx), .sl b3.2.1.length (b3.2.1.flatMap eGReadsRead), .i .i64 b3.2.2.1, .ls 2 b3.2.2.2.1.length, .ls 3 b3.2.2.2.2.1.length, .ls 4 b3.2.2.2.2.2.length], .arr 3 1 0 (b3.2.2.2.1.flatMap eI), .arr 46 8 0 (b3.2.2.2.2.1.flatMap eGR11Tx), .arr 76 4 0 (b3.2.2.2.2.2.flatMap eGR10Read), .box v4, .dead]) ⟨⟨rfl, ⟨rfl, ⟨rfl, ⟨rfl, ⟨rfl, ⟨rfl, ⟨trivial, trivial⟩⟩⟩⟩⟩⟩⟩, ⟨⟨rfl, ⟨rfl, ⟨rfl, ⟨rfl, ⟨rfl, ⟨rfl, ⟨trivial, trivial⟩⟩⟩⟩⟩⟩⟩, ⟨⟨rfl, ⟨rfl, ⟨rfl, ⟨rfl, ⟨rfl, ⟨rfl, ⟨trivial, trivial⟩⟩⟩⟩⟩⟩⟩, trivial⟩⟩⟩) rfl rfl (opv_nilCheck rfl rfl (fun _ _ _ h => by cases h)) ?_
        refine ev (sees_all (md := [.box a1, .box [.sl b3.1.length (b3.1.flatMap eGSsiTx), .sl b3.2.1.length (b3.2.1.flatMap eGReadsRead), .i .i64 b3.2.2.1, .ls 2 b3.2.2.2.1.length, .ls 3 b3.2.2.2.2.1.length, .ls 4 b3.2.2.2.2.2.length], .arr 3 1 0 (b3.2.2.2.1.flatMap eI), .arr 46 8 0 (b3.2.2.2.2.1.flatMap eGR11Tx), .arr 76 4 0 (b3.2.2.2.2.2.flatMap eGR10Read), .box v4, .dead]) ⟨⟨rfl, ⟨rfl, ⟨rfl, ⟨rfl, ⟨rfl, ⟨rfl, ⟨trivial, trivial⟩⟩⟩⟩⟩⟩⟩, ⟨⟨rfl, ⟨rfl, ⟨rfl, ⟨rfl, ⟨rfl, ⟨rfl, ⟨trivial, trivial⟩⟩⟩⟩⟩⟩⟩, ⟨⟨rfl, ⟨rfl, ⟨rfl, ⟨rfl, ⟨rfl, ⟨rfl, ⟨trivial, trivial⟩⟩⟩⟩⟩⟩⟩, trivial⟩⟩⟩) rfl rfl (opv_fieldAddr_lp fi36_1 rfl) ?_
        refine ev (sees_all (md := [.box a1, .box [.sl b3.1.length (b3.1.flatMap eGSsiTx), .sl b3.2.1.length (b3.2.1.flatMap eGReadsRead), .i .i64 b3.2.2.1, .ls 2 b3.2.2.2.1.length, .ls 3 b3.2.2.2.2.1.length, .ls 4 b3.2.2.2.2.2.length], .arr 3 1 0 (b3.2.2.2.1.flatMap eI), .arr 46 8 0 (b3.2.2.2.2.1.flatMap eGR11Tx), .arr 76 4 0 (b3.2.2.2.2.2.flatMap eGR10Read), .box v4, .dead]) ⟨⟨rfl, ⟨rfl, ⟨rfl, ⟨rfl, ⟨rfl, ⟨rfl, ⟨trivial, trivial⟩⟩⟩⟩⟩⟩⟩, ⟨⟨rfl, ⟨rfl, ⟨rfl, ⟨rfl, ⟨rfl, ⟨rfl, ⟨trivial, trivial⟩⟩⟩⟩⟩⟩⟩, ⟨⟨rfl, ⟨rfl, ⟨rfl, ⟨rfl, ⟨rfl, ⟨rfl, ⟨trivial, trivial⟩⟩⟩⟩⟩⟩⟩, trivial⟩⟩⟩) rfl rfl (opv_load1 ti3 rfl (.lp _ _ _ rfl) rfl) ?_
        refine ev (sees_all (md := [.box a1, .box [.sl b3.1.length (b3.1.flatMap eGSsiTx), .sl b3.2.1.length (b3.2.1.flatMap eGReadsRead), .i .i64 b3.2.2.1, .ls 2 b3.2.2.2.1.length, .ls 3 b3.2.2.2.2.1.length, .ls 4 b3.2.2.2.2.2.length], .arr 3 1 0 (b3.2.2.2.1.flatMap eI), .arr 46 8 0 (b3.2.2.2.2.1.flatMap eGR11Tx), .arr 76 4 0 (b3.2.2.2.2.2.flatMap eGR10Read), .box v4, .dead]) ⟨⟨rfl, ⟨rfl, ⟨rfl, ⟨rfl, ⟨rfl, ⟨rfl, ⟨trivial, trivial⟩⟩⟩⟩⟩⟩⟩, ⟨⟨rfl, ⟨rfl, ⟨rfl, ⟨rfl, ⟨rfl, ⟨rfl, ⟨trivial, trivial⟩⟩⟩⟩⟩⟩⟩, ⟨⟨rfl, ⟨rfl, ⟨rfl, ⟨rfl, ⟨rfl, ⟨rfl, ⟨trivial, trivial⟩⟩⟩⟩⟩⟩⟩, trivial⟩⟩⟩) rfl rfl (opv_fieldAddr_lp fi43_2 rfl) ?_
        refine ev (sees_all (md := [.box a1, .box [.sl b3.1.length (b3.1.flatMap eGSsiTx), .sl b3.2.1.length (b3.2.1.flatMap eGReadsRead), .i .i64 b3.2.2.1, .ls 2 b3.2.2.2.1.length, .ls 3 b3.2.2.2.2.1.length, .ls 4 b3.2.2.2.2.2.length], .arr 3 1 0 (b3.2.2.2.1.flatMap eI), .arr 46 8 0 (b3.2.2.2.2.1.flatMap eGR11Tx), .arr 76 4 0 (b3.2.2.2.2.2.flatMap eGR10Read), .box v4, .dead]) ⟨⟨rfl, ⟨rfl, ⟨rfl, ⟨rfl, ⟨rfl, ⟨rfl, ⟨trivial, trivial⟩⟩⟩⟩⟩⟩⟩, ⟨⟨rfl, ⟨rfl, ⟨rfl, ⟨rfl, ⟨rfl, ⟨rfl, ⟨trivial, trivial⟩⟩⟩⟩⟩⟩⟩, ⟨⟨rfl, ⟨rfl, ⟨rfl, ⟨rfl, ⟨rfl, ⟨rfl, ⟨trivial, trivial⟩⟩⟩⟩⟩⟩⟩, trivial⟩⟩⟩) rfl rfl (opv_load1 ti4 rfl (.lp _ _ _ rfl) rfl) ?_
        refine ed (sees_all (md := [.box a1, .box [.sl b3.1.length (b3.1.flatMap eGSsiTx), .sl b3.2.1.length (b3.2.1.flatMap eGReadsRead), .i .i64 b3.2.2.1, .ls 2 b3.2.2.2.1.length, .ls 3 b3.2.2.2.2.1.length, .ls 4 b3.2.2.2.2.2.length], .arr 3 1 0 (b3.2.2.2.1.flatMap eI), .arr 46 8 0 (b3.2.2.2.2.1.flatMap eGR11Tx), .arr 76 4 0 (b3.2.2.2.2.2.flatMap eGR10Read), .box v4, .dead]) ⟨⟨rfl, ⟨rfl, ⟨rfl, ⟨rfl, ⟨rfl, ⟨rfl, ⟨trivial, trivial⟩⟩⟩⟩⟩⟩⟩, ⟨⟨rfl, ⟨rfl, ⟨rfl, ⟨rfl, ⟨rfl, ⟨rfl, ⟨trivial, trivial⟩⟩⟩⟩⟩⟩⟩, ⟨⟨rfl, ⟨rfl, ⟨rfl, ⟨rfl, ⟨rfl, ⟨rfl, ⟨trivial, trivial⟩⟩⟩⟩⟩⟩⟩, trivial⟩⟩⟩) rfl rfl (opD_call fn17 (opnds_cons rfl (opnds_cons rfl (opnds_cons rfl (opnds_cons rfl opnds_nil)))) rfl (m17_ssi_Begin_c hv6)) ?_
        refine emv rfl rfl (fun _ => opv_mvt rfl) ?_
        refine ev (sees_all (md := [.box a1, .box [.sl b3.1.length (b3.1.flatMap eGSsiTx), .sl b3.2.1.length (b3.2.1.flatMap eGReadsRead), .i .i64 b3.2.2.1, .ls 2 b3.2.2.2.1.length, .ls 3 b3.2.2.2.2.1.length, .ls 4 b3.2.2.2.2.2.length], .arr 3 1 0 (b3.2.2.2.1.flatMap eI), .arr 46 8 0 (b3.2.2.2.2.1.flatMap eGR11Tx), .arr 76 4 0 (b3.2.2.2.2.2.flatMap eGR10Read), .box v4, .dead]) ⟨⟨rfl, ⟨rfl, ⟨rfl, ⟨rfl, ⟨rfl, ⟨rfl, ⟨trivial, trivial⟩⟩⟩⟩⟩⟩⟩, ⟨⟨rfl, ⟨rfl, ⟨rfl, ⟨rfl, ⟨rfl, ⟨rfl, ⟨trivial, trivial⟩⟩⟩⟩⟩⟩⟩, ⟨⟨rfl, ⟨rfl, ⟨rfl, ⟨rfl, ⟨rfl, ⟨rfl, ⟨trivial, trivial⟩⟩⟩⟩⟩⟩⟩, trivial⟩⟩⟩) rfl rfl (opv_extract rfl rfl) ?_
        refine ev (sees_all (md := [.box a1, .box [.sl b3.1.length (b3.1.flatMap eGSsiTx), .sl b3.2.1.length (b3.2.1.flatMap eGReadsRead), .i .i64 b3.2.2.1, .ls 2 b3.2.2.2.1.length, .ls 3 b3.2.2.2.2.1.length, .ls 4 b3.2.2.2.2.2.length], .arr 3 1 0 (b3.2.2.2.1.flatMap eI), .arr 46 8 0 (b3.2.2.2.2.1.flatMap eGR11Tx), .arr 76 4 0 (b3.2.2.2.2.2.flatMap eGR10Read), .box v4, .dead]) ⟨⟨rfl, ⟨rfl, ⟨rfl, ⟨rfl, ⟨rfl, ⟨rfl, ⟨trivial, trivial⟩⟩⟩⟩⟩⟩⟩, ⟨⟨rfl, ⟨rfl, ⟨rfl, ⟨rfl, ⟨rfl, ⟨rfl, ⟨trivial, trivial⟩⟩⟩⟩⟩⟩⟩, ⟨⟨rfl, ⟨rfl, ⟨rfl, ⟨rfl, ⟨rfl, ⟨rfl, ⟨trivial, trivial⟩⟩⟩⟩⟩⟩⟩, trivial⟩⟩⟩) rfl rfl (opv_extract rfl rfl) ?_
        refine ee (x := .s (.one (.lp 6 0))) 0 rfl rfl rfl rfl rfl (fun ζ => ?_) ?_
        · refine salloc_at 6 rfl zi31 rfl ?_
          exact eend
        refine ee0 1 rfl rfl rfl rfl (fun ζ => ?_) ?_
        · refine sstore sz31 rfl rfl rfl rfl (Nat.le_of_ble_eq_true rfl) ?_
          refine smem [.box a1, .box [.sl b3.1.length (b3.1.flatMap eGSsiTx), .sl b3.2.1.length (b3.2.1.flatMap eGReadsRead), .i .i64 b3.2.2.1, .ls 2 b3.2.2.2.1.length, .ls 3 b3.2.2.2.2.1.length, .ls 4 b3.2.2.2.2.2.length], .arr 3 1 0 (b3.2.2.2.1.flatMap eI), .arr 46 8 0 (b3.2.2.2.2.1.flatMap eGR11Tx), .arr 76 4 0 (b3.2.2.2.2.2.flatMap eGR10Read), .box v4, .box v6.1] rfl ?_
          exact eend
        refine ev (sees_at 2 rfl rfl) rfl rfl (opv_as rfl) ?_
        refine enil ?_
        refine then_normal ?_
        refine cseq ?_
        refine chole ?_
        obtain ⟨v7, hv7, h⟩ := bind_eq h
        refine cdraw_e [11, 12] [0, 1, 3, 7, 0, 0, 32, 127, 255, 511, 511, 0, 3071, 8191] [[.box a1, .box [.sl b3.1.length (b3.1.flatMap eGSsiTx), .sl b3.2.1.length (b3.2.1.flatMap eGReadsRead), .i .i64 b3.2.2.1, .ls 2 b3.2.2.2.1.length, .ls 3 b3.2.2.2.2.1.length, .ls 4 b3.2.2.2.2.2.length], .arr 3 1 0 (b3.2.2.2.1.flatMap eI), .arr 46 8 0 (b3.2.2.2.2.1.flatMap eGR11Tx), .arr 76 4 0 (b3.2.2.2.2.2.flatMap eGR10Read), .box v4, .box v6.1, .hole], [.box a1, .box [.sl b3.1.length (b3.1.flatMap eGSsiTx), .sl b3.2.1.length (b3.2.1.flatMap eGReadsRead), .i .i64 b3.2.2.1, .ls 2 b3.2.2.2.1.length, .ls 3 b3.2.2.2.2.1.length, .ls 4 b3.2.2.2.2.2.length], .arr 3 1 0 (b3.2.2.2.1.flatMap eI), .arr 46 8 0 (b3.2.2.2.2.1.flatMap eGR11Tx), .arr 76 4 0 (b3.2.2.2.2.2.flatMap eGR10Read), .box v4, .box v6.1, .box [.raw (.slice none 0 0), .raw (.slice none 0 0)]], [.box a1, .box [.sl b3.1.length (b3.1.flatMap eGSsiTx), .sl b3.2.1.length (b3.2.1.flatMap eGReadsRead), .i .i64 b3.2.2.1, .ls 2 b3.2.2.2.1.length, .ls 3 b3.2.2.2.2.1.length, .ls 4 b3.2.2.2.2.2.length], .arr 3 1 0 (b3.2.2.2.1.flatMap eI), .arr 46 8 0 (b3.2.2.2.2.1.flatMap eGR11Tx), .arr 76 4 0 (b3.2.2.2.2.2.flatMap eGR10Read), .box v4, .box v6.1, .box v7.1]] (by kernel_rfl) mixed (by kernel_rfl) (by decide) rfl rfl rfl rfl ?_
        refine emv rfl rfl (fun _ => opv_mv rfl) ?_
        refine ev (sees_all (md := [.box a1, .box [.sl b3.1.length (b3.1.flatMap eGSsiTx), .sl b3.2.1.length (b3.2.1.flatMap eGReadsRead), .i .i64 b3.2.2.1, .ls 2 b3.2.2.2.1.length, .ls 3 b3.2.2.2.2.1.length, .ls 4 b3.2.2.2.2.2.length], .arr 3 1 0 (b3.2.2.2.1.flatMap eI), .arr 46 8 0 (b3.2.2.2.2.1.flatMap eGR11Tx), .arr 76 4 0 (b3.2.2.2.2.2.flatMap eGR10Read), .box v4, .box v6.1, .dead]) ⟨⟨rfl, ⟨rfl, ⟨rfl, ⟨rfl, ⟨rfl, ⟨rfl, ⟨rfl, ⟨trivial, trivial⟩⟩⟩⟩⟩⟩⟩⟩, ⟨⟨rfl, ⟨rfl, ⟨rfl, ⟨rfl, ⟨rfl, ⟨rfl, ⟨rfl, ⟨trivial, trivial⟩⟩⟩⟩⟩⟩⟩⟩, ⟨⟨rfl, ⟨rfl, ⟨rfl, ⟨rfl, ⟨rfl, ⟨rfl, ⟨rfl, ⟨trivial, trivial⟩⟩⟩⟩⟩⟩⟩⟩, trivial⟩⟩⟩) rfl rfl (opv_nilCheck rfl rfl (fun _ _ _ h => by cases h)) ?_
        refine ev (sees_all (md := [.box a1, .box [.sl b3.1.length (b3.1.flatMap eGSsiTx), .sl b3.2.1.length (b3.2.1.flatMap eGReadsRead), .i .i64 b3.2.2.1, .ls 2 b3.2.2.2.1.length, .ls 3 b3.2.2.2.2.1.length, .ls 4 b3.2.2.2.2.2.length], .arr 3 1 0 (b3.2.2.2.1.flatMap eI), .arr 46 8 0 (b3.2.2.2.2.1.flatMap eGR11Tx), .arr 76 4 0 (b3.2.2.2.2.2.flatMap eGR10Read), .box v4, .box v6.1, .dead]) ⟨⟨rfl, ⟨rfl, ⟨rfl, ⟨rfl, ⟨rfl, ⟨rfl, ⟨rfl, ⟨trivial, trivial⟩⟩⟩⟩⟩⟩⟩⟩, ⟨⟨rfl, ⟨rfl, ⟨rfl, ⟨rfl, ⟨rfl, ⟨rfl, ⟨rfl, ⟨trivial, trivial⟩⟩⟩⟩⟩⟩⟩⟩, ⟨⟨rfl, ⟨rfl, ⟨rfl, ⟨rfl, ⟨rfl, ⟨rfl, ⟨rfl, ⟨trivial, trivial⟩⟩⟩⟩⟩⟩⟩⟩, trivial⟩⟩⟩) rfl rfl (opv_fieldAddr_lp fi36_0 rfl) ?_
        refine ev (sees_all (md := [.box a1, .box [.sl b3.1.length (b3.1.flatMap eGSsiTx), .sl b3.2.1.length (b3.2.1.flatMap eGReadsRead), .i .i64 b3.2.2.1, .ls 2 b3.2.2.2.1.length, .ls 3 b3.2.2.2.2.1.length, .ls 4 b3.2.2.2.2.2.length], .arr 3 1 0 (b3.2.2.2.1.flatMap eI), .arr 46 8 0 (b3.2.2.2.2.1.flatMap eGR11Tx), .arr 76 4 0 (b3.2.2.2.2.2.flatMap eGR10Read), .box v4, .box v6.1, .dead]) ⟨⟨rfl, ⟨rfl, ⟨rfl, ⟨rfl, ⟨rfl, ⟨rfl, ⟨rfl, ⟨trivial, trivial⟩⟩⟩⟩⟩⟩⟩⟩, ⟨⟨rfl, ⟨rfl, ⟨rfl, ⟨rfl, ⟨rfl, ⟨rfl, ⟨rfl, ⟨trivial, trivial⟩⟩⟩⟩⟩⟩⟩⟩, ⟨⟨rfl, ⟨rfl, ⟨rfl, ⟨rfl, ⟨rfl, ⟨rfl, ⟨rfl, ⟨trivial, trivial⟩⟩⟩⟩⟩⟩⟩⟩, trivial⟩⟩⟩) rfl rfl (opv_loadN ti31 rfl (.lp _ _ _ rfl) (Nat.le_of_ble_eq_true rfl)) ?_
        refine emv rfl rfl (fun _ => opv_mv rfl) ?_
        refine ev (sees_all (md := [.box a1, .box [.sl b3.1.length (b3.1.flatMap eGSsiTx), .sl b3.2.1.length (b3.2.1.flatMap eGReadsRead), .i .i64 b3.2.2.1, .ls 2 b3.2.2.2.1.length, .ls 3 b3.2.2.2.2.1.length, .ls 4 b3.2.2.2.2.2.length], .arr 3 1 0 (b3.2.2.2.1.flatMap eI), .arr 46 8 0 (b3.2.2.2.2.1.flatMap eGR11Tx), .arr 76 4 0 (b3.2.2.2.2.2.flatMap eGR10Read), .box v4, .box v6.1, .dead]) ⟨⟨rfl, ⟨rfl, ⟨rfl, ⟨rfl, ⟨rfl, ⟨rfl, ⟨rfl, ⟨trivial, trivial⟩⟩⟩⟩⟩⟩⟩⟩, ⟨⟨rfl, ⟨rfl, ⟨rfl, ⟨rfl, ⟨rfl, ⟨rfl, ⟨rfl, ⟨trivial, trivial⟩⟩⟩⟩⟩⟩⟩⟩, ⟨⟨rfl, ⟨rfl, ⟨rfl, ⟨rfl, ⟨rfl, ⟨rfl, ⟨rfl, ⟨trivial, trivial⟩⟩⟩⟩⟩⟩⟩⟩, trivial⟩⟩⟩) rfl rfl (opv_fieldAddr_lp fi43_3 rfl) ?_
        refine ev (sees_all (md := [.box a1, .box [.sl b3.1.length (b3.1.flatMap eGSsiTx), .sl b3.2.1.length (b3.2.1.flatMap eGReadsRead), .i .i64 b3.2.2.1, .ls 2 b3.2.2.2.1.length, .ls 3 b3.2.2.2.2.1.length, .ls 4 b3.2.2.2.2.2.length], .arr 3 1 0 (b3.2.2.2.1.flatMap eI), .arr 46 8 0 (b3.2.2.2.2.1.flatMap eGR11Tx), .arr 76 4 0 (b3.2.2.2.2.2.flatMap eGR10Read), .box v4, .box v6.1, .dead]) ⟨⟨rfl, ⟨rfl, ⟨rfl, ⟨rfl, ⟨rfl, ⟨rfl, ⟨rfl, ⟨trivial, trivial⟩⟩⟩⟩⟩⟩⟩⟩, ⟨⟨rfl, ⟨rfl, ⟨rfl, ⟨rfl, ⟨rfl, ⟨rfl, ⟨rfl, ⟨trivial, trivial⟩⟩⟩⟩⟩⟩⟩⟩, ⟨⟨rfl, ⟨rfl, ⟨rfl, ⟨rfl, ⟨rfl, ⟨rfl, ⟨rfl, ⟨trivial, trivial⟩⟩⟩⟩⟩⟩⟩⟩, trivial⟩⟩⟩) rfl rfl (opv_loadN ti40 rfl (.lp _ _ _ rfl) (Nat.le_of_ble_eq_true rfl)) ?_
        refine ed (sees_all (md := [.box a1, .box [.sl b3.1.length (b3.1.flatMap eGSsiTx), .sl b3.2.1.length (b3.2.1.flatMap eGReadsRead), .i .i64 b3.2.2.1, .ls 2 b3.2.2.2.1.length, .ls 3 b3.2.2.2.2.1.length, .ls 4 b3.2.2.2.2.2.length], .arr 3 1 0 (b3.2.2.2.1.flatMap eI), .arr 46 8 0 (b3.2.2.2.2.1.flatMap eGR11Tx), .arr 76 4 0 (b3.2.2.2.2.2.flatMap eGR10Read), .box v4, .box v6.1, .dead]) ⟨⟨rfl, ⟨rfl, ⟨rfl, ⟨rfl, ⟨rfl, ⟨rfl, ⟨rfl, ⟨trivial, trivial⟩⟩⟩⟩⟩⟩⟩⟩, ⟨⟨rfl, ⟨rfl, ⟨rfl, ⟨rfl, ⟨rfl, ⟨rfl, ⟨rfl, ⟨trivial, trivial⟩⟩⟩⟩⟩⟩⟩⟩, ⟨⟨rfl, ⟨rfl, ⟨rfl, ⟨rfl, ⟨rfl, ⟨rfl, ⟨rfl, ⟨trivial, trivial⟩⟩⟩⟩⟩⟩⟩⟩, trivial⟩⟩⟩) rfl rfl (opD_call fn19 (opnds_cons rfl (opnds_cons rfl (opnds_cons rfl opnds_nil))) rfl (m19_ssi_Read_c hv7)) ?_
        refine emv rfl rfl (fun _ => opv_mvt rfl) ?_
        refine ev (sees_all (md := [.box a1, .box [.sl b3.1.length (b3.1.flatMap eGSsiTx), .sl b3.2.1.length (b3.2.1.flatMap eGReadsRead), .i .i64 b3.2.2.1, .ls 2 b3.2.2.2.1.length, .ls 3 b3.2.2.2.2.1.length, .ls 4 b3.2.2.2.2.2.length], .arr 3 1 0 (b3.2.2.2.1.flatMap eI), .arr 46 8 0 (b3.2.2.2.2.1.flatMap eGR11Tx), .arr 76 4 0 (b3.2.2.2.2.2.flatMap eGR10Read), .box v4, .box v6.1, .dead]) ⟨⟨rfl, ⟨rfl, ⟨rfl, ⟨rfl, ⟨rfl, ⟨rfl, ⟨rfl, ⟨trivial, trivial⟩⟩⟩⟩⟩⟩⟩⟩, ⟨⟨rfl, ⟨rfl, ⟨rfl, ⟨rfl, ⟨rfl, ⟨rfl, ⟨rfl, ⟨trivial, trivial⟩⟩⟩⟩⟩⟩⟩⟩, ⟨⟨rfl, ⟨rfl, ⟨rfl, ⟨rfl, ⟨rfl, ⟨rfl, ⟨rfl, ⟨trivial, trivial⟩⟩⟩⟩⟩⟩⟩⟩, trivial⟩⟩⟩) rfl rfl (opv_extract rfl rfl) ?_
        refine ev (sees_all (md := [.box a1, .box [.sl b3.1.length (b3.1.flatMap eGSsiTx), .sl b3.2.1.length (b3.2.1.flatMap eGReadsRead), .i .i64 b3.2.2.1, .ls 2 b3.2.2.2.1.length, .ls 3 b3.2.2.2.2.1.length, .ls 4 b3.2.2.2.2.2.length], .arr 3 1 0 (b3.2.2.2.1.flatMap eI), .arr 46 8 0 (b3.2.2.2.2.1.flatMap eGR11Tx), .arr 76 4 0 (b3.2.2.2.2.2.flatMap eGR10Read), .box v4, .box v6.1, .dead]) ⟨⟨rfl, ⟨rfl, ⟨rfl, ⟨rfl, ⟨rfl, ⟨rfl, ⟨rfl, ⟨trivial, trivial⟩⟩⟩⟩⟩⟩⟩⟩, ⟨⟨rfl, ⟨rfl, ⟨rfl, ⟨rfl, ⟨rfl, ⟨rfl, ⟨rfl, ⟨trivial, trivial⟩⟩⟩⟩⟩⟩⟩⟩, ⟨⟨rfl, ⟨rfl, ⟨rfl, ⟨rfl, ⟨rfl, ⟨rfl, ⟨rfl, ⟨trivial, trivial⟩⟩⟩⟩⟩⟩⟩⟩, trivial⟩⟩⟩) rfl rfl (opv_extract rfl rfl) ?_
        refine ee (x := .s (.one (.lp 7 0))) 0 rfl rfl rfl rfl rfl (fun ζ => ?_) ?_
        · refine salloc_at 7 rfl zi31 rfl ?_
          exact eend
        refine ee0 1 rfl rfl rfl rfl (fun ζ => ?_) ?_
        · refine sstore sz31 rfl rfl rfl rfl (Nat.le_of_ble_eq_true rfl) ?_
          refine smem [.box a1, .box [.sl b3.1.length (b3.1.flatMap eGSsiTx), .sl b3.2.1.length (b3.2.1.flatMap eGReadsRead), .i .i64 b3.2.2.1, .ls 2 b3.2.2.2.1.length, .ls 3 b3.2.2.2.2.1.length, .ls 4 b3.2.2.2.2.2.length], .arr 3 1 0 (b3.2.2.2.1.flatMap eI), .arr 46 8 0 (b3.2.2.2.2.1.flatMap eGR11Tx), .arr 76 4 0 (b3.2.2.2.2.2.flatMap eGR10Read), .box v4, .box v6.1, .box v7.1] rfl ?_
          exact eend
        refine ev (sees_at 2 rfl rfl) rfl rfl (opv_as rfl) ?_
        refine enil ?_
        refine then_normal ?_
        refine cseq ?_
        refine chole ?_
        obtain ⟨v8, hv8, h⟩ := bind_eq h
        refine cdraw_e [16, 17] [0, 1, 3, 7, 0, 0, 32, 96, 224, 480, 0, 1024, 4095, 8191, 16383, 16383, 0, 98303, 262143] [[.box a1, .box [.sl b3.1.length (b3.1.flatMap eGSsiTx), .sl b3.2.1.length (b3.2.1.flatMap eGReadsRead), .i .i64 b3.2.2.1, .ls 2 b3.2.2.2.1.length, .ls 3 b3.2.2.2.2.1.length, .ls 4 b3.2.2.2.2.2.length], .arr 3 1 0 (b3.2.2.2.1.flatMap eI), .arr 46 8 0 (b3.2.2.2.2.1.flatMap eGR11Tx), .arr 76 4 0 (b3.2.2.2.2.2.flatMap eGR10Read), .box v4, .box v6.1, .box v7.1, .hole], [.box a1, .box [.sl b3.1.length (b3.1.flatMap eGSsiTx), .sl b3.2.1.length (b3.2.1.flatMap eGReadsRead), .i .i64 b3.2.2.1, .ls 2 b3.2.2.2.1.length, .ls 3 b3.2.2.2.2.1.length, .ls 4 b3.2.2.2.2.2.length], .arr 3 1 0 (b3.2.2.2.1.flatMap eI), .arr 46 8 0 (b3.2.2.2.2.1.flatMap eGR11Tx), .arr 76 4 0 (b3.2.2.2.2.2.flatMap eGR10Read), .box v4, .box v6.1, .box v7.1, .box [.raw (.slice none 0 0), .raw (.slice none 0 0)]], [.box a1, .box [.sl b3.1.length (b3.1.flatMap eGSsiTx), .sl b3.2.1.length (b3.2.1.flatMap eGReadsRead), .i .i64 b3.2.2.1, .ls 2 b3.2.2.2.1.length, .ls 3 b3.2.2.2.2.1.length, .ls 4 b3.2.2.2.2.2.length], .arr 3 1 0 (b3.2.2.2.1.flatMap eI), .arr 46 8 0 (b3.2.2.2.2.1.flatMap eGR11Tx), .arr 76 4 0 (b3.2.2.2.2.2.flatMap eGR10Read), .box v4, .box v6.1, .box v7.1, .box v8.1]] (by kernel_rfl) mixed (by kernel_rfl) (by decide) rfl rfl rfl rfl ?_
        refine emv rfl rfl (fun _ => opv_mv rfl) ?_
        refine ev (sees_all (md := [.box a1, .box [.sl b3.1.length (b3.1.flatMap eGSsiTx), .sl b3.2.1.length (b3.2.1.flatMap eGReadsRead), .i .i64 b3.2.2.1, .ls 2 b3.2.2.2.1.length, .ls 3 b3.2.2.2.2.1.length, .ls 4 b3.2.2.2.2.2.length], .arr 3 1 0 (b3.2.2.2.1.flatMap eI), .arr 46 8 0 (b3.2.2.2.2.1.flatMap eGR11Tx), .arr 76 4 0 (b3.2.2.2.2.2.flatMap eGR10Read), .box v4, .box v6.1, .box v7.1, .dead]) ⟨⟨rfl, ⟨rfl, ⟨rfl, ⟨rfl, ⟨rfl, ⟨rfl, ⟨rfl, ⟨rfl, ⟨trivial, trivial⟩⟩⟩⟩⟩⟩⟩⟩⟩, ⟨⟨rfl, ⟨rfl, ⟨rfl, ⟨rfl, ⟨rfl, ⟨rfl, ⟨rfl, ⟨rfl, ⟨trivial, trivial⟩⟩⟩⟩⟩⟩⟩⟩⟩, ⟨⟨rfl, ⟨rfl, ⟨rfl, ⟨rfl, ⟨rfl, ⟨rfl, ⟨rfl, ⟨rfl, ⟨trivial, trivial⟩⟩⟩⟩⟩⟩⟩⟩⟩, trivial⟩⟩⟩) rfl rfl (opv_nilCheck rfl rfl (fun _ _ _ h => by cases h)) ?_
        refine ev (sees_all (md := [.box a1, .box [.sl b3.1.length (b3.1.flatMap eGSsiTx), .sl b3.2.1.length (b3.2.1.flatMap eGReadsRead), .i .i64 b3.2.2.1, .ls 2 b3.2.2.2.1.length, .ls 3 b3.2.2.2.2.1.length, .ls 4 b3.2.2.2.2.2.length], .arr 3 1 0 (b3.2.2.2.1.flatMap eI), .arr 46 8 0 (b3.2.2.2.2.1.flatMap eGR11Tx), .arr 76 4 0 (b3.2.2.2.2.2.flatMap eGR10Read), .box v4, .box v6.1, .box v7.1, .dead]) ⟨⟨rfl, ⟨rfl, ⟨rfl, ⟨rfl, ⟨rfl, ⟨rfl, ⟨rfl, ⟨rfl, ⟨trivial, trivial⟩⟩⟩⟩⟩⟩⟩⟩⟩, ⟨⟨rfl, ⟨rfl, ⟨rfl, ⟨rfl, ⟨rfl, ⟨rfl, ⟨rfl, ⟨rfl, ⟨trivial, trivial⟩⟩⟩⟩⟩⟩⟩⟩⟩, ⟨⟨rfl, ⟨rfl, ⟨rfl, ⟨rfl, ⟨rfl, ⟨rfl, ⟨rfl, ⟨rfl, ⟨trivial, trivial⟩⟩⟩⟩⟩⟩⟩⟩⟩, trivial⟩⟩⟩) rfl rfl (opv_fieldAddr_lp fi36_0 rfl) ?_
        refine ev (sees_all (md := [.box a1, .box [.sl b3.1.length (b3.1.flatMap eGSsiTx), .sl b3.2.1.length (b3.2.1.flatMap eGReadsRead), .i .i64 b3.2.2.1, .ls 2 b3.2.2.2.1.length, .ls 3 b3.2.2.2.2.1.length, .ls 4 b3.2.2.2.2.2.length], .arr 3 1 0 (b3.2.2.2.1.flatMap eI), .arr 46 8 0 (b3.2.2.2.2.1.flatMap eGR11Tx), .arr 76 4 0 (b3.2.2.2.2.2.flatMap eGR10Read), .box v4, .box v6.1, .box v7.1, .dead]) ⟨⟨rfl, ⟨rfl, ⟨rfl, ⟨rfl, ⟨rfl, ⟨rfl, ⟨rfl, ⟨rfl, ⟨trivial, trivial⟩⟩⟩⟩⟩⟩⟩⟩⟩, ⟨⟨rfl, ⟨rfl, ⟨rfl, ⟨rfl, ⟨rfl, ⟨rfl, ⟨rfl, ⟨rfl, ⟨trivial, trivial⟩⟩⟩⟩⟩⟩⟩⟩⟩, ⟨⟨rfl, ⟨rfl, ⟨rfl, ⟨rfl, ⟨rfl, ⟨rfl, ⟨rfl, ⟨rfl, ⟨trivial, trivial⟩⟩⟩⟩⟩⟩⟩⟩⟩, trivial⟩⟩⟩) rfl rfl (opv_loadN ti31 rfl (.lp _ _ _ rfl) (Nat.le_of_ble_eq_true rfl)) ?_
        refine emv rfl rfl (fun _ => opv_mv rfl) ?_
        refine emv rfl rfl (fun _ => opv_mv rfl) ?_
        refine ev (sees_all (md := [.box a1, .box [.sl b3.1.length (b3.1.flatMap eGSsiTx), .sl b3.2.1.length (b3.2.1.flatMap eGReadsRead), .i .i64 b3.2.2.1, .ls 2 b3.2.2.2.1.length, .ls 3 b3.2.2.2.2.1.length, .ls 4 b3.2.2.2.2.2.length], .arr 3 1 0 (b3.2.2.2.1.flatMap eI), .arr 46 8 0 (b3.2.2.2.2.1.flatMap eGR11Tx), .arr 76 4 0 (b3.2.2.2.2.2.flatMap eGR10Read), .box v4, .box v6.1, .box v7.1, .dead]) ⟨⟨rfl, ⟨rfl, ⟨rfl, ⟨rfl, ⟨rfl, ⟨rfl, ⟨rfl, ⟨rfl, ⟨trivial, trivial⟩⟩⟩⟩⟩⟩⟩⟩⟩, ⟨⟨rfl, ⟨rfl, ⟨rfl, ⟨rfl, ⟨rfl, ⟨rfl, ⟨rfl, ⟨rfl, ⟨trivial, trivial⟩⟩⟩⟩⟩⟩⟩⟩⟩, ⟨⟨rfl, ⟨rfl, ⟨rfl, ⟨rfl, ⟨rfl, ⟨rfl, ⟨rfl, ⟨rfl, ⟨trivial, trivial⟩⟩⟩⟩⟩⟩⟩⟩⟩, trivial⟩⟩⟩) rfl rfl (opv_nilCheck rfl rfl (fun _ _ _ h => by cases h)) ?_
        refine ev (sees_all (md := [.box a1, .box [.sl b3.1.length (b3.1.flatMap eGSsiTx), .sl b3.2.1.length (b3.2.1.flatMap eGReadsRead), .i .i64 b3.2.2.1, .ls 2 b3.2.2.2.1.length, .ls 3 b3.2.2.2.2.1.length, .ls 4 b3.2.2.2.2.2.length], .arr 3 1 0 (b3.2.2.2.1.flatMap eI), .arr 46 8 0 (b3.2.2.2.2.1.flatMap eGR11Tx), .arr 76 4 0 (b3.2.2.2.2.2.flatMap eGR10Read), .box v4, .box v6.1, .box v7.1, .dead]) ⟨⟨rfl, ⟨rfl, ⟨rfl, ⟨rfl, ⟨rfl, ⟨rfl, ⟨rfl, ⟨rfl, ⟨trivial, trivial⟩⟩⟩⟩⟩⟩⟩⟩⟩, ⟨⟨rfl, ⟨rfl, ⟨rfl, ⟨rfl, ⟨rfl, ⟨rfl, ⟨rfl, ⟨rfl, ⟨trivial, trivial⟩⟩⟩⟩⟩⟩⟩⟩⟩, ⟨⟨rfl, ⟨rfl, ⟨rfl, ⟨rfl, ⟨rfl, ⟨rfl, ⟨rfl, ⟨rfl, ⟨trivial, trivial⟩⟩⟩⟩⟩⟩⟩⟩⟩, trivial⟩⟩⟩) rfl rfl (opv_fieldAddr_lp fi36_1 rfl) ?_
        refine ev (sees_all (md := [.box a1, .box [.sl b3.1.length (b3.1.flatMap eGSsiTx), .sl b3.2.1.length (b3.2.1.flatMap eGReadsRead), .i .i64 b3.2.2.1, .ls 2 b3.2.2.2.1.length, .ls 3 b3.2.2.2.2.1.length, .ls 4 b3.2.2.2.2.2.length], .arr 3 1 0 (b3.2.2.2.1.flatMap eI), .arr 46 8 0 (b3.2.2.2.2.1.flatMap eGR11Tx), .arr 76 4 0 (b3.2.2.2.2.2.flatMap eGR10Read), .box v4, .box v6.1, .box v7.1, .dead]) ⟨⟨rfl, ⟨rfl, ⟨rfl, ⟨rfl, ⟨rfl, ⟨rfl, ⟨rfl, ⟨rfl, ⟨trivial, trivial⟩⟩⟩⟩⟩⟩⟩⟩⟩, ⟨⟨rfl, ⟨rfl, ⟨rfl, ⟨rfl, ⟨rfl, ⟨rfl, ⟨rfl, ⟨rfl, ⟨trivial, trivial⟩⟩⟩⟩⟩⟩⟩⟩⟩, ⟨⟨rfl, ⟨rfl, ⟨rfl, ⟨rfl, ⟨rfl, ⟨rfl, ⟨rfl, ⟨rfl, ⟨trivial, trivial⟩⟩⟩⟩⟩⟩⟩⟩⟩, trivial⟩⟩⟩) rfl rfl (opv_load1 ti3 rfl (.lp _ _ _ rfl) rfl) ?_
        refine ev (sees_all (md := [.box a1, .box [.sl b3.1.length (b3.1.flatMap eGSsiTx), .sl b3.2.1.length (b3.2.1.flatMap eGReadsRead), .i .i64 b3.2.2.1, .ls 2 b3.2.2.2.1.length, .ls 3 b3.2.2.2.2.1.length, .ls 4 b3.2.2.2.2.2.length], .arr 3 1 0 (b3.2.2.2.1.flatMap eI), .arr 46 8 0 (b3.2.2.2.2.1.flatMap eGR11Tx), .arr 76 4 0 (b3.2.2.2.2.2.flatMap eGR10Read), .box v4, .box v6.1, .box v7.1, .dead]) ⟨⟨rfl, ⟨rfl, ⟨rfl, ⟨rfl, ⟨rfl, ⟨rfl, ⟨rfl, ⟨rfl, ⟨trivial, trivial⟩⟩⟩⟩⟩⟩⟩⟩⟩, ⟨⟨rfl, ⟨rfl, ⟨rfl, ⟨rfl, ⟨rfl, ⟨rfl, ⟨rfl, ⟨rfl, ⟨trivial, trivial⟩⟩⟩⟩⟩⟩⟩⟩⟩, ⟨⟨rfl, ⟨rfl, ⟨rfl, ⟨rfl, ⟨rfl, ⟨rfl, ⟨rfl, ⟨rfl, ⟨trivial, trivial⟩⟩⟩⟩⟩⟩⟩⟩⟩, trivial⟩⟩⟩) rfl rfl (opv_add rfl rfl) ?_
        refine ev (sees_all (md := [.box a1, .box [.sl b3.1.length (b3.1.flatMap eGSsiTx), .sl b3.2.1.length (b3.2.1.flatMap eGReadsRead), .i .i64 b3.2.2.1, .ls 2 b3.2.2.2.1.length, .ls 3 b3.2.2.2.2.1.length, .ls 4 b3.2.2.2.2.2.length], .arr 3 1 0 (b3.2.2.2.1.flatMap eI), .arr 46 8 0 (b3.2.2.2.2.1.flatMap eGR11Tx), .arr 76 4 0 (b3.2.2.2.2.2.flatMap eGR10Read), .box v4, .box v6.1, .box v7.1, .dead]) ⟨⟨rfl, ⟨rfl, ⟨rfl, ⟨rfl, ⟨rfl, ⟨rfl, ⟨rfl, ⟨rfl, ⟨trivial, trivial⟩⟩⟩⟩⟩⟩⟩⟩⟩, ⟨⟨rfl, ⟨rfl, ⟨rfl, ⟨rfl, ⟨rfl, ⟨rfl, ⟨rfl, ⟨rfl, ⟨trivial, trivial⟩⟩⟩⟩⟩⟩⟩⟩⟩, ⟨⟨rfl, ⟨rfl, ⟨rfl, ⟨rfl, ⟨rfl, ⟨rfl, ⟨rfl, ⟨rfl, ⟨trivial, trivial⟩⟩⟩⟩⟩⟩⟩⟩⟩, trivial⟩⟩⟩) rfl rfl (opv_fieldAddr_lp fi43_4 rfl) ?_
        refine ev (sees_all (md := [.box a1, .box [.sl b3.1.length (b3.1.flatMap eGSsiTx), .sl b3.2.1.length (b3.2.1.flatMap eGReadsRead), .i .i64 b3.2.2.1, .ls 2 b3.2.2.2.1.length, .ls 3 b3.2.2.2.2.1.length, .ls 4 b3.2.2.2.2.2.length], .arr 3 1 0 (b3.2.2.2.1.flatMap eI), .arr 46 8 0 (b3.2.2.2.2.1.flatMap eGR11Tx), .arr 76 4 0 (b3.2.2.2.2.2.flatMap eGR10Read), .box v4, .box v6.1, .box v7.1, .dead]) ⟨⟨rfl, ⟨rfl, ⟨rfl, ⟨rfl, ⟨rfl, ⟨rfl, ⟨rfl, ⟨rfl, ⟨trivial, trivial⟩⟩⟩⟩⟩⟩⟩⟩⟩, ⟨⟨rfl, ⟨rfl, ⟨rfl, ⟨rfl, ⟨rfl, ⟨rfl, ⟨rfl, ⟨rfl, ⟨trivial, trivial⟩⟩⟩⟩⟩⟩⟩⟩⟩, ⟨⟨rfl, ⟨rfl, ⟨rfl, ⟨rfl, ⟨rfl, ⟨rfl, ⟨rfl, ⟨rfl, ⟨trivial, trivial⟩⟩⟩⟩⟩⟩⟩⟩⟩, trivial⟩⟩⟩) rfl rfl (opv_load1 ti41 rfl (.lp _ _ _ rfl) rfl) ?_
        refine ed (sees_all (md := [.box a1, .box [.sl b3.1.length (b3.1.flatMap eGSsiTx), .sl b3.2.1.length (b3.2.1.flatMap eGReadsRead), .i .i64 b3.2.2.1, .ls 2 b3.2.2.2.1.length, .ls 3 b3.2.2.2.2.1.length, .ls 4 b3.2.2.2.2.2.length], .arr 3 1 0 (b3.2.2.2.1.flatMap eI), .arr 46 8 0 (b3.2.2.2.2.1.flatMap eGR11Tx), .arr 76 4 0 (b3.2.2.2.2.2.flatMap eGR10Read), .box v4, .box v6.1, .box v7.1, .dead]) ⟨⟨rfl, ⟨rfl, ⟨rfl, ⟨rfl, ⟨rfl, ⟨rfl, ⟨rfl, ⟨rfl, ⟨trivial, trivial⟩⟩⟩⟩⟩⟩⟩⟩⟩, ⟨⟨rfl, ⟨rfl, ⟨rfl, ⟨rfl, ⟨rfl, ⟨rfl, ⟨rfl, ⟨rfl, ⟨trivial, trivial⟩⟩⟩⟩⟩⟩⟩⟩⟩, ⟨⟨rfl, ⟨rfl, ⟨rfl, ⟨rfl, ⟨rfl, ⟨rfl, ⟨rfl, ⟨rfl, ⟨trivial, trivial⟩⟩⟩⟩⟩⟩⟩⟩⟩, trivial⟩⟩⟩) rfl rfl (opD_call fn20 (opnds_cons rfl (opnds_cons rfl (opnds_cons rfl (opnds_cons rfl opnds_nil)))) rfl (m20_ssi_Commit_c hv8)) ?_
        refine emv rfl rfl (fun _ => opv_mvt rfl) ?_
        refine ev (sees_all (md := [.box a1, .box [.sl b3.1.length (b3.1.flatMap eGSsiTx), .sl b3.2.1.length (b3.2.1.flatMap eGReadsRead), .i .i64 b3.2.2.1, .ls 2 b3.2.2.2.1.length, .ls 3 b3.2.2.2.2.1.length, .ls 4 b3.2.2.2.2.2.length], .arr 3 1 0 (b3.2.2.2.1.flatMap eI), .arr 46 8 0 (b3.2.2.2.2.1.flatMap eGR11Tx), .arr 76 4 0 (b3.2.2.2.2.2.flatMap eGR10Read), .box v4, .box v6.1, .box v7.1, .dead]) ⟨⟨rfl, ⟨rfl, ⟨rfl, ⟨rfl, ⟨rfl, ⟨rfl, ⟨rfl, ⟨rfl, ⟨trivial, trivial⟩⟩⟩⟩⟩⟩⟩⟩⟩, ⟨⟨rfl, ⟨rfl, ⟨rfl, ⟨rfl, ⟨rfl, ⟨rfl, ⟨rfl, ⟨rfl, ⟨trivial, trivial⟩⟩⟩⟩⟩⟩⟩⟩⟩, ⟨⟨rfl, ⟨rfl, ⟨rfl, ⟨rfl, ⟨rfl, ⟨rfl, ⟨rfl, ⟨rfl, ⟨trivial, trivial⟩⟩⟩⟩⟩⟩⟩⟩⟩, trivial⟩⟩⟩) rfl rfl (opv_extract rfl rfl) ?_
        refine ev (sees_all (md := [.box a1, .box [.sl b3.1.length (b3.1.flatMap eGSsiTx), .sl b3.2.1.length (b3.2.1.flatMap eGReadsRead), .i .i64 b3.2.2.1, .ls 2 b3.2.2.2.1.length, .ls 3 b3.2.2.2.2.1.length, .ls 4 b3.2.2.2.2.2.length], .arr 3 1 0 (b3.2.2.2.1.flatMap eI), .arr 46 8 0 (b3.2.2.2.2.1.flatMap eGR11Tx), .arr 76 4 0 (b3.2.2.2.2.2.flatMap eGR10Read), .box v4, .box v6.1, .box v7.1, .dead]) ⟨⟨rfl, ⟨rfl, ⟨rfl, ⟨rfl, ⟨rfl, ⟨rfl, ⟨rfl, ⟨rfl, ⟨trivial, trivial⟩⟩⟩⟩⟩⟩⟩⟩⟩, ⟨⟨rfl, ⟨rfl, ⟨rfl, ⟨rfl, ⟨rfl, ⟨rfl, ⟨rfl, ⟨rfl, ⟨trivial, trivial⟩⟩⟩⟩⟩⟩⟩⟩⟩, ⟨⟨rfl, ⟨rfl, ⟨rfl, ⟨rfl, ⟨rfl, ⟨rfl, ⟨rfl, ⟨rfl, ⟨trivial, trivial⟩⟩⟩⟩⟩⟩⟩⟩⟩, trivial⟩⟩⟩) rfl rfl (opv_extract rfl rfl) ?_
        refine ee (x := .s (.one (.lp 8 0))) 0 rfl rfl rfl rfl rfl (fun ζ => ?_) ?_
        · refine salloc_at 8 rfl zi31 rfl ?_
          exact eend
        refine ee0 1 rfl rfl rfl rfl (fun ζ => ?_) ?_
        · refine sstore sz31 rfl rfl rfl rfl (Nat.le_of_ble_eq_true rfl) ?_
          refine smem [.box a1, .box [.sl b3.1.length (b3.1.flatMap eGSsiTx), .sl b3.2.1.length (b3.2.1.flatMap eGReadsRead), .i .i64 b3.2.2.1, .ls 2 b3.2.2.2.1.length, .ls 3 b3.2.2.2.2.1.length, .ls 4 b3.2.2.2.2.2.length], .arr 3 1 0 (b3.2.2.2.1.flatMap eI), .arr 46 8 0 (b3.2.2.2.2.1.flatMap eGR11Tx), .arr 76 4 0 (b3.2.2.2.2.2.flatMap eGR10Read), .box v4, .box v6.1, .box v7.1, .box v8.1] rfl ?_
          exact eend
        refine ev (sees_at 2 rfl rfl) rfl rfl (opv_as rfl) ?_
        refine enil ?_
        refine then_normal ?_
        refine cseq ?_
        refine cregion ?_
        refine sv rfl (opv_mv rfl) ?_
        refine sv rfl (opv_nilCheck rfl rfl (fun _ _ _ h => by cases h)) ?_
        refine sv rfl (opv_fieldAddr_lp fi36_0 rfl) ?_
        refine sv rfl (opv_loadN ti31 rfl (.lp _ _ _ rfl) (Nat.le_of_ble_eq_true rfl)) ?_
        refine sv rfl (opv_mv rfl) ?_
        obtain ⟨v9, hv9, h⟩ := bind_eq h
        refine scall1 rfl fn15 (opnds_cons rfl (opnds_cons rfl opnds_nil)) (pubA_id rfl) (m15_ssi_Abort_c hv9) ?_
        refine snil ?_
        refine cseq ?_
        refine cregion ?_
        refine sv rfl (opv_mv rfl) ?_
        refine sv rfl (opv_nilCheck rfl rfl (fun _ _ _ h => by cases h)) ?_
        refine sv rfl (opv_fieldAddr_lp fi36_0 rfl) ?_
        refine sv rfl (opv_loadN ti31 rfl (.lp _ _ _ rfl) (Nat.le_of_ble_eq_true rfl)) ?_
        obtain ⟨v10, hv10, h⟩ := bind_eq h
        refine scall1 rfl fn16 (opnds_cons rfl opnds_nil) (pubA_id rfl) (m16_ssi_Clean_c hv10) ?_
        refine snil ?_
        refine cseq ?_
        refine cregion ?_
        refine sv rfl (opv_build zi63 pi63 parts_nil (.nil _)) ?_
        refine salloc rfl zi63 ?_
        refine sstore sz63 rfl rfl rfl rfl (Nat.le_of_ble_eq_true rfl) ?_
        refine smem [.box a1, .box [.sl b3.1.length (b3.1.flatMap eGSsiTx), .sl b3.2.1.length (b3.2.1.flatMap eGReadsRead), .i .i64 b3.2.2.1, .ls 2 b3.2.2.2.1.length, .ls 3 b3.2.2.2.2.1.length, .ls 4 b3.2.2.2.2.2.length], .arr 3 1 0 (b3.2.2.2.1.flatMap eI), .arr 46 8 0 (b3.2.2.2.2.1.flatMap eGR11Tx), .arr 76 4 0 (b3.2.2.2.2.2.flatMap eGR10Read), .box v4, .box v6.1, .box v7.1, .box v8.1, .box [.raw (.slice none 0 0), .raw (.slice none 0 0)]] rfl ?_
        refine snil ?_
        refine cseq ?_
        refine cdraw mixed (by kernel_rfl) ?_
        refine dv rfl (opv_mv rfl) ?_
        refine dv rfl (opv_mv rfl) ?_
        refine dsplit 121 rfl (fun hc => ?_) (fun hc => ?_)
        · replace h := ite_t hc h
          clear hc
          refine dvg rfl rfl rfl (opv_mv rfl) ?_
          refine dvg rfl rfl rfl (opv_nilCheck rfl rfl (fun _ _ _ h => by cases h)) ?_
          refine dvg rfl rfl rfl (opv_fieldAddr_lp fi36_0 rfl) ?_
          refine dvg rfl rfl rfl (opv_loadN ti31 rfl (.lp _ _ _ rfl) (Nat.le_of_ble_eq_true rfl)) ?_
          obtain ⟨v11, hv11, h⟩ := bind_eq h
          refine ddg rfl rfl rfl (opD_call fn21 (opnds_cons rfl opnds_nil) rfl (m21_l11_theirs_c hv11)) ?_
          refine dvg rfl rfl rfl (opv_loadN ti63 rfl (.lp _ _ _ rfl) (Nat.le_of_ble_eq_true rfl)) ?_
          obtain ⟨v12, hv12, h⟩ := bind_eq h
          refine ddg rfl rfl rfl (opD_call fn22 (opnds_cons rfl (opnds_cons rfl opnds_nil)) rfl (m22_r11_Same_c hv12)) ?_
          refine dv rfl (opv_pick_t rfl rfl) ?_
          refine dv rfl (opv_mv rfl) ?_
          refine dsplit 130 rfl (fun hc => ?_) (fun hc => ?_)
          · replace h := ite_t hc h
            clear hc
            refine dvg rfl rfl rfl (opv_mv rfl) ?_
            refine dvg rfl rfl rfl (opv_ieql rfl rfl) ?_
            refine dvg rfl rfl rfl (opv_loadN ti31 rfl (.lp _ _ _ rfl) (Nat.le_of_ble_eq_true rfl)) ?_
            obtain ⟨v13, hv13, h⟩ := bind_eq h
            refine ddg rfl rfl rfl (opD_call fn21 (opnds_cons rfl opnds_nil) rfl (m21_l11_theirs_c hv13)) ?_
            refine dvg rfl rfl rfl (opv_loadN ti63 rfl (.lp _ _ _ rfl) (Nat.le_of_ble_eq_true rfl)) ?_
            obtain ⟨v14, hv14, h⟩ := bind_eq h
            refine ddg rfl rfl rfl (opD_callN fn22 (opnds_cons rfl (opnds_cons rfl opnds_nil)) rfl (m22_r11_Same_c hv14)) ?_
            refine dvg rfl rfl rfl (opv_bneq Try.underlying4 rfl rfl) ?_
            refine dv rfl (opv_pick_t rfl rfl) ?_
            refine dv rfl (opv_mv rfl) ?_
            refine dsplit 139 rfl (fun hc => ?_) (fun hc => ?_)
            · replace h := ite_t hc h
              clear hc
              refine dvg rfl rfl rfl (opv_mv rfl) ?_
              refine dvg rfl rfl rfl (opv_ieql rfl rfl) ?_
              refine dvg rfl rfl rfl (opv_loadN ti31 rfl (.lp _ _ _ rfl) (Nat.le_of_ble_eq_true rfl)) ?_
              obtain ⟨v15, hv15, h⟩ := bind_eq h
              refine ddg rfl rfl rfl (opD_call fn21 (opnds_cons rfl opnds_nil) rfl (m21_l11_theirs_c hv15)) ?_
              refine dvg rfl rfl rfl (opv_loadN ti63 rfl (.lp _ _ _ rfl) (Nat.le_of_ble_eq_true rfl)) ?_
              obtain ⟨v16, hv16, h⟩ := bind_eq h
              refine ddg rfl rfl rfl (opD_callN fn22 (opnds_cons rfl (opnds_cons rfl opnds_nil)) rfl (m22_r11_Same_c hv16)) ?_
              refine dvg rfl rfl rfl (opv_bneq Try.underlying4 rfl rfl) ?_
              refine dv rfl (opv_pick_t rfl rfl) ?_
              refine dv rfl (opv_mv rfl) ?_
              refine dsplit 148 rfl (fun hc => ?_) (fun hc => ?_)
              · replace h := ite_t hc h
                clear hc
                refine dvg rfl rfl rfl (opv_mv rfl) ?_
                refine dvg rfl rfl rfl (opv_ieql rfl rfl) ?_
                refine dvg rfl rfl rfl (opv_loadN ti31 rfl (.lp _ _ _ rfl) (Nat.le_of_ble_eq_true rfl)) ?_
                obtain ⟨v17, hv17, h⟩ := bind_eq h
                refine ddg rfl rfl rfl (opD_call fn21 (opnds_cons rfl opnds_nil) rfl (m21_l11_theirs_c hv17)) ?_
                refine dvg rfl rfl rfl (opv_loadN ti63 rfl (.lp _ _ _ rfl) (Nat.le_of_ble_eq_true rfl)) ?_
                obtain ⟨v18, hv18, h⟩ := bind_eq h
                refine ddg rfl rfl rfl (opD_callN fn22 (opnds_cons rfl (opnds_cons rfl opnds_nil)) rfl (m22_r11_Same_c hv18)) ?_
                refine dvg rfl rfl rfl (opv_bneq Try.underlying4 rfl rfl) ?_
                refine dv rfl (opv_pick_t rfl rfl) ?_
                refine dv rfl (opv_as rfl) ?_
                refine dnil ?_
                refine then_normal ?_
                refine cret ?_
                obtain rfl := Option.some.inj h
                refine ⟨Or.inr rfl, _, _, _, (resVs_cons (ResV.tmp _ _ rfl) resVs_nil), (pubA_id rfl), ?_⟩
                rfl
              · replace h := ite_f hc h
                clear hc
                refine doff rfl rfl rfl rfl ?_
                refine doff rfl rfl rfl rfl ?_
                refine doff rfl rfl rfl rfl ?_
                refine doff rfl rfl rfl rfl ?_
                refine doff rfl rfl rfl rfl ?_
                refine doff rfl rfl rfl rfl ?_
                refine doff rfl rfl rfl rfl ?_
                refine dv rfl (opv_pick_f rfl rfl) ?_
                refine dv rfl (opv_as rfl) ?_
                refine dnil ?_
                refine then_normal ?_
                refine cret ?_
                obtain rfl := Option.some.inj h
                refine ⟨Or.inr rfl, _, _, _, (resVs_cons (ResV.tmp _ _ rfl) resVs_nil), (pubA_id rfl), ?_⟩
                rfl
            · replace h := ite_f hc h
              clear hc
              refine doff rfl rfl rfl rfl ?_
              refine doff rfl rfl rfl rfl ?_
              refine doff rfl rfl rfl rfl ?_
              refine doff rfl rfl rfl rfl ?_
              refine doff rfl rfl rfl rfl ?_
              refine doff rfl rfl rfl rfl ?_
              refine doff rfl rfl rfl rfl ?_
              refine dv rfl (opv_pick_f rfl rfl) ?_
              refine dv rfl (opv_mv rfl) ?_
              refine doff rfl rfl rfl rfl ?_
              refine doff rfl rfl rfl rfl ?_
              refine doff rfl rfl rfl rfl ?_
              refine doff rfl rfl rfl rfl ?_
              refine doff rfl rfl rfl rfl ?_
              refine doff rfl rfl rfl rfl ?_
              refine doff rfl rfl rfl rfl ?_
              refine dv rfl (opv_pick_f rfl rfl) ?_
              refine dv rfl (opv_as rfl) ?_
              refine dnil ?_
              refine then_normal ?_
              refine cret ?_
              obtain rfl := Option.some.inj h
              refine ⟨Or.inr rfl, _, _, _, (resVs_cons (ResV.tmp _ _ rfl) resVs_nil), (pubA_id rfl), ?_⟩
              rfl
          · replace h := ite_f hc h
            clear hc
            refine doff rfl rfl rfl rfl ?_
            refine doff rfl rfl rfl rfl ?_
            refine doff rfl rfl rfl rfl ?_
            refine doff rfl rfl rfl rfl ?_
            refine doff rfl rfl rfl rfl ?_
            refine doff rfl rfl rfl rfl ?_
            refine doff rfl rfl rfl rfl ?_
            refine dv rfl (opv_pick_f rfl rfl) ?_
            refine dv rfl (opv_mv rfl) ?_
            refine doff rfl rfl rfl rfl ?_
            refine doff rfl rfl rfl rfl ?_
            refine doff rfl rfl rfl rfl ?_
            refine doff rfl rfl rfl rfl ?_
            refine doff rfl rfl rfl rfl ?_
            refine doff rfl rfl rfl rfl ?_
            refine doff rfl rfl rfl rfl ?_
            refine dv rfl (opv_pick_f rfl rfl) ?_
            refine dv rfl (opv_mv rfl) ?_
            refine doff rfl rfl rfl rfl ?_
            refine doff rfl rfl rfl rfl ?_
            refine doff rfl rfl rfl rfl ?_
            refine doff rfl rfl rfl rfl ?_
            refine doff rfl rfl rfl rfl ?_
            refine doff rfl rfl rfl rfl ?_
            refine doff rfl rfl rfl rfl ?_
            refine dv rfl (opv_pick_f rfl rfl) ?_
            refine dv rfl (opv_as rfl) ?_
            refine dnil ?_
            refine then_normal ?_
            refine cret ?_
            obtain rfl := Option.some.inj h
            refine ⟨Or.inr rfl, _, _, _, (resVs_cons (ResV.tmp _ _ rfl) resVs_nil), (pubA_id rfl), ?_⟩
            rfl
        · replace h := ite_f hc h
          clear hc
          refine doff rfl rfl rfl rfl ?_
          refine doff rfl rfl rfl rfl ?_
          refine doff rfl rfl rfl rfl ?_
          refine doff rfl rfl rfl rfl ?_
          refine doff rfl rfl rfl rfl ?_
          refine doff rfl rfl rfl rfl ?_
          refine doff rfl rfl rfl rfl ?_
          refine dv rfl (opv_pick_f rfl rfl) ?_
          refine dv rfl (opv_mv rfl) ?_
          refine doff rfl rfl rfl rfl ?_
          refine doff rfl rfl rfl rfl ?_
          refine doff rfl rfl rfl rfl ?_
          refine doff rfl rfl rfl rfl ?_
          refine doff rfl rfl rfl rfl ?_
          refine doff rfl rfl rfl rfl ?_
          refine doff rfl rfl rfl rfl ?_
          refine dv rfl (opv_pick_f rfl rfl) ?_
          refine dv rfl (opv_mv rfl) ?_
          refine doff rfl rfl rfl rfl ?_
          refine doff rfl rfl rfl rfl ?_
          refine doff rfl rfl rfl rfl ?_
          refine doff rfl rfl rfl rfl ?_
          refine doff rfl rfl rfl rfl ?_
          refine doff rfl rfl rfl rfl ?_
          refine doff rfl rfl rfl rfl ?_
          refine dv rfl (opv_pick_f rfl rfl) ?_
          refine dv rfl (opv_mv rfl) ?_
          refine doff rfl rfl rfl rfl ?_
          refine doff rfl rfl rfl rfl ?_
          refine doff rfl rfl rfl rfl ?_
          refine doff rfl rfl rfl rfl ?_
          refine doff rfl rfl rfl rfl ?_
          refine doff rfl rfl rfl rfl ?_
          refine doff rfl rfl rfl rfl ?_
          refine dv rfl (opv_pick_f rfl rfl) ?_
          refine dv rfl (opv_as rfl) ?_
          refine dnil ?_
          refine then_normal ?_
          refine cret ?_
          obtain rfl := Option.some.inj h
          refine ⟨Or.inr rfl, _, _, _, (resVs_cons (ResV.tmp _ _ rfl) resVs_nil), (pubA_id rfl), ?_⟩
          rfl
      · skip
        refine ccond rfl (fun hc => ?_) (fun hc => ?_)
        · replace h := ite_t hc h
          clear hc
          refine cdraw mixed (by kernel_rfl) ?_
          refine dv rfl (opv_fieldAddr_lp fi43_1 rfl) ?_
          refine dv rfl (opv_load1 ti3 rfl (.lp _ _ _ rfl) rfl) ?_
          refine dv rfl (opv_and rfl rfl) ?_
          refine dv rfl (opv_mv rfl) ?_
          refine dv rfl (opv_nilCheck rfl rfl (fun _ _ _ h => by cases h)) ?_
          refine dv rfl (opv_fieldAddr_lp fi36_2 rfl) ?_
          refine dv rfl (opv_load1 ti32 rfl (.lp _ _ _ rfl) rfl) ?_
          refine dv rfl (opv_len_ls si32 rfl rfl (flat_len (f := eI) (fun _ => rfl) _).symm) ?_
          obtain ⟨hz19, h⟩ := chk_eq h
          refine dv rfl (opv_rem rfl rfl hz19) ?_
          refine dv rfl (opv_as rfl) ?_
          refine dnil ?_
          refine then_normal ?_
          exact ⟨((wI ((BitVec.ofInt 64 a1.N &&& BitVec.ofInt 64 65535).toNat : Int)).tmod (b3.2.2.2.1.length : Int)), _, h, ⟨rfl, rfl, rfl, rfl, rfl, trivial⟩, rfl⟩
        · replace h := ite_f hc h
          clear hc
          refine cskip ?_
          refine then_normal ?_
          exact ⟨0, _, h, ⟨rfl, rfl, rfl, rfl, rfl, trivial⟩, rfl⟩
    · skip
      refine cblock ?_
      refine cpubbox 1 0 rfl rfl PubL.nil rfl ?_
      refine cpubbox 1 1 rfl rfl PubL.nil rfl ?_
      obtain ⟨x20, hx20, ho20⟩ := bind_eq h
      refine awc_loop (G := Nat × (Int × (List GSsiTx) × (List GReadsRead) × Int × (List Int) × (List GR11Tx) × (List GR10Read))) (fun g => [(0, .s (.one (.sl a0.length (a0.flatMap eGL11Act)))), (3, .s (.one (.lp 0 0))), (5, .s (.one (.b v1))), (6, .s (.one (.lp 1 0))), (7, .s (.one (.i .i64 g.2.1)))]) (fun g => [.box a1, .box [.sl g.2.2.1.length (g.2.2.1.flatMap eGSsiTx), .sl g.2.2.2.1.length (g.2.2.2.1.flatMap eGReadsRead), .i .i64 g.2.2.2.2.1, .ls 2 g.2.2.2.2.2.1.length, .ls 3 g.2.2.2.2.2.2.1.length, .ls 4 g.2.2.2.2.2.2.2.length], .arr 3 1 0 (g.2.2.2.2.2.1.flatMap eI), .arr 46 8 0 (g.2.2.2.2.2.2.1.flatMap eGR11Tx), .arr 76 4 0 (g.2.2.2.2.2.2.2.flatMap eGR10Read)]) (fun g => iterB (m6_l11_SsiStill_s20 a0) g.1 g.2 = some x20) (fun g => g.1) (fuel, (0, ([] : List GSsiTx), ([] : List GReadsRead), 0, ([] : List Int), ([] : List GR11Tx), ([] : List GR10Read))) hx20 ⟨rfl, rfl, rfl, rfl, rfl, trivial⟩ [] rfl (fun _ _ => inbL_of rfl) (fun _ _ => blkinb_of rfl) (fun _ _ => Nat.le_of_ble_eq_true rfl) ?_
      clear hx20 h
      rintro ⟨n20, s20⟩ h
      obtain ⟨n20, y20, rfl, h, hk20⟩ := iterB_eq h
      unfold m6_l11_SsiStill_s20 at h
      refine cseq ?_
      refine cseq ?_
      refine cregion ?_
      refine sv rfl (opv_mv rfl) ?_
      refine sv rfl (opv_mv rfl) ?_
      refine sv rfl (opv_len_sl si22 rfl) ?_
      refine sv rfl (opv_lss rfl rfl) ?_
      refine snil ?_
      refine ccond rfl (fun hc => ?_) (fun hc => ?_)
      · replace h := ite_t hc h
        clear hc
        refine cskip ?_
        refine then_normal ?_
        refine cseq ?_
        refine cblock ?_
        refine cregion ?_
        refine sv rfl (opv_mv rfl) ?_
        refine sv rfl (opv_mv rfl) ?_
        refine sv rfl (opv_mv rfl) ?_
        obtain ⟨u21, hu21, h⟩ := bind_eq h
        refine sv rfl (opv_ix (f := eGL11Act) si22 (fun _ => rfl) rfl rfl rfl rfl hu21) ?_
        refine sv rfl (opv_loadNe (ys := [.i .i64 u21.What, .i .i64 u21.N, .b u21.RO, .sl u21.Rng.Lo.length (u21.Rng.Lo.flatMap eU8), .sl u21.Rng.Hi.length (u21.Rng.Hi.flatMap eU8), .b u21.Rng.Open, .sl u21.Keys.length (u21.Keys.flatMap (eL eU8))]) ti43 rfl (.cp _) rfl rfl) ?_
        obtain ⟨v22, hv22, h⟩ := bind_eq h
        refine scallB (x' := .tup []) (M' := [.box a1, .box [.sl v22.1.length (v22.1.flatMap eGSsiTx), .sl v22.2.1.length (v22.2.1.flatMap eGReadsRead), .i .i64 v22.2.2.1, .ls 2 v22.2.2.2.1.length, .ls 3 v22.2.2.2.2.1.length, .ls 4 v22.2.2.2.2.2.length], .arr 3 1 0 (v22.2.2.2.1.flatMap eI), .arr 46 8 0 (v22.2.2.2.2.1.flatMap eGR11Tx), .arr 76 4 0 (v22.2.2.2.2.2.flatMap eGR10Read)]) [1, 2, 3, 4] rfl fn11 (.func _) (opnds_cons rfl (opnds_cons rfl opnds_nil)) (m11_l11_world_dos_c hv22) rfl rfl (by decide) rfl rfl rfl ?_
        refine snil0 ?_
        refine block_normal ?_
        refine then_normal ?_
        refine cregion ?_
        refine sv rfl (opv_mv rfl) ?_
        refine sv rfl (opv_add rfl rfl) ?_
        refine sv rfl (opv_as rfl) ?_
        refine snil ?_
        obtain rfl := Option.some.inj h
        exact ⟨(n20, ((wI (s20.1 + 1)), v22.1, v22.2.1, v22.2.2.1, v22.2.2.2.1, v22.2.2.2.2.1, v22.2.2.2.2.2)), _, hk20, ⟨rfl, rfl, rfl, rfl, rfl, trivial⟩, rfl, Nat.lt_succ_self _⟩
      · replace h := ite_f hc h
        clear hc
        refine cexit ?_
        refine then_exit ?_
        refine then_exit ?_
        refine block_hit ?_
        refine then_normal ?_
        obtain rfl := Option.some.inj h
        obtain rfl : _ = x20 := hk20
        exact ⟨(s20.2.1, s20.2.2.1, s20.2.2.2.1, s20.2.2.2.2.1, s20.2.2.2.2.2.1, s20.2.2.2.2.2.2), _, ho20, ⟨rfl, rfl, rfl, trivial⟩, rfl⟩
  · skip
    refine cregion ?_
    refine sv rfl (opv_mv rfl) ?_
    obtain ⟨v24, hv24, h⟩ := bind_eq h
    refine scall1 rfl fn10 (opnds_cons rfl opnds_nil) (pubA_id rfl) (m10_l11_small_c hv24) ?_
    refine sv rfl (opv_not rfl) ?_
    refine sv rfl (opv_mv rfl) ?_
    refine ssplit 21 rfl (fun hc => ?_) (fun hc => ?_)
    · replace h := ite_t hc h
      clear hc
      refine soff rfl rfl rfl rfl ?_
      refine soff rfl rfl rfl rfl ?_
      refine soff rfl rfl rfl rfl ?_
      refine soff rfl rfl rfl rfl ?_
      refine sv rfl (opv_pick_t rfl rfl) ?_
      refine snil ?_
      refine ccond rfl (fun _ => ?_) (fun hx => Bool.noConfusion hx)
      refine cseq ?_
      refine cregion ?_
      refine sv rfl (opv_mv rfl) ?_
      refine sv rfl (opv_as rfl) ?_
      refine snil ?_
      refine cret ?_
      refine then_ret ?_
      obtain rfl := Option.some.inj h
      refine ⟨Or.inr rfl, _, _, _, (resVs_cons (ResV.tmp _ _ rfl) resVs_nil), (pubA_id rfl), ?_⟩
      rfl
    · replace h := ite_f hc h
      clear hc
      refine son rfl rfl rfl ?_
      refine sv rfl (opv_loadN ti43 rfl (.lp _ _ _ rfl) (Nat.le_of_ble_eq_true rfl)) ?_
      refine son rfl rfl rfl ?_
      refine sbuild1 rfl Try.underlying22 ei43 rfl rfl (List.all_eq_true.1 rfl) (by decide) ?_
      refine smem [.box a1, .arr 43 7 0 ([(GL11Act.mk a1.What a1.N a1.RO (GApiRange.mk a1.Rng.Lo a1.Rng.Hi a1.Rng.Open) a1.Keys)].flatMap eGL11Act)] rfl ?_
      refine son rfl rfl rfl ?_
      refine spub 23 rfl (by (repeat' first | exact PubA.nil _ | apply PubA.cons | apply PubV.one | apply PubV.agg | exact PubL.nil | exact PubL.ls _ _ _ _ _ _ rfl (flat_len (f := eGL11Act) (fun _ => rfl) ([(GL11Act.mk a1.What a1.N a1.RO (GApiRange.mk a1.Rng.Lo a1.Rng.Hi a1.Rng.Open) a1.Keys)] : List GL11Act)).symm | exact PubL.ls _ _ _ _ _ _ rfl (flat_len (f := eGL11Act) (fun _ => rfl) _).symm | exact PubL.id _ rfl | exact PubLs.nil _ | apply PubLs.cons)) ?_
      obtain ⟨v25, hv25, h⟩ := bind_eq h
      refine scall1 rfl fn10 (opnds_cons rfl opnds_nil) (pubA_id rfl) (m10_l11_small_c hv25) ?_
      refine son rfl rfl rfl ?_
      refine sv rfl (opv_not rfl) ?_
      refine sv rfl (opv_pick_f rfl rfl) ?_
      refine snil ?_
      refine ccond rfl (fun hc => ?_) (fun hc => ?_)
      · replace h := ite_t hc h
        clear hc
        refine cseq ?_
        refine cregion ?_
        refine sv rfl (opv_mv rfl) ?_
        refine sv rfl (opv_as rfl) ?_
        refine snil ?_
        refine cret ?_
        refine then_ret ?_
        obtain rfl := Option.some.inj h
        refine ⟨Or.inr rfl, _, _, _, (resVs_cons (ResV.tmp _ _ rfl) resVs_nil), (pubA_id rfl), ?_⟩
        rfl
      · replace h := ite_f hc h
        clear hc
        refine cskip ?_
        refine then_normal ?_
        exact ⟨(), _, h, ⟨rfl, rfl, rfl, trivial⟩, rfl⟩

def m24_ssi_Find (a0 : GSsiCert) (a1 : Int) : Option (GSsiTx × Bool) :=
  (m37_ssi_place (GSsiCert.mk a0.Txs (GReadsTable.mk a0.Reads.L)) a1).bind fun v1 => if (decide (v1 < 0)) then (some ((GSsiTx.mk 0 0 0 0 false false false ([] : List (List UInt8))), false)) else ((idx a0.Txs v1).bind fun u2 => some (u2, true))

set_option maxRecDepth 100000 in
theorem m24_ssi_Find_c {a0 : GSsiCert} {a1 : Int} {r : GSsiTx × Bool} (h : m24_ssi_Find a0 a1 = some r) : CallsA Try.prog 24 [.agg a0, .one (.i .i64 a1)] (· = .tup [.agg r.1, .one (.b r.2)]) := by
  unfold m24_ssi_Find at h
  refine callsA_of Try.func24 rfl (nt := 18) rfl (Nat.le_of_ble_eq_true rfl) ?_
  intro w0 S0
  refine cseq ?_
  refine cregion ?_
  refine sbox rfl rfl ?_
  refine salloc rfl zi48 ?_
  refine sv rfl (opv_as rfl) ?_
  refine snil ?_
  refine cseq ?_
  refine cregion ?_
  refine sv rfl (opv_loadN ti31 rfl (.lp _ _ _ rfl) (Nat.le_of_ble_eq_true rfl)) ?_
  refine sv rfl (opv_mv rfl) ?_
  obtain ⟨v1, hv1, h⟩ := bind_eq h
  refine scall1 rfl fn37 (opnds_cons rfl (opnds_cons rfl opnds_nil)) (pubA_id rfl) (m37_ssi_place_c hv1) ?_
  refine sv rfl (opv_as rfl) ?_
  refine snil ?_
  refine cseq ?_
  refine cseq ?_
  refine cregion ?_
  refine sv rfl (opv_mv rfl) ?_
  refine sv rfl (opv_lss rfl rfl) ?_
  refine snil ?_
  refine ccond rfl (fun hc => ?_) (fun hc => ?_)
  · replace h := ite_t hc h
    clear hc
    refine cseq ?_
    refine cregion ?_
    refine sv rfl (opv_build zi48 pi48 parts_nil (.nil _)) ?_
    refine sstore sz48 rfl rfl rfl rfl (Nat.le_of_ble_eq_true rfl) ?_
    refine smem [.box a0, .box [.i .i64 0, .i .i64 0, .i .i64 0, .i .i64 0, .b false, .b false, .b false, .raw (.slice none 0 0)]] rfl ?_
    refine sv rfl (opv_as rfl) ?_
    refine snil ?_
    refine cret ?_
    refine then_ret ?_
    obtain rfl := Option.some.inj h
    refine ⟨Or.inr rfl, _, _, _, (resVs_cons (ResV.agg _ _ _ _ _ ti48 rfl (.lp _ _ _ rfl) (Nat.le_of_ble_eq_true rfl)) (resVs_cons (ResV.tmp _ _ rfl) resVs_nil)), (pubC rfl), ?_⟩
    rfl
  · replace h := ite_f hc h
    clear hc
    refine cskip ?_
    refine then_normal ?_
    refine cseq ?_
    refine cregion ?_
    refine sv rfl (opv_fieldAddr_lp fi31_0 rfl) ?_
    refine sv rfl (opv_load1 ti26 rfl (.lp _ _ _ rfl) rfl) ?_
    refine sv rfl (opv_mv rfl) ?_
    obtain ⟨u2, hu2, h⟩ := bind_eq h
    refine sv rfl (opv_ix (f := eGSsiTx) si26 (fun _ => rfl) rfl rfl rfl rfl hu2) ?_
    refine sv rfl (opv_loadNe (ys := [.i .i64 u2.ID, .i .i64 u2.Begin, .i .i64 u2.End, .i .i64 u2.State, .b u2.In, .b u2.Out, .b u2.RO, .sl u2.Keys.length (u2.Keys.flatMap (eL eU8))]) ti48 rfl (.cp _) rfl rfl) ?_
    refine sstore sz48 rfl rfl rfl rfl (Nat.le_of_ble_eq_true rfl) ?_
    refine smem [.box a0, .box u2] rfl ?_
    refine sv rfl (opv_as rfl) ?_
    refine snil ?_
    refine cret ?_
    obtain rfl := Option.some.inj h
    refine ⟨Or.inr rfl, _, _, _, (resVs_cons (ResV.agg _ _ _ _ _ ti48 rfl (.lp _ _ _ rfl) (Nat.le_of_ble_eq_true rfl)) (resVs_cons (ResV.tmp _ _ rfl) resVs_nil)), (pubA_id rfl), ?_⟩
    rfl

def m7_l11_SsiCleans_k7 (v1 : Bool) (v4 : GSsiCert) (b7 : Int) : Option Bool :=
  if v1 then (if (decide ((v4.Reads.L.length : Int) = b7)) then ((m13_ssi_Sane (GSsiCert.mk v4.Txs (GReadsTable.mk v4.Reads.L))).bind fun v8 => if v8 then ((m16_ssi_Clean (GSsiCert.mk v4.Txs (GReadsTable.mk v4.Reads.L))).bind fun v9 => (m21_l11_theirs (GSsiCert.mk v9.Txs (GReadsTable.mk v9.Reads.L))).bind fun v10 => (m21_l11_theirs (GSsiCert.mk v4.Txs (GReadsTable.mk v4.Reads.L))).bind fun v11 => (m27_r10_Same (GR10Table.mk v10.Reads.L) (GR10Table.mk v11.Reads.L)).bind fun v12 => if v12 then ((m16_ssi_Clean (GSsiCert.mk v4.Txs (GReadsTable.mk v4.Reads.L))).bind fun v13 => some (decide ((v13.Txs.length : Int) = (v4.Txs.length : Int)))) else (some false)) else (some false)) else (some false)) else (some false)

def m7_l11_SsiCleans_s14 (b3 : (List GSsiTx) × (List GReadsRead) × Int × (List Int) × (List GR11Tx) × (List GR10Read)) (v4 : GSsiCert) (s14 : Int × Int) : Option (LB (Int × Int) (Int)) :=
  if (decide (s14.2 < (b3.2.1.length : Int))) then ((idx b3.2.1 s14.2).bind fun u15 => (m24_ssi_Find (GSsiCert.mk v4.Txs (GReadsTable.mk v4.Reads.L)) u15.Tx).bind fun v16 => if v16.2 then (some (.cont ((wI (s14.1 + 1)), (wI (s14.2 + 1))))) else (some (.cont (s14.1, (wI (s14.2 + 1)))))) else (some (.brk s14.1))

def m7_l11_SsiCleans_k6 (v1 : Bool) (b3 : (List GSsiTx) × (List GReadsRead) × Int × (List Int) × (List GR11Tx) × (List GR10Read)) (v4 : GSsiCert) (b6 : Unit) : Option Bool :=
  (iterB (m7_l11_SsiCleans_s14 b3 v4) fuel (0, 0)).bind fun e17 => m7_l11_SsiCleans_k7 v1 v4 e17

def m7_l11_SsiCleans_k21 (s18 : Int) (u19 : GSsiTx) (v20 : GSsiTx × Bool) (b21 : Bool) : Option (LR (Int) (Unit) (Bool)) :=
  if (!(v20.2 == b21)) then (some (.ret false)) else (if v20.2 then ((m26_l11_done u19).bind fun v22 => (m26_l11_done v20.1).bind fun v23 => (m25_r11_SameTx v22 v23).bind fun v24 => if (!v24) then (some (.ret false)) else (some (.cont (wI (s18 + 1))))) else (some (.cont (wI (s18 + 1)))))

def m7_l11_SsiCleans_s18 (b3 : (List GSsiTx) × (List GReadsRead) × Int × (List Int) × (List GR11Tx) × (List GR10Read)) (v4 : GSsiCert) (v5 : Int) (s18 : Int) : Option (LR (Int) (Unit) (Bool)) :=
  if (decide (s18 < (b3.1.length : Int))) then ((idx b3.1 s18).bind fun u19 => (m24_ssi_Find (GSsiCert.mk v4.Txs (GReadsTable.mk v4.Reads.L)) u19.ID).bind fun v20 => if (decide (u19.State = 1)) then (m7_l11_SsiCleans_k21 s18 u19 v20 true) else (m7_l11_SsiCleans_k21 s18 u19 v20 (decide (v5 < u19.End)))) else (some (.brk ()))

def m7_l11_SsiCleans_k3 (v1 : Bool) (b3 : (List GSsiTx) × (List GReadsRead) × Int × (List Int) × (List GR11Tx) × (List GR10Read)) : Option Bool :=
  (m16_ssi_Clean (GSsiCert.mk b3.1 (GReadsTable.mk b3.2.1))).bind fun v4 => (m23_ssi_Oldest (GSsiCert.mk b3.1 (GReadsTable.mk b3.2.1)) 1099511627776).bind fun v5 => (iter (m7_l11_SsiCleans_s18 b3 v4 v5) fuel 0).bind fun x => match x with | .inl r => some r | .inr e25 => m7_l11_SsiCleans_k6 v1 b3 v4 e25

def m7_l11_SsiCleans_s26 (a0 : List GL11Act) (s26 : Int × (List GSsiTx) × (List GReadsRead) × Int × (List Int) × (List GR11Tx) × (List GR10Read)) : Option (LB (Int × (List GSsiTx) × (List GReadsRead) × Int × (List Int) × (List GR11Tx) × (List GR10Read)) ((List GSsiTx) × (List GReadsRead) × Int × (List Int) × (List GR11Tx) × (List GR10Read))) :=
  if (decide (s26.1 < (a0.length : Int))) then ((idx a0 s26.1).bind fun u27 => (m11_l11_world_dos (GL11Act.mk u27.What u27.N u27.RO (GApiRange.mk u27.Rng.Lo u27.Rng.Hi u27.Rng.Open) u27.Keys) s26.2.1 s26.2.2.1 s26.2.2.2.1 s26.2.2.2.2.1 s26.2.2.2.2.2.1 s26.2.2.2.2.2.2).bind fun v28 => some (.cont ((wI (s26.1 + 1)), v28.1, v28.2.1, v28.2.2.1, v28.2.2.2.1, v28.2.2.2.2.1, v28.2.2.2.2.2))) else (some (.brk (s26.2.1, s26.2.2.1, s26.2.2.2.1, s26.2.2.2.2.1, s26.2.2.2.2.2.1, s26.2.2.2.2.2.2)))
def m7_l11_SsiCleans (a0 : List GL11Act) : Option Bool :=
  (m9_l11_awake).bind fun v1 => (m10_l11_small a0).bind fun v2 => if (!v2) then (some v1) else ((iterB (m7_l11_SsiCleans_s26 a0) fuel (0, ([] : List GSsiTx), ([] : List GReadsRead), 0, ([] : List Int), ([] : List GR11Tx), ([] : List GR10Read))).bind fun e29 => m7_l11_SsiCleans_k3 v1 e29)

set_option maxRecDepth 100000 in
theorem m7_l11_SsiCleans_c {a0 : List GL11Act} {r : Bool} (h : m7_l11_SsiCleans a0 = some r) : CallsA Try.prog 7 [.one (.sl a0.length (a0.flatMap eGL11Act))] (· = .s (.one (.b r))) := by
  unfold m7_l11_SsiCleans at h
  refine callsA_of Try.func7 rfl (nt := 156) rfl (Nat.le_of_ble_eq_true rfl) ?_
  intro w0 S0
  refine cseq ?_
  refine cregion ?_
  refine sv rfl (opv_as rfl) ?_
  refine snil ?_
  refine cseq ?_
  refine cregion ?_
  obtain ⟨v1, hv1, h⟩ := bind_eq h
  refine scall1 rfl fn9 opnds_nil (pubA_id rfl) (m9_l11_awake_c hv1) ?_
  refine sv rfl (opv_as rfl) ?_
  refine snil ?_
  refine cseq ?_
  refine cseq ?_
  refine cregion ?_
  refine sv rfl (opv_mv rfl) ?_
  obtain ⟨v2, hv2, h⟩ := bind_eq h
  refine scall1 rfl fn10 (opnds_cons rfl opnds_nil) (pubA_id rfl) (m10_l11_small_c hv2) ?_
  refine sv rfl (opv_not rfl) ?_
  refine snil ?_
  refine ccond rfl (fun hc => ?_) (fun hc => ?_)
  · replace h := ite_t hc h
    clear hc
    refine cseq ?_
    refine cregion ?_
    refine sv rfl (opv_mv rfl) ?_
    refine sv rfl (opv_as rfl) ?_
    refine snil ?_
    refine cret ?_
    refine then_ret ?_
    obtain rfl := Option.some.inj h
    refine ⟨Or.inr rfl, _, _, _, (resVs_cons (ResV.tmp _ _ rfl) resVs_nil), (pubA_id rfl), ?_⟩
    rfl
  · replace h := ite_f hc h
    clear hc
    refine cskip ?_
    refine then_normal ?_
    refine cseq ?_
    refine cregion ?_
    refine sv rfl (opv_build zi36 pi36 parts_nil (.nil _)) ?_
    refine sbox rfl rfl ?_
    refine sv rfl (opv_as rfl) ?_
    refine snil ?_
    refine cseq ?_
    refine cseq ?_
    refine cregion ?_
    refine sv rfl (opv_as rfl) ?_
    refine snil ?_
    refine sadopt_box_c 3 1 0 3 (by decide) rfl rfl ?_
    refine sadopt_box_c 46 8 0 4 (by decide) rfl rfl ?_
    refine sadopt_box_c 76 4 0 5 (by decide) rfl rfl ?_
    refine cjoin ((List GSsiTx) × (List GReadsRead) × Int × (List Int) × (List GR11Tx) × (List GR10Read)) (fun b3 => [(3, .s (.one (.b v1))), (4, .s (.one (.lp 0 0)))]) (fun b3 => [.box [.sl b3.1.length (b3.1.flatMap eGSsiTx), .sl b3.2.1.length (b3.2.1.flatMap eGReadsRead), .i .i64 b3.2.2.1, .ls 1 b3.2.2.2.1.length, .ls 2 b3.2.2.2.2.1.length, .ls 3 b3.2.2.2.2.2.length], .arr 3 1 0 (b3.2.2.2.1.flatMap eI), .arr 46 8 0 (b3.2.2.2.2.1.flatMap eGR11Tx), .arr 76 4 0 (b3.2.2.2.2.2.flatMap eGR10Read)]) (fun b3 => m7_l11_SsiCleans_k3 v1 b3 = some r) (fun _ _ => inbL_of rfl) (fun _ _ => blkinb_of rfl) (fun _ _ => Nat.le_of_ble_eq_true rfl) (fun b3 h => ?_) ?_
    · unfold m7_l11_SsiCleans_k3 at h
      refine cseq ?_
      refine cregion ?_
      refine sv rfl (opv_mv rfl) ?_
      refine sv rfl (opv_nilCheck rfl rfl (fun _ _ _ h => by cases h)) ?_
      refine sv rfl (opv_fieldAddr_lp fi36_0 rfl) ?_
      refine sv rfl (opv_loadN ti31 rfl (.lp _ _ _ rfl) (Nat.le_of_ble_eq_true rfl)) ?_
      obtain ⟨v4, hv4, h⟩ := bind_eq h
      refine scall1 rfl fn16 (opnds_cons rfl opnds_nil) (pubA_id rfl) (m16_ssi_Clean_c hv4) ?_
      refine salloc rfl zi31 ?_
      refine sstore sz31 rfl rfl rfl rfl (Nat.le_of_ble_eq_true rfl) ?_
      refine smem [.box [.sl b3.1.length (b3.1.flatMap eGSsiTx), .sl b3.2.1.length (b3.2.1.flatMap eGReadsRead), .i .i64 b3.2.2.1, .ls 1 b3.2.2.2.1.length, .ls 2 b3.2.2.2.2.1.length, .ls 3 b3.2.2.2.2.2.length], .arr 3 1 0 (b3.2.2.2.1.flatMap eI), .arr 46 8 0 (b3.2.2.2.2.1.flatMap eGR11Tx), .arr 76 4 0 (b3.2.2.2.2.2.flatMap eGR10Read), .box v4] rfl ?_
      refine snil ?_
      refine cseq ?_
      refine cregion ?_
      refine sv rfl (opv_mv rfl) ?_
      refine sv rfl (opv_nilCheck rfl rfl (fun _ _ _ h => by cases h)) ?_
      refine sv rfl (opv_fieldAddr_lp fi36_0 rfl) ?_
      refine sv rfl (opv_loadN ti31 rfl (.lp _ _ _ rfl) (Nat.le_of_ble_eq_true rfl)) ?_
      obtain ⟨v5, hv5, h⟩ := bind_eq h
      refine scall1 rfl fn23 (opnds_cons rfl (opnds_cons rfl opnds_nil)) (pubA_id rfl) (m23_ssi_Oldest_c hv5) ?_
      refine sv rfl (opv_as rfl) ?_
      refine snil ?_
      refine cseq ?_
      refine cseq ?_
      refine cregion ?_
      refine sv rfl (opv_as rfl) ?_
      refine snil ?_
      refine cjoin (Unit) (fun b6 => [(3, .s (.one (.b v1))), (4, .s (.one (.lp 0 0))), (6, .s (.one (.lp 4 0)))]) (fun b6 => [.box [.sl b3.1.length (b3.1.flatMap eGSsiTx), .sl b3.2.1.length (b3.2.1.flatMap eGReadsRead), .i .i64 b3.2.2.1, .ls 1 b3.2.2.2.1.length, .ls 2 b3.2.2.2.2.1.length, .ls 3 b3.2.2.2.2.2.length], .arr 3 1 0 (b3.2.2.2.1.flatMap eI), .arr 46 8 0 (b3.2.2.2.2.1.flatMap eGR11Tx), .arr 76 4 0 (b3.2.2.2.2.2.flatMap eGR10Read), .box v4]) (fun b6 => m7_l11_SsiCleans_k6 v1 b3 v4 b6 = some r) (fun _ _ => inbL_of rfl) (fun _ _ => blkinb_of rfl) (fun _ _ => Nat.le_of_ble_eq_true rfl) (fun b6 h => ?_) ?_
      · unfold m7_l11_SsiCleans_k6 at h
        refine cseq ?_
        refine cregion ?_
        refine sv rfl (opv_as rfl) ?_
        refine snil ?_
        refine cseq ?_
        refine cseq ?_
        refine cregion ?_
        refine sv rfl (opv_as rfl) ?_
        refine snil ?_
        refine cjoin (Int) (fun b7 => [(3, .s (.one (.b v1))), (6, .s (.one (.lp 4 0))), (13, .s (.one (.i .i64 b7)))]) (fun b7 => [.box [.sl b3.1.length (b3.1.flatMap eGSsiTx), .sl b3.2.1.length (b3.2.1.flatMap eGReadsRead), .i .i64 b3.2.2.1, .ls 1 b3.2.2.2.1.length, .ls 2 b3.2.2.2.2.1.length, .ls 3 b3.2.2.2.2.2.length], .arr 3 1 0 (b3.2.2.2.1.flatMap eI), .arr 46 8 0 (b3.2.2.2.2.1.flatMap eGR11Tx), .arr 76 4 0 (b3.2.2.2.2.2.flatMap eGR10Read), .box v4]) (fun b7 => m7_l11_SsiCleans_k7 v1 v4 b7 = some r) (fun _ _ => inbL_of rfl) (fun _ _ => blkinb_of rfl) (fun _ _ => Nat.le_of_ble_eq_true rfl) (fun b7 h => ?_) ?_
        · unfold m7_l11_SsiCleans_k7 at h
          refine cseq ?_
          refine cdraw mixed (by kernel_rfl) ?_
          refine dv rfl (opv_mv rfl) ?_
          refine dv rfl (opv_mv rfl) ?_
          refine dsplit 124 rfl (fun hc => ?_) (fun hc => ?_)
          · replace h := ite_t hc h
            clear hc
            refine dvg rfl rfl rfl (opv_fieldAddr_lp fi31_1 rfl) ?_
            refine dvg rfl rfl rfl (opv_fieldAddr_lp fi29_0 rfl) ?_
            refine dvg rfl rfl rfl (opv_load1 ti27 rfl (.lp _ _ _ rfl) rfl) ?_
            refine dvg rfl rfl rfl (opv_len_sl si27 rfl) ?_
            refine dvg rfl rfl rfl (opv_mv rfl) ?_
            refine dvg rfl rfl rfl (opv_ieql rfl rfl) ?_
            refine dv rfl (opv_pick_t rfl rfl) ?_
            refine dv rfl (opv_mv rfl) ?_
            refine dsplit 132 rfl (fun hc => ?_) (fun hc => ?_)
            · replace h := ite_t hc h
              clear hc
              refine dvg rfl rfl rfl (opv_loadN ti31 rfl (.lp _ _ _ rfl) (Nat.le_of_ble_eq_true rfl)) ?_
              obtain ⟨v8, hv8, h⟩ := bind_eq h
              refine ddg rfl rfl rfl (opD_call fn13 (opnds_cons rfl opnds_nil) rfl (m13_ssi_Sane_c hv8)) ?_
              refine dv rfl (opv_pick_t rfl rfl) ?_
              refine dv rfl (opv_mv rfl) ?_
              refine dsplit 136 rfl (fun hc => ?_) (fun hc => ?_)
              · replace h := ite_t hc h
                clear hc
                refine dvg rfl rfl rfl (opv_loadN ti31 rfl (.lp _ _ _ rfl) (Nat.le_of_ble_eq_true rfl)) ?_
                obtain ⟨v9, hv9, h⟩ := bind_eq h
                refine ddg rfl rfl rfl (opD_call fn16 (opnds_cons rfl opnds_nil) rfl (m16_ssi_Clean_c hv9)) ?_
                obtain ⟨v10, hv10, h⟩ := bind_eq h
                refine ddg rfl rfl rfl (opD_call fn21 (opnds_cons rfl opnds_nil) rfl (m21_l11_theirs_c hv10)) ?_
                refine dvg rfl rfl rfl (opv_fieldN ft63_1 ti61 rfl (Nat.le_of_ble_eq_true rfl)) ?_
                refine dvg rfl rfl rfl (opv_loadN ti31 rfl (.lp _ _ _ rfl) (Nat.le_of_ble_eq_true rfl)) ?_
                obtain ⟨v11, hv11, h⟩ := bind_eq h
                refine ddg rfl rfl rfl (opD_call fn21 (opnds_cons rfl opnds_nil) rfl (m21_l11_theirs_c hv11)) ?_
                refine dvg rfl rfl rfl (opv_fieldN ft63_1 ti61 rfl (Nat.le_of_ble_eq_true rfl)) ?_
                obtain ⟨v12, hv12, h⟩ := bind_eq h
                refine ddg rfl rfl rfl (opD_call fn27 (opnds_cons rfl (opnds_cons rfl opnds_nil)) rfl (m27_r10_Same_c hv12)) ?_
                refine dv rfl (opv_pick_t rfl rfl) ?_
                refine dv rfl (opv_mv rfl) ?_
                refine dsplit 146 rfl (fun hc => ?_) (fun hc => ?_)
                · replace h := ite_t hc h
                  clear hc
                  refine dvg rfl rfl rfl (opv_loadN ti31 rfl (.lp _ _ _ rfl) (Nat.le_of_ble_eq_true rfl)) ?_
                  obtain ⟨v13, hv13, h⟩ := bind_eq h
                  refine ddg rfl rfl rfl (opD_call fn16 (opnds_cons rfl opnds_nil) rfl (m16_ssi_Clean_c hv13)) ?_
                  refine dvg rfl rfl rfl (opv_field1 ft31_0 ti26 rfl rfl) ?_
                  refine dvg rfl rfl rfl (opv_len_sl si26 rfl) ?_
                  refine dvg rfl rfl rfl (opv_fieldAddr_lp fi31_0 rfl) ?_
                  refine dvg rfl rfl rfl (opv_load1 ti26 rfl (.lp _ _ _ rfl) rfl) ?_
                  refine dvg rfl rfl rfl (opv_len_sl si26 rfl) ?_
                  refine dvg rfl rfl rfl (opv_ieql rfl rfl) ?_
                  refine dv rfl (opv_pick_t rfl rfl) ?_
                  refine dv rfl (opv_as rfl) ?_
                  refine dnil ?_
                  refine then_normal ?_
                  refine cret ?_
                  obtain rfl := Option.some.inj h
                  refine ⟨Or.inr rfl, _, _, _, (resVs_cons (ResV.tmp _ _ rfl) resVs_nil), (pubA_id rfl), ?_⟩
                  rfl
                · replace h := ite_f hc h
                  clear hc
                  refine doff rfl rfl rfl rfl ?_
                  refine doff rfl rfl rfl rfl ?_
                  refine doff rfl rfl rfl rfl ?_
                  refine doff rfl rfl rfl rfl ?_
                  refine doff rfl rfl rfl rfl ?_
                  refine doff rfl rfl rfl rfl ?_
                  refine doff rfl rfl rfl rfl ?_
                  refine doff rfl rfl rfl rfl ?_
                  refine dv rfl (opv_pick_f rfl rfl) ?_
                  refine dv rfl (opv_as rfl) ?_
                  refine dnil ?_
                  refine then_normal ?_
                  refine cret ?_
                  obtain rfl := Option.some.inj h
                  refine ⟨Or.inr rfl, _, _, _, (resVs_cons (ResV.tmp _ _ rfl) resVs_nil), (pubA_id rfl), ?_⟩
                  rfl
              · replace h := ite_f hc h
                clear hc
                refine doff rfl rfl rfl rfl ?_
                refine doff rfl rfl rfl rfl ?_
                refine doff rfl rfl rfl rfl ?_
                refine doff rfl rfl rfl rfl ?_
                refine doff rfl rfl rfl rfl ?_
                refine doff rfl rfl rfl rfl ?_
                refine doff rfl rfl rfl rfl ?_
                refine doff rfl rfl rfl rfl ?_
                refine dv rfl (opv_pick_f rfl rfl) ?_
                refine dv rfl (opv_mv rfl) ?_
                refine doff rfl rfl rfl rfl ?_
                refine doff rfl rfl rfl rfl ?_
                refine doff rfl rfl rfl rfl ?_
                refine doff rfl rfl rfl rfl ?_
                refine doff rfl rfl rfl rfl ?_
                refine doff rfl rfl rfl rfl ?_
                refine doff rfl rfl rfl rfl ?_
                refine doff rfl rfl rfl rfl ?_
                refine dv rfl (opv_pick_f rfl rfl) ?_
                refine dv rfl (opv_as rfl) ?_
                refine dnil ?_
                refine then_normal ?_
                refine cret ?_
                obtain rfl := Option.some.inj h
                refine ⟨Or.inr rfl, _, _, _, (resVs_cons (ResV.tmp _ _ rfl) resVs_nil), (pubA_id rfl), ?_⟩
                rfl
            · replace h := ite_f hc h
              clear hc
              refine doff rfl rfl rfl rfl ?_
              refine doff rfl rfl rfl rfl ?_
              refine dv rfl (opv_pick_f rfl rfl) ?_
              refine dv rfl (opv_mv rfl) ?_
              refine doff rfl rfl rfl rfl ?_
              refine doff rfl rfl rfl rfl ?_
              refine doff rfl rfl rfl rfl ?_
              refine doff rfl rfl rfl rfl ?_
              refine doff rfl rfl rfl rfl ?_
              refine doff rfl rfl rfl rfl ?_
              refine doff rfl rfl rfl rfl ?_
              refine doff rfl rfl rfl rfl ?_
              refine dv rfl (opv_pick_f rfl rfl) ?_
              refine dv rfl (opv_mv rfl) ?_
              refine doff rfl rfl rfl rfl ?_
              refine doff rfl rfl rfl rfl ?_
              refine doff rfl rfl rfl rfl ?_
              refine doff rfl rfl rfl rfl ?_
              refine doff rfl rfl rfl rfl ?_
              refine doff rfl rfl rfl rfl ?_
              refine doff rfl rfl rfl rfl ?_
              refine doff rfl rfl rfl rfl ?_
              refine dv rfl (opv_pick_f rfl rfl) ?_
              refine dv rfl (opv_as rfl) ?_
              refine dnil ?_
              refine then_normal ?_
              refine cret ?_
              obtain rfl := Option.some.inj h
              refine ⟨Or.inr rfl, _, _, _, (resVs_cons (ResV.tmp _ _ rfl) resVs_nil), (pubA_id rfl), ?_⟩
              rfl
          · replace h := ite_f hc h
            clear hc
            refine doff rfl rfl rfl rfl ?_
            refine doff rfl rfl rfl rfl ?_
            refine doff rfl rfl rfl rfl ?_
            refine doff rfl rfl rfl rfl ?_
            refine doff rfl rfl rfl rfl ?_
            refine doff rfl rfl rfl rfl ?_
            refine dv rfl (opv_pick_f rfl rfl) ?_
            refine dv rfl (opv_mv rfl) ?_
            refine doff rfl rfl rfl rfl ?_
            refine doff rfl rfl rfl rfl ?_
            refine dv rfl (opv_pick_f rfl rfl) ?_
            refine dv rfl (opv_mv rfl) ?_
            refine doff rfl rfl rfl rfl ?_
            refine doff rfl rfl rfl rfl ?_
            refine doff rfl rfl rfl rfl ?_
            refine doff rfl rfl rfl rfl ?_
            refine doff rfl rfl rfl rfl ?_
            refine doff rfl rfl rfl rfl ?_
            refine doff rfl rfl rfl rfl ?_
            refine doff rfl rfl rfl rfl ?_
            refine dv rfl (opv_pick_f rfl rfl) ?_
            refine dv rfl (opv_mv rfl) ?_
            refine doff rfl rfl rfl rfl ?_
            refine doff rfl rfl rfl rfl ?_
            refine doff rfl rfl rfl rfl ?_
            refine doff rfl rfl rfl rfl ?_
            refine doff rfl rfl rfl rfl ?_
            refine doff rfl rfl rfl rfl ?_
            refine doff rfl rfl rfl rfl ?_
            refine doff rfl rfl rfl rfl ?_
            refine dv rfl (opv_pick_f rfl rfl) ?_
            refine dv rfl (opv_as rfl) ?_
            refine dnil ?_
            refine then_normal ?_
            refine cret ?_
            obtain rfl := Option.some.inj h
            refine ⟨Or.inr rfl, _, _, _, (resVs_cons (ResV.tmp _ _ rfl) resVs_nil), (pubA_id rfl), ?_⟩
            rfl
        · skip
          refine cblock ?_
          obtain ⟨x14, hx14, ho14⟩ := bind_eq h
          refine awc_loop (G := Nat × (Int × Int)) (fun g => [(3, .s (.one (.b v1))), (4, .s (.one (.lp 0 0))), (6, .s (.one (.lp 4 0))), (13, .s (.one (.i .i64 g.2.1))), (14, .s (.one (.i .i64 g.2.2)))]) (fun g => [.box [.sl b3.1.length (b3.1.flatMap eGSsiTx), .sl b3.2.1.length (b3.2.1.flatMap eGReadsRead), .i .i64 b3.2.2.1, .ls 1 b3.2.2.2.1.length, .ls 2 b3.2.2.2.2.1.length, .ls 3 b3.2.2.2.2.2.length], .arr 3 1 0 (b3.2.2.2.1.flatMap eI), .arr 46 8 0 (b3.2.2.2.2.1.flatMap eGR11Tx), .arr 76 4 0 (b3.2.2.2.2.2.flatMap eGR10Read), .box v4]) (fun g => iterB (m7_l11_SsiCleans_s14 b3 v4) g.1 g.2 = some x14) (fun g => g.1) (fuel, (0, 0)) hx14 ⟨rfl, rfl, rfl, rfl, rfl, trivial⟩ [] rfl (fun _ _ => inbL_of rfl) (fun _ _ => blkinb_of rfl) (fun _ _ => Nat.le_of_ble_eq_true rfl) ?_
          clear hx14 h
          rintro ⟨n14, s14⟩ h
          obtain ⟨n14, y14, rfl, h, hk14⟩ := iterB_eq h
          unfold m7_l11_SsiCleans_s14 at h
          refine cseq ?_
          refine cseq ?_
          refine cregion ?_
          refine sv rfl (opv_mv rfl) ?_
          refine sv rfl (opv_mv rfl) ?_
          refine sv rfl (opv_nilCheck rfl rfl (fun _ _ _ h => by cases h)) ?_
          refine sv rfl (opv_fieldAddr_lp fi36_0 rfl) ?_
          refine sv rfl (opv_fieldAddr_lp fi31_1 rfl) ?_
          refine sv rfl (opv_fieldAddr_lp fi29_0 rfl) ?_
          refine sv rfl (opv_load1 ti27 rfl (.lp _ _ _ rfl) rfl) ?_
          refine sv rfl (opv_len_sl si27 rfl) ?_
          refine sv rfl (opv_lss rfl rfl) ?_
          refine snil ?_
          refine ccond rfl (fun hc => ?_) (fun hc => ?_)
          · replace h := ite_t hc h
            clear hc
            refine cskip ?_
            refine then_normal ?_
            refine cseq ?_
            refine cblock ?_
            refine cseq ?_
            refine chole ?_
            obtain ⟨u15, hu15, h⟩ := bind_eq h
            obtain ⟨v16, hv16, h⟩ := bind_eq h
            refine cdraw_e [15, 16] [0, 0, 2, 6, 14, 30, 62, 0, 254, 510, 1022, 2047, 4095, 8191, 8191, 0, 49151, 131071] [[.box [.sl b3.1.length (b3.1.flatMap eGSsiTx), .sl b3.2.1.length (b3.2.1.flatMap eGReadsRead), .i .i64 b3.2.2.1, .ls 1 b3.2.2.2.1.length, .ls 2 b3.2.2.2.2.1.length, .ls 3 b3.2.2.2.2.2.length], .arr 3 1 0 (b3.2.2.2.1.flatMap eI), .arr 46 8 0 (b3.2.2.2.2.1.flatMap eGR11Tx), .arr 76 4 0 (b3.2.2.2.2.2.flatMap eGR10Read), .box v4, .hole], [.box [.sl b3.1.length (b3.1.flatMap eGSsiTx), .sl b3.2.1.length (b3.2.1.flatMap eGReadsRead), .i .i64 b3.2.2.1, .ls 1 b3.2.2.2.1.length, .ls 2 b3.2.2.2.2.1.length, .ls 3 b3.2.2.2.2.2.length], .arr 3 1 0 (b3.2.2.2.1.flatMap eI), .arr 46 8 0 (b3.2.2.2.2.1.flatMap eGR11Tx), .arr 76 4 0 (b3.2.2.2.2.2.flatMap eGR10Read), .box v4, .box [.i .i64 0, .i .i64 0, .i .i64 0, .i .i64 0, .b false, .b false, .b false, .raw (.slice none 0 0)]], [.box [.sl b3.1.length (b3.1.flatMap eGSsiTx), .sl b3.2.1.length (b3.2.1.flatMap eGReadsRead), .i .i64 b3.2.2.1, .ls 1 b3.2.2.2.1.length, .ls 2 b3.2.2.2.2.1.length, .ls 3 b3.2.2.2.2.2.length], .arr 3 1 0 (b3.2.2.2.1.flatMap eI), .arr 46 8 0 (b3.2.2.2.2.1.flatMap eGR11Tx), .arr 76 4 0 (b3.2.2.2.2.2.flatMap eGR10Read), .box v4, .box v16.1]] (by kernel_rfl) mixed (by kernel_rfl) (by decide) rfl rfl rfl rfl ?_
            refine ev (sees_all (md := [.box [.sl b3.1.length (b3.1.flatMap eGSsiTx), .sl b3.2.1.length (b3.2.1.flatMap eGReadsRead), .i .i64 b3.2.2.1, .ls 1 b3.2.2.2.1.length, .ls 2 b3.2.2.2.2.1.length, .ls 3 b3.2.2.2.2.2.length], .arr 3 1 0 (b3.2.2.2.1.flatMap eI), .arr 46 8 0 (b3.2.2.2.2.1.flatMap eGR11Tx), .arr 76 4 0 (b3.2.2.2.2.2.flatMap eGR10Read), .box v4, .dead]) ⟨⟨rfl, ⟨rfl, ⟨rfl, ⟨rfl, ⟨rfl, ⟨trivial, trivial⟩⟩⟩⟩⟩⟩, ⟨⟨rfl, ⟨rfl, ⟨rfl, ⟨rfl, ⟨rfl, ⟨trivial, trivial⟩⟩⟩⟩⟩⟩, ⟨⟨rfl, ⟨rfl, ⟨rfl, ⟨rfl, ⟨rfl, ⟨trivial, trivial⟩⟩⟩⟩⟩⟩, trivial⟩⟩⟩) rfl rfl (opv_loadN ti31 rfl (.lp _ _ _ rfl) (Nat.le_of_ble_eq_true rfl)) ?_
            refine emv rfl rfl (fun _ => opv_mv rfl) ?_
            refine ev (sees_all (md := [.box [.sl b3.1.length (b3.1.flatMap eGSsiTx), .sl b3.2.1.length (b3.2.1.flatMap eGReadsRead), .i .i64 b3.2.2.1, .ls 1 b3.2.2.2.1.length, .ls 2 b3.2.2.2.2.1.length, .ls 3 b3.2.2.2.2.2.length], .arr 3 1 0 (b3.2.2.2.1.flatMap eI), .arr 46 8 0 (b3.2.2.2.2.1.flatMap eGR11Tx), .arr 76 4 0 (b3.2.2.2.2.2.flatMap eGR10Read), .box v4, .dead]) ⟨⟨rfl, ⟨rfl, ⟨rfl, ⟨rfl, ⟨rfl, ⟨trivial, trivial⟩⟩⟩⟩⟩⟩, ⟨⟨rfl, ⟨rfl, ⟨rfl, ⟨rfl, ⟨rfl, ⟨trivial, trivial⟩⟩⟩⟩⟩⟩, ⟨⟨rfl, ⟨rfl, ⟨rfl, ⟨rfl, ⟨rfl, ⟨trivial, trivial⟩⟩⟩⟩⟩⟩, trivial⟩⟩⟩) rfl rfl (opv_nilCheck rfl rfl (fun _ _ _ h => by cases h)) ?_
            refine ev (sees_all (md := [.box [.sl b3.1.length (b3.1.flatMap eGSsiTx), .sl b3.2.1.length (b3.2.1.flatMap eGReadsRead), .i .i64 b3.2.2.1, .ls 1 b3.2.2.2.1.length, .ls 2 b3.2.2.2.2.1.length, .ls 3 b3.2.2.2.2.2.length], .arr 3 1 0 (b3.2.2.2.1.flatMap eI), .arr 46 8 0 (b3.2.2.2.2.1.flatMap eGR11Tx), .arr 76 4 0 (b3.2.2.2.2.2.flatMap eGR10Read), .box v4, .dead]) ⟨⟨rfl, ⟨rfl, ⟨rfl, ⟨rfl, ⟨rfl, ⟨trivial, trivial⟩⟩⟩⟩⟩⟩, ⟨⟨rfl, ⟨rfl, ⟨rfl, ⟨rfl, ⟨rfl, ⟨trivial, trivial⟩⟩⟩⟩⟩⟩, ⟨⟨rfl, ⟨rfl, ⟨rfl, ⟨rfl, ⟨rfl, ⟨trivial, trivial⟩⟩⟩⟩⟩⟩, trivial⟩⟩⟩) rfl rfl (opv_fieldAddr_lp fi36_0 rfl) ?_
            refine ev (sees_all (md := [.box [.sl b3.1.length (b3.1.flatMap eGSsiTx), .sl b3.2.1.length (b3.2.1.flatMap eGReadsRead), .i .i64 b3.2.2.1, .ls 1 b3.2.2.2.1.length, .ls 2 b3.2.2.2.2.1.length, .ls 3 b3.2.2.2.2.2.length], .arr 3 1 0 (b3.2.2.2.1.flatMap eI), .arr 46 8 0 (b3.2.2.2.2.1.flatMap eGR11Tx), .arr 76 4 0 (b3.2.2.2.2.2.flatMap eGR10Read), .box v4, .dead]) ⟨⟨rfl, ⟨rfl, ⟨rfl, ⟨rfl, ⟨rfl, ⟨trivial, trivial⟩⟩⟩⟩⟩⟩, ⟨⟨rfl, ⟨rfl, ⟨rfl, ⟨rfl, ⟨rfl, ⟨trivial, trivial⟩⟩⟩⟩⟩⟩, ⟨⟨rfl, ⟨rfl, ⟨rfl, ⟨rfl, ⟨rfl, ⟨trivial, trivial⟩⟩⟩⟩⟩⟩, trivial⟩⟩⟩) rfl rfl (opv_fieldAddr_lp fi31_1 rfl) ?_
            refine ev (sees_all (md := [.box [.sl b3.1.length (b3.1.flatMap eGSsiTx), .sl b3.2.1.length (b3.2.1.flatMap eGReadsRead), .i .i64 b3.2.2.1, .ls 1 b3.2.2.2.1.length, .ls 2 b3.2.2.2.2.1.length, .ls 3 b3.2.2.2.2.2.length], .arr 3 1 0 (b3.2.2.2.1.flatMap eI), .arr 46 8 0 (b3.2.2.2.2.1.flatMap eGR11Tx), .arr 76 4 0 (b3.2.2.2.2.2.flatMap eGR10Read), .box v4, .dead]) ⟨⟨rfl, ⟨rfl, ⟨rfl, ⟨rfl, ⟨rfl, ⟨trivial, trivial⟩⟩⟩⟩⟩⟩, ⟨⟨rfl, ⟨rfl, ⟨rfl, ⟨rfl, ⟨rfl, ⟨trivial, trivial⟩⟩⟩⟩⟩⟩, ⟨⟨rfl, ⟨rfl, ⟨rfl, ⟨rfl, ⟨rfl, ⟨trivial, trivial⟩⟩⟩⟩⟩⟩, trivial⟩⟩⟩) rfl rfl (opv_fieldAddr_lp fi29_0 rfl) ?_
            refine ev (sees_all (md := [.box [.sl b3.1.length (b3.1.flatMap eGSsiTx), .sl b3.2.1.length (b3.2.1.flatMap eGReadsRead), .i .i64 b3.2.2.1, .ls 1 b3.2.2.2.1.length, .ls 2 b3.2.2.2.2.1.length, .ls 3 b3.2.2.2.2.2.length], .arr 3 1 0 (b3.2.2.2.1.flatMap eI), .arr 46 8 0 (b3.2.2.2.2.1.flatMap eGR11Tx), .arr 76 4 0 (b3.2.2.2.2.2.flatMap eGR10Read), .box v4, .dead]) ⟨⟨rfl, ⟨rfl, ⟨rfl, ⟨rfl, ⟨rfl, ⟨trivial, trivial⟩⟩⟩⟩⟩⟩, ⟨⟨rfl, ⟨rfl, ⟨rfl, ⟨rfl, ⟨rfl, ⟨trivial, trivial⟩⟩⟩⟩⟩⟩, ⟨⟨rfl, ⟨rfl, ⟨rfl, ⟨rfl, ⟨rfl, ⟨trivial, trivial⟩⟩⟩⟩⟩⟩, trivial⟩⟩⟩) rfl rfl (opv_load1 ti27 rfl (.lp _ _ _ rfl) rfl) ?_
            refine emv rfl rfl (fun _ => opv_mv rfl) ?_
            refine ev (sees_all (md := [.box [.sl b3.1.length (b3.1.flatMap eGSsiTx), .sl b3.2.1.length (b3.2.1.flatMap eGReadsRead), .i .i64 b3.2.2.1, .ls 1 b3.2.2.2.1.length, .ls 2 b3.2.2.2.2.1.length, .ls 3 b3.2.2.2.2.2.length], .arr 3 1 0 (b3.2.2.2.1.flatMap eI), .arr 46 8 0 (b3.2.2.2.2.1.flatMap eGR11Tx), .arr 76 4 0 (b3.2.2.2.2.2.flatMap eGR10Read), .box v4, .dead]) ⟨⟨rfl, ⟨rfl, ⟨rfl, ⟨rfl, ⟨rfl, ⟨trivial, trivial⟩⟩⟩⟩⟩⟩, ⟨⟨rfl, ⟨rfl, ⟨rfl, ⟨rfl, ⟨rfl, ⟨trivial, trivial⟩⟩⟩⟩⟩⟩, ⟨⟨rfl, ⟨rfl, ⟨rfl, ⟨rfl, ⟨rfl, ⟨trivial, trivial⟩⟩⟩⟩⟩⟩, trivial⟩⟩⟩) rfl rfl (opv_ix (f := eGReadsRead) si27 (fun _ => rfl) rfl rfl rfl rfl hu15) ?_
            refine ev (sees_all (md := [.box [.sl b3.1.length (b3.1.flatMap eGSsiTx), .sl b3.2.1.length (b3.2.1.flatMap eGReadsRead), .i .i64 b3.2.2.1, .ls 1 b3.2.2.2.1.length, .ls 2 b3.2.2.2.2.1.length, .ls 3 b3.2.2.2.2.2.length], .arr 3 1 0 (b3.2.2.2.1.flatMap eI), .arr 46 8 0 (b3.2.2.2.2.1.flatMap eGR11Tx), .arr 76 4 0 (b3.2.2.2.2.2.flatMap eGR10Read), .box v4, .dead]) ⟨⟨rfl, ⟨rfl, ⟨rfl, ⟨rfl, ⟨rfl, ⟨trivial, trivial⟩⟩⟩⟩⟩⟩, ⟨⟨rfl, ⟨rfl, ⟨rfl, ⟨rfl, ⟨rfl, ⟨trivial, trivial⟩⟩⟩⟩⟩⟩, ⟨⟨rfl, ⟨rfl, ⟨rfl, ⟨rfl, ⟨rfl, ⟨trivial, trivial⟩⟩⟩⟩⟩⟩, trivial⟩⟩⟩) rfl rfl (opv_fieldAddr_cp fi72_0 rfl) ?_
            refine ev (sees_all (md := [.box [.sl b3.1.length (b3.1.flatMap eGSsiTx), .sl b3.2.1.length (b3.2.1.flatMap eGReadsRead), .i .i64 b3.2.2.1, .ls 1 b3.2.2.2.1.length, .ls 2 b3.2.2.2.2.1.length, .ls 3 b3.2.2.2.2.2.length], .arr 3 1 0 (b3.2.2.2.1.flatMap eI), .arr 46 8 0 (b3.2.2.2.2.1.flatMap eGR11Tx), .arr 76 4 0 (b3.2.2.2.2.2.flatMap eGR10Read), .box v4, .dead]) ⟨⟨rfl, ⟨rfl, ⟨rfl, ⟨rfl, ⟨rfl, ⟨trivial, trivial⟩⟩⟩⟩⟩⟩, ⟨⟨rfl, ⟨rfl, ⟨rfl, ⟨rfl, ⟨rfl, ⟨trivial, trivial⟩⟩⟩⟩⟩⟩, ⟨⟨rfl, ⟨rfl, ⟨rfl, ⟨rfl, ⟨rfl, ⟨trivial, trivial⟩⟩⟩⟩⟩⟩, trivial⟩⟩⟩) rfl rfl (opv_load1 ti3 rfl (.cp _) rfl) ?_
            refine ed (sees_all (md := [.box [.sl b3.1.length (b3.1.flatMap eGSsiTx), .sl b3.2.1.length (b3.2.1.flatMap eGReadsRead), .i .i64 b3.2.2.1, .ls 1 b3.2.2.2.1.length, .ls 2 b3.2.2.2.2.1.length, .ls 3 b3.2.2.2.2.2.length], .arr 3 1 0 (b3.2.2.2.1.flatMap eI), .arr 46 8 0 (b3.2.2.2.2.1.flatMap eGR11Tx), .arr 76 4 0 (b3.2.2.2.2.2.flatMap eGR10Read), .box v4, .dead]) ⟨⟨rfl, ⟨rfl, ⟨rfl, ⟨rfl, ⟨rfl, ⟨trivial, trivial⟩⟩⟩⟩⟩⟩, ⟨⟨rfl, ⟨rfl, ⟨rfl, ⟨rfl, ⟨rfl, ⟨trivial, trivial⟩⟩⟩⟩⟩⟩, ⟨⟨rfl, ⟨rfl, ⟨rfl, ⟨rfl, ⟨rfl, ⟨trivial, trivial⟩⟩⟩⟩⟩⟩, trivial⟩⟩⟩) rfl rfl (opD_call fn24 (opnds_cons rfl (opnds_cons rfl opnds_nil)) rfl (m24_ssi_Find_c hv16)) ?_
            refine emv rfl rfl (fun _ => opv_mvt rfl) ?_
            refine ev (sees_all (md := [.box [.sl b3.1.length (b3.1.flatMap eGSsiTx), .sl b3.2.1.length (b3.2.1.flatMap eGReadsRead), .i .i64 b3.2.2.1, .ls 1 b3.2.2.2.1.length, .ls 2 b3.2.2.2.2.1.length, .ls 3 b3.2.2.2.2.2.length], .arr 3 1 0 (b3.2.2.2.1.flatMap eI), .arr 46 8 0 (b3.2.2.2.2.1.flatMap eGR11Tx), .arr 76 4 0 (b3.2.2.2.2.2.flatMap eGR10Read), .box v4, .dead]) ⟨⟨rfl, ⟨rfl, ⟨rfl, ⟨rfl, ⟨rfl, ⟨trivial, trivial⟩⟩⟩⟩⟩⟩, ⟨⟨rfl, ⟨rfl, ⟨rfl, ⟨rfl, ⟨rfl, ⟨trivial, trivial⟩⟩⟩⟩⟩⟩, ⟨⟨rfl, ⟨rfl, ⟨rfl, ⟨rfl, ⟨rfl, ⟨trivial, trivial⟩⟩⟩⟩⟩⟩, trivial⟩⟩⟩) rfl rfl (opv_extract rfl rfl) ?_
            refine ev (sees_all (md := [.box [.sl b3.1.length (b3.1.flatMap eGSsiTx), .sl b3.2.1.length (b3.2.1.flatMap eGReadsRead), .i .i64 b3.2.2.1, .ls 1 b3.2.2.2.1.length, .ls 2 b3.2.2.2.2.1.length, .ls 3 b3.2.2.2.2.2.length], .arr 3 1 0 (b3.2.2.2.1.flatMap eI), .arr 46 8 0 (b3.2.2.2.2.1.flatMap eGR11Tx), .arr 76 4 0 (b3.2.2.2.2.2.flatMap eGR10Read), .box v4, .dead]) ⟨⟨rfl, ⟨rfl, ⟨rfl, ⟨rfl, ⟨rfl, ⟨trivial, trivial⟩⟩⟩⟩⟩⟩, ⟨⟨rfl, ⟨rfl, ⟨rfl, ⟨rfl, ⟨rfl, ⟨trivial, trivial⟩⟩⟩⟩⟩⟩, ⟨⟨rfl, ⟨rfl, ⟨rfl, ⟨rfl, ⟨rfl, ⟨trivial, trivial⟩⟩⟩⟩⟩⟩, trivial⟩⟩⟩) rfl rfl (opv_extract rfl rfl) ?_
            refine ee (x := .s (.one (.lp 5 0))) 0 rfl rfl rfl rfl rfl (fun ζ => ?_) ?_
            · refine salloc_at 5 rfl zi48 rfl ?_
              exact eend
            refine ee0 1 rfl rfl rfl rfl (fun ζ => ?_) ?_
            · refine sstore sz48 rfl rfl rfl rfl (Nat.le_of_ble_eq_true rfl) ?_
              refine smem [.box [.sl b3.1.length (b3.1.flatMap eGSsiTx), .sl b3.2.1.length (b3.2.1.flatMap eGReadsRead), .i .i64 b3.2.2.1, .ls 1 b3.2.2.2.1.length, .ls 2 b3.2.2.2.2.1.length, .ls 3 b3.2.2.2.2.2.length], .arr 3 1 0 (b3.2.2.2.1.flatMap eI), .arr 46 8 0 (b3.2.2.2.2.1.flatMap eGR11Tx), .arr 76 4 0 (b3.2.2.2.2.2.flatMap eGR10Read), .box v4, .box v16.1] rfl ?_
              exact eend
            refine ev (sees_at 2 rfl rfl) rfl rfl (opv_as rfl) ?_
            refine enil ?_
            refine then_normal ?_
            refine cseq ?_
            refine cregion ?_
            refine sv rfl (opv_mv rfl) ?_
            refine snil ?_
            refine ccond rfl (fun hc => ?_) (fun hc => ?_)
            · replace h := ite_t hc h
              clear hc
              refine cregion ?_
              refine sv rfl (opv_mv rfl) ?_
              refine sv rfl (opv_add rfl rfl) ?_
              refine sv rfl (opv_as rfl) ?_
              refine snil0 ?_
              refine block_normal ?_
              refine then_normal ?_
              refine cregion ?_
              refine sv rfl (opv_mv rfl) ?_
              refine sv rfl (opv_add rfl rfl) ?_
              refine sv rfl (opv_as rfl) ?_
              refine snil ?_
              obtain rfl := Option.some.inj h
              exact ⟨(n14, ((wI (s14.1 + 1)), (wI (s14.2 + 1)))), _, hk14, ⟨rfl, rfl, rfl, rfl, rfl, trivial⟩, rfl, Nat.lt_succ_self _⟩
            · replace h := ite_f hc h
              clear hc
              refine cskip ?_
              refine block_normal ?_
              refine then_normal ?_
              refine cregion ?_
              refine sv rfl (opv_mv rfl) ?_
              refine sv rfl (opv_add rfl rfl) ?_
              refine sv rfl (opv_as rfl) ?_
              refine snil ?_
              obtain rfl := Option.some.inj h
              exact ⟨(n14, (s14.1, (wI (s14.2 + 1)))), _, hk14, ⟨rfl, rfl, rfl, rfl, rfl, trivial⟩, rfl, Nat.lt_succ_self _⟩
          · replace h := ite_f hc h
            clear hc
            refine cexit ?_
            refine then_exit ?_
            refine then_exit ?_
            refine block_hit ?_
            refine then_normal ?_
            obtain rfl := Option.some.inj h
            obtain rfl : _ = x14 := hk14
            exact ⟨s14.1, _, ho14, ⟨rfl, rfl, rfl, trivial⟩, rfl⟩
      · skip
        refine cblock ?_
        obtain ⟨x18, hx18, ho18⟩ := bind_eq h
        refine awc_loop (G := Nat × (Int)) (fun g => [(3, .s (.one (.b v1))), (4, .s (.one (.lp 0 0))), (6, .s (.one (.lp 4 0))), (7, .s (.one (.i .i64 v5))), (8, .s (.one (.i .i64 g.2)))]) (fun g => [.box [.sl b3.1.length (b3.1.flatMap eGSsiTx), .sl b3.2.1.length (b3.2.1.flatMap eGReadsRead), .i .i64 b3.2.2.1, .ls 1 b3.2.2.2.1.length, .ls 2 b3.2.2.2.2.1.length, .ls 3 b3.2.2.2.2.2.length], .arr 3 1 0 (b3.2.2.2.1.flatMap eI), .arr 46 8 0 (b3.2.2.2.2.1.flatMap eGR11Tx), .arr 76 4 0 (b3.2.2.2.2.2.flatMap eGR10Read), .box v4]) (fun g => iter (m7_l11_SsiCleans_s18 b3 v4 v5) g.1 g.2 = some x18) (fun g => g.1) (fuel, 0) hx18 ⟨rfl, rfl, rfl, rfl, rfl, trivial⟩ [] rfl (fun _ _ => inbL_of rfl) (fun _ _ => blkinb_of rfl) (fun _ _ => Nat.le_of_ble_eq_true rfl) ?_
        clear hx18 h
        rintro ⟨n18, s18⟩ h
        obtain ⟨n18, y18, rfl, h, hk18⟩ := iter_eq h
        unfold m7_l11_SsiCleans_s18 at h
        refine cseq ?_
        refine cseq ?_
        refine cregion ?_
        refine sv rfl (opv_mv rfl) ?_
        refine sv rfl (opv_mv rfl) ?_
        refine sv rfl (opv_nilCheck rfl rfl (fun _ _ _ h => by cases h)) ?_
        refine sv rfl (opv_fieldAddr_lp fi36_0 rfl) ?_
        refine sv rfl (opv_fieldAddr_lp fi31_0 rfl) ?_
        refine sv rfl (opv_load1 ti26 rfl (.lp _ _ _ rfl) rfl) ?_
        refine sv rfl (opv_len_sl si26 rfl) ?_
        refine sv rfl (opv_lss rfl rfl) ?_
        refine snil ?_
        refine ccond rfl (fun hc => ?_) (fun hc => ?_)
        · replace h := ite_t hc h
          clear hc
          refine cskip ?_
          refine then_normal ?_
          refine cseq ?_
          refine cblock ?_
          refine cseq ?_
          refine cregion ?_
          refine sv rfl (opv_mv rfl) ?_
          refine sv rfl (opv_nilCheck rfl rfl (fun _ _ _ h => by cases h)) ?_
          refine sv rfl (opv_fieldAddr_lp fi36_0 rfl) ?_
          refine sv rfl (opv_fieldAddr_lp fi31_0 rfl) ?_
          refine sv rfl (opv_load1 ti26 rfl (.lp _ _ _ rfl) rfl) ?_
          refine sv rfl (opv_mv rfl) ?_
          obtain ⟨u19, hu19, h⟩ := bind_eq h
          refine sv rfl (opv_ix (f := eGSsiTx) si26 (fun _ => rfl) rfl rfl rfl rfl hu19) ?_
          refine sv rfl (opv_loadNe (ys := [.i .i64 u19.ID, .i .i64 u19.Begin, .i .i64 u19.End, .i .i64 u19.State, .b u19.In, .b u19.Out, .b u19.RO, .sl u19.Keys.length (u19.Keys.flatMap (eL eU8))]) ti48 rfl (.cp _) rfl rfl) ?_
          refine salloc rfl zi48 ?_
          refine sstore sz48 rfl rfl rfl rfl (Nat.le_of_ble_eq_true rfl) ?_
          refine smem [.box [.sl b3.1.length (b3.1.flatMap eGSsiTx), .sl b3.2.1.length (b3.2.1.flatMap eGReadsRead), .i .i64 b3.2.2.1, .ls 1 b3.2.2.2.1.length, .ls 2 b3.2.2.2.2.1.length, .ls 3 b3.2.2.2.2.2.length], .arr 3 1 0 (b3.2.2.2.1.flatMap eI), .arr 46 8 0 (b3.2.2.2.2.1.flatMap eGR11Tx), .arr 76 4 0 (b3.2.2.2.2.2.flatMap eGR10Read), .box v4, .box u19] rfl ?_
          refine snil ?_
          refine cseq ?_
          refine cregion ?_
          refine sv rfl (opv_loadN ti31 rfl (.lp _ _ _ rfl) (Nat.le_of_ble_eq_true rfl)) ?_
          refine sv rfl (opv_fieldAddr_lp fi48_0 rfl) ?_
          refine sv rfl (opv_load1 ti3 rfl (.lp _ _ _ rfl) rfl) ?_
          obtain ⟨v20, hv20, h⟩ := bind_eq h
          refine scall1 rfl fn24 (opnds_cons rfl (opnds_cons rfl opnds_nil)) (pubA_id rfl) (m24_ssi_Find_c hv20) ?_
          refine sv rfl (opv_mvt rfl) ?_
          refine sv rfl (opv_extract rfl rfl) ?_
          refine sv rfl (opv_extract rfl rfl) ?_
          refine salloc rfl zi48 ?_
          refine sstore sz48 rfl rfl rfl rfl (Nat.le_of_ble_eq_true rfl) ?_
          refine smem [.box [.sl b3.1.length (b3.1.flatMap eGSsiTx), .sl b3.2.1.length (b3.2.1.flatMap eGReadsRead), .i .i64 b3.2.2.1, .ls 1 b3.2.2.2.1.length, .ls 2 b3.2.2.2.2.1.length, .ls 3 b3.2.2.2.2.2.length], .arr 3 1 0 (b3.2.2.2.1.flatMap eI), .arr 46 8 0 (b3.2.2.2.2.1.flatMap eGR11Tx), .arr 76 4 0 (b3.2.2.2.2.2.flatMap eGR10Read), .box v4, .box u19, .box v20.1] rfl ?_
          refine sv rfl (opv_as rfl) ?_
          refine snil ?_
          refine cseq ?_
          refine cjoin (Bool) (fun b21 => [(3, .s (.one (.b v1))), (4, .s (.one (.lp 0 0))), (6, .s (.one (.lp 4 0))), (7, .s (.one (.i .i64 v5))), (8, .s (.one (.i .i64 s18))), (9, .s (.one (.lp 5 0))), (10, .s (.one (.lp 6 0))), (11, .s (.one (.b v20.2))), (12, .s (.one (.b b21)))]) (fun b21 => [.box [.sl b3.1.length (b3.1.flatMap eGSsiTx), .sl b3.2.1.length (b3.2.1.flatMap eGReadsRead), .i .i64 b3.2.2.1, .ls 1 b3.2.2.2.1.length, .ls 2 b3.2.2.2.2.1.length, .ls 3 b3.2.2.2.2.2.length], .arr 3 1 0 (b3.2.2.2.1.flatMap eI), .arr 46 8 0 (b3.2.2.2.2.1.flatMap eGR11Tx), .arr 76 4 0 (b3.2.2.2.2.2.flatMap eGR10Read), .box v4, .box u19, .box v20.1]) (fun b21 => m7_l11_SsiCleans_k21 s18 u19 v20 b21 = some y18) (fun _ _ => inbL_of rfl) (fun _ _ => blkinb_of rfl) (fun _ _ => Nat.le_of_ble_eq_true rfl) (fun b21 h => ?_) ?_
          · unfold m7_l11_SsiCleans_k21 at h
            refine cseq ?_
            refine cdraw mixed (by kernel_rfl) ?_
            refine dv rfl (opv_mv rfl) ?_
            refine dv rfl (opv_mv rfl) ?_
            refine dv rfl (opv_bneq Try.underlying4 rfl rfl) ?_
            refine dv rfl (opv_mv rfl) ?_
            refine dsplit 83 rfl (fun hc => ?_) (fun hc => ?_)
            · replace h := ite_t hc h
              clear hc
              refine doff rfl rfl rfl rfl ?_
              refine doff rfl rfl rfl rfl ?_
              refine doffu rfl rfl rfl ?_
              refine doffu rfl rfl rfl ?_
              refine doffu rfl rfl rfl ?_
              refine doffu rfl rfl rfl ?_
              refine doffu rfl rfl rfl ?_
              refine doffu rfl rfl rfl ?_
              refine doff rfl rfl rfl rfl ?_
              refine dv rfl (opv_pick_t rfl rfl) ?_
              refine dnil ?_
              refine then_normal ?_
              refine ccond rfl (fun _ => ?_) (fun hx => Bool.noConfusion hx)
              refine cseq ?_
              refine cregion ?_
              refine sv rfl (opv_as rfl) ?_
              refine snil ?_
              refine cret ?_
              refine block_ret ?_
              refine then_ret ?_
              refine then_ret ?_
              refine block_ret ?_
              refine then_ret ?_
              obtain rfl := Option.some.inj h
              obtain rfl : Sum.inl _ = x18 := hk18
              replace ho18 : some _ = some _ := ho18
              obtain rfl := Option.some.inj ho18
              refine ⟨Or.inr rfl, _, _, _, (resVs_cons (ResV.tmp _ _ rfl) resVs_nil), (pubA_id rfl), ?_⟩
              rfl
            · replace h := ite_f hc h
              clear hc
              refine dvg rfl rfl rfl (opv_mv rfl) ?_
              refine dvg rfl rfl rfl (opv_mv rfl) ?_
              refine dsplit 85 rfl (fun hc => ?_) (fun hc => ?_)
              · replace h := ite_t hc h
                clear hc
                refine dvg rfl rfl rfl (opv_loadN ti48 rfl (.lp _ _ _ rfl) (Nat.le_of_ble_eq_true rfl)) ?_
                obtain ⟨v22, hv22, h⟩ := bind_eq h
                refine ddg rfl rfl rfl (opD_call fn26 (opnds_cons rfl opnds_nil) rfl (m26_l11_done_c hv22)) ?_
                refine dvg rfl rfl rfl (opv_loadN ti48 rfl (.lp _ _ _ rfl) (Nat.le_of_ble_eq_true rfl)) ?_
                obtain ⟨v23, hv23, h⟩ := bind_eq h
                refine ddg rfl rfl rfl (opD_call fn26 (opnds_cons rfl opnds_nil) rfl (m26_l11_done_c hv23)) ?_
                obtain ⟨v24, hv24, h⟩ := bind_eq h
                refine ddg rfl rfl rfl (opD_call fn25 (opnds_cons rfl (opnds_cons rfl opnds_nil)) rfl (m25_r11_SameTx_c hv24)) ?_
                refine dvg rfl rfl rfl (opv_not rfl) ?_
                refine dvg rfl rfl rfl (opv_pick_t rfl rfl) ?_
                refine dv rfl (opv_pick_f rfl rfl) ?_
                refine dnil ?_
                refine then_normal ?_
                refine ccond rfl (fun hc => ?_) (fun hc => ?_)
                · replace h := ite_t hc h
                  clear hc
                  refine cseq ?_
                  refine cregion ?_
                  refine sv rfl (opv_as rfl) ?_
                  refine snil ?_
                  refine cret ?_
                  refine block_ret ?_
                  refine then_ret ?_
                  refine then_ret ?_
                  refine block_ret ?_
                  refine then_ret ?_
                  obtain rfl := Option.some.inj h
                  obtain rfl : Sum.inl _ = x18 := hk18
                  replace ho18 : some _ = some _ := ho18
                  obtain rfl := Option.some.inj ho18
                  refine ⟨Or.inr rfl, _, _, _, (resVs_cons (ResV.tmp _ _ rfl) resVs_nil), (pubA_id rfl), ?_⟩
                  rfl
                · replace h := ite_f hc h
                  clear hc
                  refine cskip ?_
                  refine block_normal ?_
                  refine then_normal ?_
                  refine cregion ?_
                  refine sv rfl (opv_mv rfl) ?_
                  refine sv rfl (opv_add rfl rfl) ?_
                  refine sv rfl (opv_as rfl) ?_
                  refine snil ?_
                  obtain rfl := Option.some.inj h
                  exact ⟨(n18, (wI (s18 + 1))), _, hk18, ⟨rfl, rfl, rfl, rfl, rfl, trivial⟩, rfl, Nat.lt_succ_self _⟩
              · replace h := ite_f hc h
                clear hc
                refine doff rfl rfl rfl rfl ?_
                refine doff rfl rfl rfl rfl ?_
                refine doff rfl rfl rfl rfl ?_
                refine doff rfl rfl rfl rfl ?_
                refine doff rfl rfl rfl rfl ?_
                refine doff rfl rfl rfl rfl ?_
                refine dvg rfl rfl rfl (opv_pick_f rfl rfl) ?_
                refine dv rfl (opv_pick_f rfl rfl) ?_
                refine dnil ?_
                refine then_normal ?_
                refine ccond rfl (fun hx => Bool.noConfusion hx) (fun _ => ?_)
                refine cskip ?_
                refine block_normal ?_
                refine then_normal ?_
                refine cregion ?_
                refine sv rfl (opv_mv rfl) ?_
                refine sv rfl (opv_add rfl rfl) ?_
                refine sv rfl (opv_as rfl) ?_
                refine snil ?_
                obtain rfl := Option.some.inj h
                exact ⟨(n18, (wI (s18 + 1))), _, hk18, ⟨rfl, rfl, rfl, rfl, rfl, trivial⟩, rfl, Nat.lt_succ_self _⟩
          · skip
            refine cregion ?_
            refine sv rfl (opv_fieldAddr_lp fi48_3 rfl) ?_
            refine sv rfl (opv_load1 ti3 rfl (.lp _ _ _ rfl) rfl) ?_
            refine sv rfl (opv_ieql rfl rfl) ?_
            refine sv rfl (opv_mv rfl) ?_
            refine ssplit 74 rfl (fun hc => ?_) (fun hc => ?_)
            · replace h := ite_t hc h
              clear hc
              refine soff rfl rfl rfl rfl ?_
              refine soff rfl rfl rfl rfl ?_
              refine soff rfl rfl rfl rfl ?_
              refine soff rfl rfl rfl rfl ?_
              refine sv rfl (opv_pick_t rfl rfl) ?_
              refine sv rfl (opv_as rfl) ?_
              refine snil ?_
              exact ⟨true, _, h, ⟨rfl, rfl, rfl, rfl, rfl, rfl, rfl, rfl, rfl, trivial⟩, rfl⟩
            · replace h := ite_f hc h
              clear hc
              refine son rfl rfl rfl ?_
              refine sv rfl (opv_fieldAddr_lp fi48_2 rfl) ?_
              refine son rfl rfl rfl ?_
              refine sv rfl (opv_load1 ti3 rfl (.lp _ _ _ rfl) rfl) ?_
              refine son rfl rfl rfl ?_
              refine sv rfl (opv_mv rfl) ?_
              refine son rfl rfl rfl ?_
              refine sv rfl (opv_gtr rfl rfl) ?_
              refine sv rfl (opv_pick_f rfl rfl) ?_
              refine sv rfl (opv_as rfl) ?_
              refine snil ?_
              exact ⟨(decide (v5 < u19.End)), _, h, ⟨rfl, rfl, rfl, rfl, rfl, rfl, rfl, rfl, rfl, trivial⟩, rfl⟩
        · replace h := ite_f hc h
          clear hc
          refine cexit ?_
          refine then_exit ?_
          refine then_exit ?_
          refine block_hit ?_
          refine then_normal ?_
          obtain rfl := Option.some.inj h
          obtain rfl : _ = x18 := hk18
          exact ⟨(), _, ho18, ⟨rfl, rfl, rfl, trivial⟩, rfl⟩
    · skip
      refine cblock ?_
      refine cpubbox 0 0 rfl rfl PubL.nil rfl ?_
      refine cpubbox 0 1 rfl rfl PubL.nil rfl ?_
      obtain ⟨x26, hx26, ho26⟩ := bind_eq h
      refine awc_loop (G := Nat × (Int × (List GSsiTx) × (List GReadsRead) × Int × (List Int) × (List GR11Tx) × (List GR10Read))) (fun g => [(0, .s (.one (.sl a0.length (a0.flatMap eGL11Act)))), (3, .s (.one (.b v1))), (4, .s (.one (.lp 0 0))), (5, .s (.one (.i .i64 g.2.1)))]) (fun g => [.box [.sl g.2.2.1.length (g.2.2.1.flatMap eGSsiTx), .sl g.2.2.2.1.length (g.2.2.2.1.flatMap eGReadsRead), .i .i64 g.2.2.2.2.1, .ls 1 g.2.2.2.2.2.1.length, .ls 2 g.2.2.2.2.2.2.1.length, .ls 3 g.2.2.2.2.2.2.2.length], .arr 3 1 0 (g.2.2.2.2.2.1.flatMap eI), .arr 46 8 0 (g.2.2.2.2.2.2.1.flatMap eGR11Tx), .arr 76 4 0 (g.2.2.2.2.2.2.2.flatMap eGR10Read)]) (fun g => iterB (m7_l11_SsiCleans_s26 a0) g.1 g.2 = some x26) (fun g => g.1) (fuel, (0, ([] : List GSsiTx), ([] : List GReadsRead), 0, ([] : List Int), ([] : List GR11Tx), ([] : List GR10Read))) hx26 ⟨rfl, rfl, rfl, rfl, trivial⟩ [] rfl (fun _ _ => inbL_of rfl) (fun _ _ => blkinb_of rfl) (fun _ _ => Nat.le_of_ble_eq_true rfl) ?_
      clear hx26 h
      rintro ⟨n26, s26⟩ h
      obtain ⟨n26, y26, rfl, h, hk26⟩ := iterB_eq h
      unfold m7_l11_SsiCleans_s26 at h
      refine cseq ?_
      refine cseq ?_
      refine cregion ?_
      refine sv rfl (opv_mv rfl) ?_
      refine sv rfl (opv_mv rfl) ?_
      refine sv rfl (opv_len_sl si22 rfl) ?_
      refine sv rfl (opv_lss rfl rfl) ?_
      refine snil ?_
      refine ccond rfl (fun hc => ?_) (fun hc => ?_)
      · replace h := ite_t hc h
        clear hc
        refine cskip ?_
        refine then_normal ?_
        refine cseq ?_
        refine cblock ?_
        refine cregion ?_
        refine sv rfl (opv_mv rfl) ?_
        refine sv rfl (opv_mv rfl) ?_
        refine sv rfl (opv_mv rfl) ?_
        obtain ⟨u27, hu27, h⟩ := bind_eq h
        refine sv rfl (opv_ix (f := eGL11Act) si22 (fun _ => rfl) rfl rfl rfl rfl hu27) ?_
        refine sv rfl (opv_loadNe (ys := [.i .i64 u27.What, .i .i64 u27.N, .b u27.RO, .sl u27.Rng.Lo.length (u27.Rng.Lo.flatMap eU8), .sl u27.Rng.Hi.length (u27.Rng.Hi.flatMap eU8), .b u27.Rng.Open, .sl u27.Keys.length (u27.Keys.flatMap (eL eU8))]) ti43 rfl (.cp _) rfl rfl) ?_
        obtain ⟨v28, hv28, h⟩ := bind_eq h
        refine scallB (x' := .tup []) (M' := [.box [.sl v28.1.length (v28.1.flatMap eGSsiTx), .sl v28.2.1.length (v28.2.1.flatMap eGReadsRead), .i .i64 v28.2.2.1, .ls 1 v28.2.2.2.1.length, .ls 2 v28.2.2.2.2.1.length, .ls 3 v28.2.2.2.2.2.length], .arr 3 1 0 (v28.2.2.2.1.flatMap eI), .arr 46 8 0 (v28.2.2.2.2.1.flatMap eGR11Tx), .arr 76 4 0 (v28.2.2.2.2.2.flatMap eGR10Read)]) [0, 1, 2, 3] rfl fn11 (.func _) (opnds_cons rfl (opnds_cons rfl opnds_nil)) (m11_l11_world_dos_c hv28) rfl rfl (by decide) rfl rfl rfl ?_
        refine snil0 ?_
        refine block_normal ?_
        refine then_normal ?_
        refine cregion ?_
        refine sv rfl (opv_mv rfl) ?_
        refine sv rfl (opv_add rfl rfl) ?_
        refine sv rfl (opv_as rfl) ?_
        refine snil ?_
        obtain rfl := Option.some.inj h
        exact ⟨(n26, ((wI (s26.1 + 1)), v28.1, v28.2.1, v28.2.2.1, v28.2.2.2.1, v28.2.2.2.2.1, v28.2.2.2.2.2)), _, hk26, ⟨rfl, rfl, rfl, rfl, trivial⟩, rfl, Nat.lt_succ_self _⟩
      · replace h := ite_f hc h
        clear hc
        refine cexit ?_
        refine then_exit ?_
        refine then_exit ?_
        refine block_hit ?_
        refine then_normal ?_
        obtain rfl := Option.some.inj h
        obtain rfl : _ = x26 := hk26
        exact ⟨(s26.2.1, s26.2.2.1, s26.2.2.2.1, s26.2.2.2.2.1, s26.2.2.2.2.2.1, s26.2.2.2.2.2.2), _, ho26, ⟨rfl, rfl, trivial⟩, rfl⟩


end Go.Proofs.Ytbmciegldpeaiaa.Abs
