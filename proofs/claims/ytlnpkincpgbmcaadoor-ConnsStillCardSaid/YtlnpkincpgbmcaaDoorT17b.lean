/-
  t
-/
import Derived.Test.YtlnpkincpgbmcaaDoorT17a
namespace Go.Proofs.YtlnpkincpgbmcaaDoor.Abs
open Go.RowKit Go.Proofs
def m25_conns_saneConn_k1 (a0 : GConnsConn) (b1 : Bool) : Option Bool :=
  if b1 then (if (decide (a0.Tx = (-1))) then ((m40_stream_Sane (GStreamStream.mk a0.Stream.Buf a0.Stream.Dead)).bind fun v2 => if v2 then ((m41_pipe_Sane (GPipePipe.mk (GSeqsWindow.mk a0.Pipe.Win.Base a0.Pipe.Win.Bits) a0.Pipe.Next a0.Pipe.Wait a0.Pipe.Past)).bind fun v3 => some v3) else (some false)) else ((m21_conns_within a0.Tx 1099511627776).bind fun v4 => if v4 then ((m40_stream_Sane (GStreamStream.mk a0.Stream.Buf a0.Stream.Dead)).bind fun v5 => if v5 then ((m41_pipe_Sane (GPipePipe.mk (GSeqsWindow.mk a0.Pipe.Win.Base a0.Pipe.Win.Bits) a0.Pipe.Next a0.Pipe.Wait a0.Pipe.Past)).bind fun v6 => some v6) else (some false)) else (some false))) else (some false)
def m25_conns_saneConn (a0 : GConnsConn) : Option Bool :=
  (m21_conns_within a0.Who 1099511627776).bind fun v7 => if v7 then ((m21_conns_within a0.Epoch 65535).bind fun v8 => if v8 then (m25_conns_saneConn_k1 a0 true) else (if (decide (a0.Who = (-1))) then (m25_conns_saneConn_k1 a0 (decide (a0.Epoch = 0))) else (m25_conns_saneConn_k1 a0 false))) else (if (decide (a0.Who = (-1))) then (m25_conns_saneConn_k1 a0 (decide (a0.Epoch = 0))) else (m25_conns_saneConn_k1 a0 false))

set_option maxRecDepth 100000 in
theorem m25_conns_saneConn_c {a0 : GConnsConn} {r : Bool} (h : m25_conns_saneConn a0 = some r) : CallsA Tryd.prog 25 [.agg a0] (· = .s (.one (.b r))) := by
  unfold m25_conns_saneConn at h
  refine callsA_of Tryd.func25 rfl (nt := 43) rfl (Nat.le_of_ble_eq_true rfl) ?_
  intro w0 S0
  refine cseq ?_
  refine cregion ?_
  refine sbox rfl rfl ?_
  refine sv rfl (opv_as rfl) ?_
  refine snil ?_
  refine cseq ?_
  refine cjoin (Bool) (fun b1 => [(1, .s (.one (.lp 0 0))), (3, .s (.one (.b b1)))]) (fun b1 => [.box a0]) (fun b1 => m25_conns_saneConn_k1 a0 b1 = some r) (fun _ _ => inbL_of rfl) (fun _ _ => blkinb_of rfl) (fun _ _ => Nat.le_of_ble_eq_true rfl) (fun b1 h => ?_) ?_
  · unfold m25_conns_saneConn_k1 at h
    refine cseq ?_
    refine cregion ?_
    refine sv rfl (opv_mv rfl) ?_
    refine sv rfl (opv_mv rfl) ?_
    refine ssplit 23 rfl (fun hc => ?_) (fun hc => ?_)
    · replace h := ite_t hc h
      clear hc
      refine son rfl rfl rfl ?_
      refine sv rfl (opv_fieldAddr_lp fi45_3 rfl) ?_
      refine son rfl rfl rfl ?_
      refine sv rfl (opv_load1 ti3 rfl (.lp _ _ _ rfl) rfl) ?_
      refine son rfl rfl rfl ?_
      refine sv rfl (opv_ieql rfl rfl) ?_
      refine son rfl rfl rfl ?_
      refine sv rfl (opv_mv rfl) ?_
      refine ssplit 27 rfl (fun hc => ?_) (fun hc => ?_)
      · replace h := ite_t hc h
        clear hc
        refine soff rfl rfl rfl rfl ?_
        refine soff rfl rfl rfl rfl ?_
        refine soff rfl rfl rfl rfl ?_
        refine son rfl rfl rfl ?_
        refine sv rfl (opv_pick_t rfl rfl) ?_
        refine sv rfl (opv_pick_t rfl rfl) ?_
        refine sv rfl (opv_mv rfl) ?_
        refine son rfl rfl rfl ?_
        refine sv rfl (opv_fieldAddr_lp fi45_4 rfl) ?_
        refine son rfl rfl rfl ?_
        refine sv rfl (opv_loadN ti36 rfl (.lp _ _ _ rfl) (Nat.le_of_ble_eq_true rfl)) ?_
        refine son rfl rfl rfl ?_
        obtain ⟨v2, hv2, h⟩ := bind_eq h
        refine scall1 rfl fn40 (opnds_cons rfl opnds_nil) (pubA_id rfl) (m40_stream_Sane_c hv2) ?_
        refine sv rfl (opv_pick_t rfl rfl) ?_
        refine sv rfl (opv_mv rfl) ?_
        refine ssplit 38 rfl (fun hc => ?_) (fun hc => ?_)
        · replace h := ite_t hc h
          clear hc
          refine son rfl rfl rfl ?_
          refine sv rfl (opv_fieldAddr_lp fi45_5 rfl) ?_
          refine son rfl rfl rfl ?_
          refine sv rfl (opv_loadN ti43 rfl (.lp _ _ _ rfl) (Nat.le_of_ble_eq_true rfl)) ?_
          refine son rfl rfl rfl ?_
          obtain ⟨v3, hv3, h⟩ := bind_eq h
          refine scall1 rfl fn41 (opnds_cons rfl opnds_nil) (pubA_id rfl) (m41_pipe_Sane_c hv3) ?_
          refine sv rfl (opv_pick_t rfl rfl) ?_
          refine sv rfl (opv_as rfl) ?_
          refine snil ?_
          refine cret ?_
          obtain rfl := Option.some.inj h
          refine ⟨Or.inr rfl, _, _, _, (resVs_cons (ResV.tmp _ _ rfl) resVs_nil), (pubA_id rfl), ?_⟩
          rfl
        · replace h := ite_f hc h
          clear hc
          refine soff rfl rfl rfl rfl ?_
          refine soff rfl rfl rfl rfl ?_
          refine soff rfl rfl rfl rfl ?_
          refine sv rfl (opv_pick_f rfl rfl) ?_
          refine sv rfl (opv_as rfl) ?_
          refine snil ?_
          refine cret ?_
          obtain rfl := Option.some.inj h
          refine ⟨Or.inr rfl, _, _, _, (resVs_cons (ResV.tmp _ _ rfl) resVs_nil), (pubA_id rfl), ?_⟩
          rfl
      · replace h := ite_f hc h
        clear hc
        refine son rfl rfl rfl ?_
        refine sv rfl (opv_fieldAddr_lp fi45_3 rfl) ?_
        refine son rfl rfl rfl ?_
        refine sv rfl (opv_load1 ti3 rfl (.lp _ _ _ rfl) rfl) ?_
        refine son rfl rfl rfl ?_
        obtain ⟨v4, hv4, h⟩ := bind_eq h
        refine scall1 rfl fn21 (opnds_cons rfl (opnds_cons rfl opnds_nil)) (pubA_id rfl) (m21_conns_within_c hv4) ?_
        refine son rfl rfl rfl ?_
        refine sv rfl (opv_pick_f rfl rfl) ?_
        refine sv rfl (opv_pick_t rfl rfl) ?_
        refine sv rfl (opv_mv rfl) ?_
        refine ssplit 33 rfl (fun hc => ?_) (fun hc => ?_)
        · replace h := ite_t hc h
          clear hc
          refine son rfl rfl rfl ?_
          refine sv rfl (opv_fieldAddr_lp fi45_4 rfl) ?_
          refine son rfl rfl rfl ?_
          refine sv rfl (opv_loadN ti36 rfl (.lp _ _ _ rfl) (Nat.le_of_ble_eq_true rfl)) ?_
          refine son rfl rfl rfl ?_
          obtain ⟨v5, hv5, h⟩ := bind_eq h
          refine scall1 rfl fn40 (opnds_cons rfl opnds_nil) (pubA_id rfl) (m40_stream_Sane_c hv5) ?_
          refine sv rfl (opv_pick_t rfl rfl) ?_
          refine sv rfl (opv_mv rfl) ?_
          refine ssplit 38 rfl (fun hc => ?_) (fun hc => ?_)
          · replace h := ite_t hc h
            clear hc
            refine son rfl rfl rfl ?_
            refine sv rfl (opv_fieldAddr_lp fi45_5 rfl) ?_
            refine son rfl rfl rfl ?_
            refine sv rfl (opv_loadN ti43 rfl (.lp _ _ _ rfl) (Nat.le_of_ble_eq_true rfl)) ?_
            refine son rfl rfl rfl ?_
            obtain ⟨v6, hv6, h⟩ := bind_eq h
            refine scall1 rfl fn41 (opnds_cons rfl opnds_nil) (pubA_id rfl) (m41_pipe_Sane_c hv6) ?_
            refine sv rfl (opv_pick_t rfl rfl) ?_
            refine sv rfl (opv_as rfl) ?_
            refine snil ?_
            refine cret ?_
            obtain rfl := Option.some.inj h
            refine ⟨Or.inr rfl, _, _, _, (resVs_cons (ResV.tmp _ _ rfl) resVs_nil), (pubA_id rfl), ?_⟩
            rfl
          · replace h := ite_f hc h
            clear hc
            refine soff rfl rfl rfl rfl ?_
            refine soff rfl rfl rfl rfl ?_
            refine soff rfl rfl rfl rfl ?_
            refine sv rfl (opv_pick_f rfl rfl) ?_
            refine sv rfl (opv_as rfl) ?_
            refine snil ?_
            refine cret ?_
            obtain rfl := Option.some.inj h
            refine ⟨Or.inr rfl, _, _, _, (resVs_cons (ResV.tmp _ _ rfl) resVs_nil), (pubA_id rfl), ?_⟩
            rfl
        · replace h := ite_f hc h
          clear hc
          refine soff rfl rfl rfl rfl ?_
          refine soff rfl rfl rfl rfl ?_
          refine soff rfl rfl rfl rfl ?_
          refine sv rfl (opv_pick_f rfl rfl) ?_
          refine sv rfl (opv_mv rfl) ?_
          refine soff rfl rfl rfl rfl ?_
          refine soff rfl rfl rfl rfl ?_
          refine soff rfl rfl rfl rfl ?_
          refine sv rfl (opv_pick_f rfl rfl) ?_
          refine sv rfl (opv_as rfl) ?_
          refine snil ?_
          refine cret ?_
          obtain rfl := Option.some.inj h
          refine ⟨Or.inr rfl, _, _, _, (resVs_cons (ResV.tmp _ _ rfl) resVs_nil), (pubA_id rfl), ?_⟩
          rfl
    · replace h := ite_f hc h
      clear hc
      refine soff rfl rfl rfl rfl ?_
      refine soff rfl rfl rfl rfl ?_
      refine soff rfl rfl rfl rfl ?_
      refine soff rfl rfl rfl rfl ?_
      refine soffu rfl rfl rfl ?_
      refine soffu rfl rfl rfl ?_
      refine soffu rfl rfl rfl ?_
      refine soff rfl rfl rfl rfl ?_
      refine sv rfl (opv_pick_f rfl rfl) ?_
      refine sv rfl (opv_mv rfl) ?_
      refine soff rfl rfl rfl rfl ?_
      refine soff rfl rfl rfl rfl ?_
      refine soff rfl rfl rfl rfl ?_
      refine sv rfl (opv_pick_f rfl rfl) ?_
      refine sv rfl (opv_mv rfl) ?_
      refine soff rfl rfl rfl rfl ?_
      refine soff rfl rfl rfl rfl ?_
      refine soff rfl rfl rfl rfl ?_
      refine sv rfl (opv_pick_f rfl rfl) ?_
      refine sv rfl (opv_as rfl) ?_
      refine snil ?_
      refine cret ?_
      obtain rfl := Option.some.inj h
      refine ⟨Or.inr rfl, _, _, _, (resVs_cons (ResV.tmp _ _ rfl) resVs_nil), (pubA_id rfl), ?_⟩
      rfl
  · skip
    refine cregion ?_
    refine sv rfl (opv_fieldAddr_lp fi45_1 rfl) ?_
    refine sv rfl (opv_load1 ti3 rfl (.lp _ _ _ rfl) rfl) ?_
    obtain ⟨v7, hv7, h⟩ := bind_eq h
    refine scall1 rfl fn21 (opnds_cons rfl (opnds_cons rfl opnds_nil)) (pubA_id rfl) (m21_conns_within_c hv7) ?_
    refine sv rfl (opv_mv rfl) ?_
    refine ssplit 7 rfl (fun hc => ?_) (fun hc => ?_)
    · replace h := ite_t hc h
      clear hc
      refine son rfl rfl rfl ?_
      refine sv rfl (opv_fieldAddr_lp fi45_2 rfl) ?_
      refine son rfl rfl rfl ?_
      refine sv rfl (opv_load1 ti3 rfl (.lp _ _ _ rfl) rfl) ?_
      refine son rfl rfl rfl ?_
      obtain ⟨v8, hv8, h⟩ := bind_eq h
      refine scall1 rfl fn21 (opnds_cons rfl (opnds_cons rfl opnds_nil)) (pubA_id rfl) (m21_conns_within_c hv8) ?_
      refine sv rfl (opv_pick_t rfl rfl) ?_
      refine sv rfl (opv_mv rfl) ?_
      refine ssplit 12 rfl (fun hc => ?_) (fun hc => ?_)
      · replace h := ite_t hc h
        clear hc
        refine soff rfl rfl rfl rfl ?_
        refine soff rfl rfl rfl rfl ?_
        refine soff rfl rfl rfl rfl ?_
        refine soff rfl rfl rfl rfl ?_
        refine soffu rfl rfl rfl ?_
        refine soffu rfl rfl rfl ?_
        refine soffu rfl rfl rfl ?_
        refine soff rfl rfl rfl rfl ?_
        refine sv rfl (opv_pick_t rfl rfl) ?_
        refine sv rfl (opv_as rfl) ?_
        refine snil ?_
        exact ⟨true, _, h, ⟨rfl, rfl, trivial⟩, rfl⟩
      · replace h := ite_f hc h
        clear hc
        refine son rfl rfl rfl ?_
        refine sv rfl (opv_fieldAddr_lp fi45_1 rfl) ?_
        refine son rfl rfl rfl ?_
        refine sv rfl (opv_load1 ti3 rfl (.lp _ _ _ rfl) rfl) ?_
        refine son rfl rfl rfl ?_
        refine sv rfl (opv_ieql rfl rfl) ?_
        refine son rfl rfl rfl ?_
        refine sv rfl (opv_mv rfl) ?_
        refine ssplit 16 rfl (fun hc => ?_) (fun hc => ?_)
        · replace h := ite_t hc h
          clear hc
          refine son rfl rfl rfl ?_
          refine sv rfl (opv_fieldAddr_lp fi45_2 rfl) ?_
          refine son rfl rfl rfl ?_
          refine sv rfl (opv_load1 ti3 rfl (.lp _ _ _ rfl) rfl) ?_
          refine son rfl rfl rfl ?_
          refine sv rfl (opv_ieql rfl rfl) ?_
          refine son rfl rfl rfl ?_
          refine sv rfl (opv_pick_t rfl rfl) ?_
          refine sv rfl (opv_pick_f rfl rfl) ?_
          refine sv rfl (opv_as rfl) ?_
          refine snil ?_
          exact ⟨(decide (a0.Epoch = 0)), _, h, ⟨rfl, rfl, trivial⟩, rfl⟩
        · replace h := ite_f hc h
          clear hc
          refine soff rfl rfl rfl rfl ?_
          refine soff rfl rfl rfl rfl ?_
          refine soff rfl rfl rfl rfl ?_
          refine son rfl rfl rfl ?_
          refine sv rfl (opv_pick_f rfl rfl) ?_
          refine sv rfl (opv_pick_f rfl rfl) ?_
          refine sv rfl (opv_as rfl) ?_
          refine snil ?_
          exact ⟨false, _, h, ⟨rfl, rfl, trivial⟩, rfl⟩
    · replace h := ite_f hc h
      clear hc
      refine soff rfl rfl rfl rfl ?_
      refine soff rfl rfl rfl rfl ?_
      refine soff rfl rfl rfl rfl ?_
      refine sv rfl (opv_pick_f rfl rfl) ?_
      refine sv rfl (opv_mv rfl) ?_
      refine son rfl rfl rfl ?_
      refine sv rfl (opv_fieldAddr_lp fi45_1 rfl) ?_
      refine son rfl rfl rfl ?_
      refine sv rfl (opv_load1 ti3 rfl (.lp _ _ _ rfl) rfl) ?_
      refine son rfl rfl rfl ?_
      refine sv rfl (opv_ieql rfl rfl) ?_
      refine son rfl rfl rfl ?_
      refine sv rfl (opv_mv rfl) ?_
      refine ssplit 16 rfl (fun hc => ?_) (fun hc => ?_)
      · replace h := ite_t hc h
        clear hc
        refine son rfl rfl rfl ?_
        refine sv rfl (opv_fieldAddr_lp fi45_2 rfl) ?_
        refine son rfl rfl rfl ?_
        refine sv rfl (opv_load1 ti3 rfl (.lp _ _ _ rfl) rfl) ?_
        refine son rfl rfl rfl ?_
        refine sv rfl (opv_ieql rfl rfl) ?_
        refine son rfl rfl rfl ?_
        refine sv rfl (opv_pick_t rfl rfl) ?_
        refine sv rfl (opv_pick_f rfl rfl) ?_
        refine sv rfl (opv_as rfl) ?_
        refine snil ?_
        exact ⟨(decide (a0.Epoch = 0)), _, h, ⟨rfl, rfl, trivial⟩, rfl⟩
      · replace h := ite_f hc h
        clear hc
        refine soff rfl rfl rfl rfl ?_
        refine soff rfl rfl rfl rfl ?_
        refine soff rfl rfl rfl rfl ?_
        refine son rfl rfl rfl ?_
        refine sv rfl (opv_pick_f rfl rfl) ?_
        refine sv rfl (opv_pick_f rfl rfl) ?_
        refine sv rfl (opv_as rfl) ?_
        refine snil ?_
        exact ⟨false, _, h, ⟨rfl, rfl, trivial⟩, rfl⟩

def m26_conns_clash (a0 : GConnsConn) (a1 : GConnsConn) : Option Bool :=
  if (decide (a1.ID ≤ a0.ID)) then (some true) else (if (decide (a0.Who = a1.Who)) then (if (!decide (a0.Who = (-1))) then (some true) else (if (decide (a0.Tx = a1.Tx)) then (some (!decide (a0.Tx = (-1)))) else (some false))) else (if (decide (a0.Tx = a1.Tx)) then (some (!decide (a0.Tx = (-1)))) else (some false)))

set_option maxRecDepth 100000 in
theorem m26_conns_clash_c {a0 : GConnsConn} {a1 : GConnsConn} {r : Bool} (h : m26_conns_clash a0 a1 = some r) : CallsA Tryd.prog 26 [.agg a0, .agg a1] (· = .s (.one (.b r))) := by
  unfold m26_conns_clash at h
  refine callsA_of Tryd.func26 rfl (nt := 34) rfl (Nat.le_of_ble_eq_true rfl) ?_
  intro w0 S0
  refine cseq ?_
  refine cregion ?_
  refine sbox rfl rfl ?_
  refine sbox rfl rfl ?_
  refine sv rfl (opv_as rfl) ?_
  refine snil ?_
  refine cseq ?_
  refine cregion ?_
  refine sv rfl (opv_fieldAddr_lp fi45_0 rfl) ?_
  refine sv rfl (opv_load1 ti3 rfl (.lp _ _ _ rfl) rfl) ?_
  refine sv rfl (opv_fieldAddr_lp fi45_0 rfl) ?_
  refine sv rfl (opv_load1 ti3 rfl (.lp _ _ _ rfl) rfl) ?_
  refine sv rfl (opv_geq rfl rfl) ?_
  refine sv rfl (opv_mv rfl) ?_
  refine ssplit 10 rfl (fun hc => ?_) (fun hc => ?_)
  · replace h := ite_t hc h
    clear hc
    refine soff rfl rfl rfl rfl ?_
    refine soff rfl rfl rfl rfl ?_
    refine soff rfl rfl rfl rfl ?_
    refine soff rfl rfl rfl rfl ?_
    refine soff rfl rfl rfl rfl ?_
    refine soff rfl rfl rfl rfl ?_
    refine soffu rfl rfl rfl ?_
    refine soffu rfl rfl rfl ?_
    refine soffu rfl rfl rfl ?_
    refine soff rfl rfl rfl rfl ?_
    refine sv rfl (opv_pick_t rfl rfl) ?_
    refine sv rfl (opv_mv rfl) ?_
    refine soff rfl rfl rfl rfl ?_
    refine soff rfl rfl rfl rfl ?_
    refine soff rfl rfl rfl rfl ?_
    refine soff rfl rfl rfl rfl ?_
    refine soff rfl rfl rfl rfl ?_
    refine soff rfl rfl rfl rfl ?_
    refine soffu rfl rfl rfl ?_
    refine soffu rfl rfl rfl ?_
    refine soffu rfl rfl rfl ?_
    refine soff rfl rfl rfl rfl ?_
    refine sv rfl (opv_pick_t rfl rfl) ?_
    refine sv rfl (opv_as rfl) ?_
    refine snil ?_
    refine cret ?_
    obtain rfl := Option.some.inj h
    refine ⟨Or.inr rfl, _, _, _, (resVs_cons (ResV.tmp _ _ rfl) resVs_nil), (pubA_id rfl), ?_⟩
    rfl
  · replace h := ite_f hc h
    clear hc
    refine son rfl rfl rfl ?_
    refine sv rfl (opv_fieldAddr_lp fi45_1 rfl) ?_
    refine son rfl rfl rfl ?_
    refine sv rfl (opv_load1 ti3 rfl (.lp _ _ _ rfl) rfl) ?_
    refine son rfl rfl rfl ?_
    refine sv rfl (opv_fieldAddr_lp fi45_1 rfl) ?_
    refine son rfl rfl rfl ?_
    refine sv rfl (opv_load1 ti3 rfl (.lp _ _ _ rfl) rfl) ?_
    refine son rfl rfl rfl ?_
    refine sv rfl (opv_ieql rfl rfl) ?_
    refine son rfl rfl rfl ?_
    refine sv rfl (opv_mv rfl) ?_
    refine ssplit 16 rfl (fun hc => ?_) (fun hc => ?_)
    · replace h := ite_t hc h
      clear hc
      refine son rfl rfl rfl ?_
      refine sv rfl (opv_fieldAddr_lp fi45_1 rfl) ?_
      refine son rfl rfl rfl ?_
      refine sv rfl (opv_load1 ti3 rfl (.lp _ _ _ rfl) rfl) ?_
      refine son rfl rfl rfl ?_
      refine sv rfl (opv_ineq rfl rfl) ?_
      refine son rfl rfl rfl ?_
      refine sv rfl (opv_pick_t rfl rfl) ?_
      refine sv rfl (opv_pick_f rfl rfl) ?_
      refine sv rfl (opv_mv rfl) ?_
      refine ssplit 22 rfl (fun hc => ?_) (fun hc => ?_)
      · replace h := ite_t hc h
        clear hc
        refine soff rfl rfl rfl rfl ?_
        refine soff rfl rfl rfl rfl ?_
        refine soff rfl rfl rfl rfl ?_
        refine soff rfl rfl rfl rfl ?_
        refine soff rfl rfl rfl rfl ?_
        refine soff rfl rfl rfl rfl ?_
        refine soffu rfl rfl rfl ?_
        refine soffu rfl rfl rfl ?_
        refine soffu rfl rfl rfl ?_
        refine soff rfl rfl rfl rfl ?_
        refine sv rfl (opv_pick_t rfl rfl) ?_
        refine sv rfl (opv_as rfl) ?_
        refine snil ?_
        refine cret ?_
        obtain rfl := Option.some.inj h
        refine ⟨Or.inr rfl, _, _, _, (resVs_cons (ResV.tmp _ _ rfl) resVs_nil), (pubA_id rfl), ?_⟩
        rfl
      · replace h := ite_f hc h
        clear hc
        refine son rfl rfl rfl ?_
        refine sv rfl (opv_fieldAddr_lp fi45_3 rfl) ?_
        refine son rfl rfl rfl ?_
        refine sv rfl (opv_load1 ti3 rfl (.lp _ _ _ rfl) rfl) ?_
        refine son rfl rfl rfl ?_
        refine sv rfl (opv_fieldAddr_lp fi45_3 rfl) ?_
        refine son rfl rfl rfl ?_
        refine sv rfl (opv_load1 ti3 rfl (.lp _ _ _ rfl) rfl) ?_
        refine son rfl rfl rfl ?_
        refine sv rfl (opv_ieql rfl rfl) ?_
        refine son rfl rfl rfl ?_
        refine sv rfl (opv_mv rfl) ?_
        refine ssplit 28 rfl (fun hc => ?_) (fun hc => ?_)
        · replace h := ite_t hc h
          clear hc
          refine son rfl rfl rfl ?_
          refine sv rfl (opv_fieldAddr_lp fi45_3 rfl) ?_
          refine son rfl rfl rfl ?_
          refine sv rfl (opv_load1 ti3 rfl (.lp _ _ _ rfl) rfl) ?_
          refine son rfl rfl rfl ?_
          refine sv rfl (opv_ineq rfl rfl) ?_
          refine son rfl rfl rfl ?_
          refine sv rfl (opv_pick_t rfl rfl) ?_
          refine sv rfl (opv_pick_f rfl rfl) ?_
          refine sv rfl (opv_as rfl) ?_
          refine snil ?_
          refine cret ?_
          obtain rfl := Option.some.inj h
          refine ⟨Or.inr rfl, _, _, _, (resVs_cons (ResV.tmp _ _ rfl) resVs_nil), (pubA_id rfl), ?_⟩
          rfl
        · replace h := ite_f hc h
          clear hc
          refine soff rfl rfl rfl rfl ?_
          refine soff rfl rfl rfl rfl ?_
          refine soff rfl rfl rfl rfl ?_
          refine son rfl rfl rfl ?_
          refine sv rfl (opv_pick_f rfl rfl) ?_
          refine sv rfl (opv_pick_f rfl rfl) ?_
          refine sv rfl (opv_as rfl) ?_
          refine snil ?_
          refine cret ?_
          obtain rfl := Option.some.inj h
          refine ⟨Or.inr rfl, _, _, _, (resVs_cons (ResV.tmp _ _ rfl) resVs_nil), (pubA_id rfl), ?_⟩
          rfl
    · replace h := ite_f hc h
      clear hc
      refine soff rfl rfl rfl rfl ?_
      refine soff rfl rfl rfl rfl ?_
      refine soff rfl rfl rfl rfl ?_
      refine son rfl rfl rfl ?_
      refine sv rfl (opv_pick_f rfl rfl) ?_
      refine sv rfl (opv_pick_f rfl rfl) ?_
      refine sv rfl (opv_mv rfl) ?_
      refine son rfl rfl rfl ?_
      refine sv rfl (opv_fieldAddr_lp fi45_3 rfl) ?_
      refine son rfl rfl rfl ?_
      refine sv rfl (opv_load1 ti3 rfl (.lp _ _ _ rfl) rfl) ?_
      refine son rfl rfl rfl ?_
      refine sv rfl (opv_fieldAddr_lp fi45_3 rfl) ?_
      refine son rfl rfl rfl ?_
      refine sv rfl (opv_load1 ti3 rfl (.lp _ _ _ rfl) rfl) ?_
      refine son rfl rfl rfl ?_
      refine sv rfl (opv_ieql rfl rfl) ?_
      refine son rfl rfl rfl ?_
      refine sv rfl (opv_mv rfl) ?_
      refine ssplit 28 rfl (fun hc => ?_) (fun hc => ?_)
      · replace h := ite_t hc h
        clear hc
        refine son rfl rfl rfl ?_
        refine sv rfl (opv_fieldAddr_lp fi45_3 rfl) ?_
        refine son rfl rfl rfl ?_
        refine sv rfl (opv_load1 ti3 rfl (.lp _ _ _ rfl) rfl) ?_
        refine son rfl rfl rfl ?_
        refine sv rfl (opv_ineq rfl rfl) ?_
        refine son rfl rfl rfl ?_
        refine sv rfl (opv_pick_t rfl rfl) ?_
        refine sv rfl (opv_pick_f rfl rfl) ?_
        refine sv rfl (opv_as rfl) ?_
        refine snil ?_
        refine cret ?_
        obtain rfl := Option.some.inj h
        refine ⟨Or.inr rfl, _, _, _, (resVs_cons (ResV.tmp _ _ rfl) resVs_nil), (pubA_id rfl), ?_⟩
        rfl
      · replace h := ite_f hc h
        clear hc
        refine soff rfl rfl rfl rfl ?_
        refine soff rfl rfl rfl rfl ?_
        refine soff rfl rfl rfl rfl ?_
        refine son rfl rfl rfl ?_
        refine sv rfl (opv_pick_f rfl rfl) ?_
        refine sv rfl (opv_pick_f rfl rfl) ?_
        refine sv rfl (opv_as rfl) ?_
        refine snil ?_
        refine cret ?_
        obtain rfl := Option.some.inj h
        refine ⟨Or.inr rfl, _, _, _, (resVs_cons (ResV.tmp _ _ rfl) resVs_nil), (pubA_id rfl), ?_⟩
        rfl

def m10_conns_Sane_k2 (b2 : Unit) : Option Bool :=
  some true

def m10_conns_Sane_k7 (s3 : Int) (b7 : Unit) : Option (LR (Int) (Unit) (Bool)) :=
  some (.cont (wI (s3 + 1)))

def m10_conns_Sane_s8 (u4 : GConnsConn) (c6 : List GConnsConn) (s8 : Int) : Option (LR (Int) (Unit) (Bool)) :=
  if (decide (s8 < (c6.length : Int))) then ((idx c6 s8).bind fun u9 => (m26_conns_clash (GConnsConn.mk u9.ID u9.Who u9.Epoch u9.Tx (GStreamStream.mk u9.Stream.Buf u9.Stream.Dead) (GPipePipe.mk (GSeqsWindow.mk u9.Pipe.Win.Base u9.Pipe.Win.Bits) u9.Pipe.Next u9.Pipe.Wait u9.Pipe.Past)) (GConnsConn.mk u4.ID u4.Who u4.Epoch u4.Tx (GStreamStream.mk u4.Stream.Buf u4.Stream.Dead) (GPipePipe.mk (GSeqsWindow.mk u4.Pipe.Win.Base u4.Pipe.Win.Bits) u4.Pipe.Next u4.Pipe.Wait u4.Pipe.Past))).bind fun v10 => if v10 then (some (.ret false)) else (some (.cont (wI (s8 + 1))))) else (some (.brk ()))

def m10_conns_Sane_k5 (a0 : GConnsTable) (s3 : Int) (u4 : GConnsConn) (b5 : Unit) : Option (LR (Int) (Unit) (Bool)) :=
  (cut a0.L 0 s3).bind fun c6 => (iter (m10_conns_Sane_s8 u4 c6) fuel 0).bind fun x => match x with | .inl r => some (.ret r) | .inr e11 => m10_conns_Sane_k7 s3 e11

def m10_conns_Sane_s3 (a0 : GConnsTable) (s3 : Int) : Option (LR (Int) (Unit) (Bool)) :=
  if (decide (s3 < (a0.L.length : Int))) then ((idx a0.L s3).bind fun u4 => if (decide (u4.ID < 0)) then (some (.ret false)) else (if (decide (a0.Next ≤ u4.ID)) then (some (.ret false)) else ((m25_conns_saneConn (GConnsConn.mk u4.ID u4.Who u4.Epoch u4.Tx (GStreamStream.mk u4.Stream.Buf u4.Stream.Dead) (GPipePipe.mk (GSeqsWindow.mk u4.Pipe.Win.Base u4.Pipe.Win.Bits) u4.Pipe.Next u4.Pipe.Wait u4.Pipe.Past))).bind fun v12 => if (!v12) then (some (.ret false)) else (m10_conns_Sane_k5 a0 s3 u4 ())))) else (some (.brk ()))

def m10_conns_Sane_k1 (a0 : GConnsTable) (b1 : Unit) : Option Bool :=
  (iter (m10_conns_Sane_s3 a0) fuel 0).bind fun x => match x with | .inl r => some r | .inr e13 => m10_conns_Sane_k2 e13
def m10_conns_Sane (a0 : GConnsTable) : Option Bool :=
  if (decide (8 < (a0.L.length : Int))) then (some false) else ((m21_conns_within a0.Next 1099511627776).bind fun v14 => if (!v14) then (some false) else (m10_conns_Sane_k1 a0 ()))

set_option maxRecDepth 100000 in
theorem m10_conns_Sane_c {a0 : GConnsTable} {r : Bool} (h : m10_conns_Sane a0 = some r) : CallsA Tryd.prog 10 [.agg a0] (· = .s (.one (.b r))) := by
  unfold m10_conns_Sane at h
  refine callsA_of Tryd.func10 rfl (nt := 54) rfl (Nat.le_of_ble_eq_true rfl) ?_
  intro w0 S0
  refine cseq ?_
  refine cregion ?_
  refine sbox rfl rfl ?_
  refine sv rfl (opv_as rfl) ?_
  refine snil ?_
  refine cseq ?_
  refine cseq ?_
  refine cjoin3 (Unit) (fun b1 => [(1, .s (.one (.lp 0 0)))]) (fun b1 => [.box a0]) (fun b1 => m10_conns_Sane_k1 a0 b1 = some r) (fun _ _ => inbL_of rfl) (fun _ _ => blkinb_of rfl) (fun _ _ => Nat.le_of_ble_eq_true rfl) (fun b1 h => ?_) ?_
  · unfold m10_conns_Sane_k1 at h
    refine cseq ?_
    refine cseq ?_
    refine cregion ?_
    refine sv rfl (opv_fieldAddr_lp fi26_0 rfl) ?_
    refine sv rfl (opv_load1 ti24 rfl (.lp _ _ _ rfl) rfl) ?_
    refine sv rfl (opv_len_sl si24 rfl) ?_
    refine sv rfl (opv_mv rfl) ?_
    refine snil ?_
    refine cjoin (Unit) (fun b2 => []) (fun b2 => [.box a0]) (fun b2 => m10_conns_Sane_k2 b2 = some r) (fun _ _ => inbL_of rfl) (fun _ _ => blkinb_of rfl) (fun _ _ => Nat.le_of_ble_eq_true rfl) (fun b2 h => ?_) ?_
    · unfold m10_conns_Sane_k2 at h
      refine cseq ?_
      refine cregion ?_
      refine sv rfl (opv_as rfl) ?_
      refine snil ?_
      refine cret ?_
      obtain rfl := Option.some.inj h
      refine ⟨Or.inr rfl, _, _, _, (resVs_cons (ResV.tmp _ _ rfl) resVs_nil), (pubA_id rfl), ?_⟩
      rfl
    · skip
      refine cblock ?_
      obtain ⟨x3, hx3, ho3⟩ := bind_eq h
      refine awc_loop (G := Nat × (Int)) (fun g => [(1, .s (.one (.lp 0 0))), (18, .s (.one (.sl a0.L.length (a0.L.flatMap eGConnsConn)))), (19, .s (.one (.i .i64 (a0.L.length : Int)))), (20, .s (.one (.i .i64 g.2)))]) (fun g => [.box a0]) (fun g => iter (m10_conns_Sane_s3 a0) g.1 g.2 = some x3) (fun g => g.1) (fuel, 0) hx3 ⟨rfl, rfl, rfl, rfl, trivial⟩ [] rfl (fun _ _ => inbL_of rfl) (fun _ _ => blkinb_of rfl) (fun _ _ => Nat.le_of_ble_eq_true rfl) ?_
      clear hx3 h
      rintro ⟨n3, s3⟩ h
      obtain ⟨n3, y3, rfl, h, hk3⟩ := iter_eq h
      unfold m10_conns_Sane_s3 at h
      refine cseq ?_
      refine cregion ?_
      refine sv rfl (opv_lss rfl rfl) ?_
      refine snil ?_
      refine cseq ?_
      refine ccond rfl (fun hc => ?_) (fun hc => ?_)
      · replace h := ite_t hc h
        clear hc
        refine cskip ?_
        refine then_normal ?_
        refine cseq ?_
        refine cblock ?_
        refine cseq ?_
        refine cregion ?_
        refine sv rfl (opv_mv rfl) ?_
        obtain ⟨u4, hu4, h⟩ := bind_eq h
        refine sv rfl (opv_ix (f := eGConnsConn) si24 (fun _ => rfl) rfl rfl rfl rfl hu4) ?_
        refine sv rfl (opv_loadNe (ys := [.i .i64 u4.ID, .i .i64 u4.Who, .i .i64 u4.Epoch, .i .i64 u4.Tx, .sl u4.Stream.Buf.length (u4.Stream.Buf.flatMap eU8), .i .i64 u4.Stream.Dead, .i .i64 u4.Pipe.Win.Base, .i .u64 (u4.Pipe.Win.Bits.toNat : Int), .i .i64 u4.Pipe.Next, .sl u4.Pipe.Wait.length (u4.Pipe.Wait.flatMap eGMsgReq), .sl u4.Pipe.Past.length (u4.Pipe.Past.flatMap eGMsgReply)]) ti45 rfl (.cp _) rfl rfl) ?_
        refine salloc rfl zi45 ?_
        refine sv rfl (opv_as rfl) ?_
        refine sstore sz45 rfl rfl rfl rfl (Nat.le_of_ble_eq_true rfl) ?_
        refine smem [.box a0, .box u4] rfl ?_
        refine snil ?_
        refine cseq ?_
        refine cseq ?_
        refine cjoin3 (Unit) (fun b5 => [(1, .s (.one (.lp 0 0))), (3, .s (.one (.i .i64 s3))), (4, .s (.one (.lp 1 0))), (18, .s (.one (.sl a0.L.length (a0.L.flatMap eGConnsConn)))), (19, .s (.one (.i .i64 (a0.L.length : Int)))), (20, .s (.one (.i .i64 s3)))]) (fun b5 => [.box a0, .box u4]) (fun b5 => m10_conns_Sane_k5 a0 s3 u4 b5 = some y3) (fun _ _ => inbL_of rfl) (fun _ _ => blkinb_of rfl) (fun _ _ => Nat.le_of_ble_eq_true rfl) (fun b5 h => ?_) ?_
        · unfold m10_conns_Sane_k5 at h
          refine cseq ?_
          refine cregion ?_
          refine sv rfl (opv_fieldAddr_lp fi26_0 rfl) ?_
          refine sv rfl (opv_load1 ti24 rfl (.lp _ _ _ rfl) rfl) ?_
          refine sv rfl (opv_mv rfl) ?_
          obtain ⟨c6, hc6, h⟩ := bind_eq h
          refine sv rfl (opv_cut (f := eGConnsConn) (lo := 0) (hi := s3) si24 (fun _ => rfl) rfl rfl rfl bound_none (bound_some rfl (Int.le_trans (cut_eq hc6).1.1 (cut_eq hc6).1.2.1)) hc6) ?_
          refine sv rfl (opv_len_sl si24 rfl) ?_
          refine sv rfl (opv_mv rfl) ?_
          refine snil ?_
          refine cjoinb (Unit) (fun b7 => [(1, .s (.one (.lp 0 0))), (18, .s (.one (.sl a0.L.length (a0.L.flatMap eGConnsConn)))), (19, .s (.one (.i .i64 (a0.L.length : Int)))), (20, .s (.one (.i .i64 s3)))]) (fun b7 => [.box a0, .box u4]) (fun b7 => m10_conns_Sane_k7 s3 b7 = some y3) (fun _ _ => inbL_of rfl) (fun _ _ => blkinb_of rfl) (fun _ _ => Nat.le_of_ble_eq_true rfl) (fun b7 h => ?_) ?_
          · unfold m10_conns_Sane_k7 at h
            refine cregion ?_
            refine sv rfl (opv_add rfl rfl) ?_
            refine sv rfl (opv_mv rfl) ?_
            refine snil ?_
            obtain rfl := Option.some.inj h
            exact ⟨(n3, (wI (s3 + 1))), _, hk3, ⟨rfl, rfl, rfl, rfl, trivial⟩, rfl, Nat.lt_succ_self _⟩
          · skip
            refine cblock ?_
            obtain ⟨x8, hx8, ho8⟩ := bind_eq h
            refine awc_loop (G := Nat × (Int)) (fun g => [(1, .s (.one (.lp 0 0))), (4, .s (.one (.lp 1 0))), (18, .s (.one (.sl a0.L.length (a0.L.flatMap eGConnsConn)))), (19, .s (.one (.i .i64 (a0.L.length : Int)))), (20, .s (.one (.i .i64 s3))), (43, .s (.one (.sl c6.length (c6.flatMap eGConnsConn)))), (44, .s (.one (.i .i64 (c6.length : Int)))), (45, .s (.one (.i .i64 g.2)))]) (fun g => [.box a0, .box u4]) (fun g => iter (m10_conns_Sane_s8 u4 c6) g.1 g.2 = some x8) (fun g => g.1) (fuel, 0) hx8 ⟨rfl, rfl, rfl, rfl, rfl, rfl, rfl, rfl, trivial⟩ [] rfl (fun _ _ => inbL_of rfl) (fun _ _ => blkinb_of rfl) (fun _ _ => Nat.le_of_ble_eq_true rfl) ?_
            clear hx8 h
            rintro ⟨n8, s8⟩ h
            obtain ⟨n8, y8, rfl, h, hk8⟩ := iter_eq h
            unfold m10_conns_Sane_s8 at h
            refine cseq ?_
            refine cregion ?_
            refine sv rfl (opv_lss rfl rfl) ?_
            refine snil ?_
            refine cseq ?_
            refine ccond rfl (fun hc => ?_) (fun hc => ?_)
            · replace h := ite_t hc h
              clear hc
              refine cskip ?_
              refine then_normal ?_
              refine cseq ?_
              refine cblock ?_
              refine cseq ?_
              refine cregion ?_
              obtain ⟨u9, hu9, h⟩ := bind_eq h
              refine sv rfl (opv_ix (f := eGConnsConn) si24 (fun _ => rfl) rfl rfl rfl rfl hu9) ?_
              refine sv rfl (opv_loadNe (ys := [.i .i64 u9.ID, .i .i64 u9.Who, .i .i64 u9.Epoch, .i .i64 u9.Tx, .sl u9.Stream.Buf.length (u9.Stream.Buf.flatMap eU8), .i .i64 u9.Stream.Dead, .i .i64 u9.Pipe.Win.Base, .i .u64 (u9.Pipe.Win.Bits.toNat : Int), .i .i64 u9.Pipe.Next, .sl u9.Pipe.Wait.length (u9.Pipe.Wait.flatMap eGMsgReq), .sl u9.Pipe.Past.length (u9.Pipe.Past.flatMap eGMsgReply)]) ti45 rfl (.cp _) rfl rfl) ?_
              refine salloc rfl zi45 ?_
              refine sstore sz45 rfl rfl rfl rfl (Nat.le_of_ble_eq_true rfl) ?_
              refine smem [.box a0, .box u4, .box u9] rfl ?_
              refine snil ?_
              refine cseq ?_
              refine cregion ?_
              refine sv rfl (opv_loadN ti45 rfl (.lp _ _ _ rfl) (Nat.le_of_ble_eq_true rfl)) ?_
              refine sv rfl (opv_loadN ti45 rfl (.lp _ _ _ rfl) (Nat.le_of_ble_eq_true rfl)) ?_
              obtain ⟨v10, hv10, h⟩ := bind_eq h
              refine scall1 rfl fn26 (opnds_cons rfl (opnds_cons rfl opnds_nil)) (pubA_id rfl) (m26_conns_clash_c hv10) ?_
              refine snil ?_
              refine ccond rfl (fun hc => ?_) (fun hc => ?_)
              · replace h := ite_t hc h
                clear hc
                refine cseq ?_
                refine cregion ?_
                refine sv rfl (opv_as rfl) ?_
                refine snil ?_
                refine cret ?_
                refine block_ret ?_
                refine then_ret ?_
                refine then_ret ?_
                refine block_ret ?_
                refine block_ret ?_
                refine then_ret ?_
                refine then_ret ?_
                refine block_ret ?_
                refine then_ret ?_
                obtain rfl := Option.some.inj h
                obtain rfl : Sum.inl _ = x8 := hk8
                replace ho8 : some _ = some _ := ho8
                obtain rfl := Option.some.inj ho8
                obtain rfl : Sum.inl _ = x3 := hk3
                replace ho3 : some _ = some _ := ho3
                obtain rfl := Option.some.inj ho3
                refine ⟨Or.inr rfl, _, _, _, (resVs_cons (ResV.tmp _ _ rfl) resVs_nil), (pubA_id rfl), ?_⟩
                rfl
              · replace h := ite_f hc h
                clear hc
                refine cskip ?_
                refine block_normal ?_
                refine then_normal ?_
                refine cregion ?_
                refine sv rfl (opv_add rfl rfl) ?_
                refine sv rfl (opv_mv rfl) ?_
                refine snil ?_
                obtain rfl := Option.some.inj h
                exact ⟨(n8, (wI (s8 + 1))), _, hk8, ⟨rfl, rfl, rfl, rfl, rfl, rfl, rfl, rfl, trivial⟩, rfl, Nat.lt_succ_self _⟩
            · replace h := ite_f hc h
              clear hc
              refine cexit ?_
              refine then_exit ?_
              refine then_exit ?_
              refine block_hit ?_
              refine block_normal ?_
              refine then_normal ?_
              obtain rfl := Option.some.inj h
              obtain rfl : _ = x8 := hk8
              exact ⟨(), _, ho8, ⟨rfl, rfl, rfl, rfl, trivial⟩, rfl⟩
        · skip
          refine cregion ?_
          refine sv rfl (opv_fieldAddr_lp fi45_0 rfl) ?_
          refine sv rfl (opv_load1 ti3 rfl (.lp _ _ _ rfl) rfl) ?_
          refine sv rfl (opv_lss rfl rfl) ?_
          refine sv rfl (opv_mv rfl) ?_
          refine ssplit 28 rfl (fun hc => ?_) (fun hc => ?_)
          · replace h := ite_t hc h
            clear hc
            refine soff rfl rfl rfl rfl ?_
            refine soff rfl rfl rfl rfl ?_
            refine soff rfl rfl rfl rfl ?_
            refine soff rfl rfl rfl rfl ?_
            refine soff rfl rfl rfl rfl ?_
            refine sv rfl (opv_pick_t rfl rfl) ?_
            refine sv rfl (opv_mv rfl) ?_
            refine soff rfl rfl rfl rfl ?_
            refine soff rfl rfl rfl rfl ?_
            refine soff rfl rfl rfl rfl ?_
            refine sv rfl (opv_pick_t rfl rfl) ?_
            refine snil ?_
            refine ccond rfl (fun _ => ?_) (fun hx => Bool.noConfusion hx)
            refine cseq ?_
            refine cregion ?_
            refine sv rfl (opv_as rfl) ?_
            refine snil ?_
            refine cret ?_
            refine then_ret ?_
            refine block_ret ?_
            refine then_ret ?_
            refine then_ret ?_
            refine block_ret ?_
            refine then_ret ?_
            obtain rfl := Option.some.inj h
            obtain rfl : Sum.inl _ = x3 := hk3
            replace ho3 : some _ = some _ := ho3
            obtain rfl := Option.some.inj ho3
            refine ⟨Or.inr rfl, _, _, _, (resVs_cons (ResV.tmp _ _ rfl) resVs_nil), (pubA_id rfl), ?_⟩
            rfl
          · replace h := ite_f hc h
            clear hc
            refine son rfl rfl rfl ?_
            refine sv rfl (opv_fieldAddr_lp fi45_0 rfl) ?_
            refine son rfl rfl rfl ?_
            refine sv rfl (opv_load1 ti3 rfl (.lp _ _ _ rfl) rfl) ?_
            refine son rfl rfl rfl ?_
            refine sv rfl (opv_fieldAddr_lp fi26_1 rfl) ?_
            refine son rfl rfl rfl ?_
            refine sv rfl (opv_load1 ti3 rfl (.lp _ _ _ rfl) rfl) ?_
            refine son rfl rfl rfl ?_
            refine sv rfl (opv_geq rfl rfl) ?_
            refine sv rfl (opv_pick_f rfl rfl) ?_
            refine sv rfl (opv_mv rfl) ?_
            refine ssplit 35 rfl (fun hc => ?_) (fun hc => ?_)
            · replace h := ite_t hc h
              clear hc
              refine soff rfl rfl rfl rfl ?_
              refine soff rfl rfl rfl rfl ?_
              refine soff rfl rfl rfl rfl ?_
              refine sv rfl (opv_pick_t rfl rfl) ?_
              refine snil ?_
              refine ccond rfl (fun _ => ?_) (fun hx => Bool.noConfusion hx)
              refine cseq ?_
              refine cregion ?_
              refine sv rfl (opv_as rfl) ?_
              refine snil ?_
              refine cret ?_
              refine then_ret ?_
              refine block_ret ?_
              refine then_ret ?_
              refine then_ret ?_
              refine block_ret ?_
              refine then_ret ?_
              obtain rfl := Option.some.inj h
              obtain rfl : Sum.inl _ = x3 := hk3
              replace ho3 : some _ = some _ := ho3
              obtain rfl := Option.some.inj ho3
              refine ⟨Or.inr rfl, _, _, _, (resVs_cons (ResV.tmp _ _ rfl) resVs_nil), (pubA_id rfl), ?_⟩
              rfl
            · replace h := ite_f hc h
              clear hc
              refine son rfl rfl rfl ?_
              refine sv rfl (opv_loadN ti45 rfl (.lp _ _ _ rfl) (Nat.le_of_ble_eq_true rfl)) ?_
              refine son rfl rfl rfl ?_
              obtain ⟨v12, hv12, h⟩ := bind_eq h
              refine scall1 rfl fn25 (opnds_cons rfl opnds_nil) (pubA_id rfl) (m25_conns_saneConn_c hv12) ?_
              refine son rfl rfl rfl ?_
              refine sv rfl (opv_not rfl) ?_
              refine sv rfl (opv_pick_f rfl rfl) ?_
              refine snil ?_
              refine ccond rfl (fun hc => ?_) (fun hc => ?_)
              · replace h := ite_t hc h
                clear hc
                refine cseq ?_
                refine cregion ?_
                refine sv rfl (opv_as rfl) ?_
                refine snil ?_
                refine cret ?_
                refine then_ret ?_
                refine block_ret ?_
                refine then_ret ?_
                refine then_ret ?_
                refine block_ret ?_
                refine then_ret ?_
                obtain rfl := Option.some.inj h
                obtain rfl : Sum.inl _ = x3 := hk3
                replace ho3 : some _ = some _ := ho3
                obtain rfl := Option.some.inj ho3
                refine ⟨Or.inr rfl, _, _, _, (resVs_cons (ResV.tmp _ _ rfl) resVs_nil), (pubA_id rfl), ?_⟩
                rfl
              · replace h := ite_f hc h
                clear hc
                refine cskip ?_
                refine then_normal ?_
                exact ⟨(), _, h, ⟨rfl, rfl, rfl, rfl, rfl, rfl, trivial⟩, rfl⟩
      · replace h := ite_f hc h
        clear hc
        refine cexit ?_
        refine then_exit ?_
        refine then_exit ?_
        refine block_hit ?_
        refine then_normal ?_
        obtain rfl := Option.some.inj h
        obtain rfl : _ = x3 := hk3
        exact ⟨(), _, ho3, trivial, rfl⟩
  · skip
    refine cregion ?_
    refine sv rfl (opv_fieldAddr_lp fi26_0 rfl) ?_
    refine sv rfl (opv_load1 ti24 rfl (.lp _ _ _ rfl) rfl) ?_
    refine sv rfl (opv_len_sl si24 rfl) ?_
    refine sv rfl (opv_gtr rfl rfl) ?_
    refine sv rfl (opv_mv rfl) ?_
    refine ssplit 11 rfl (fun hc => ?_) (fun hc => ?_)
    · replace h := ite_t hc h
      clear hc
      refine soff rfl rfl rfl rfl ?_
      refine soff rfl rfl rfl rfl ?_
      refine soff rfl rfl rfl rfl ?_
      refine soff rfl rfl rfl rfl ?_
      refine sv rfl (opv_pick_t rfl rfl) ?_
      refine snil ?_
      refine ccond rfl (fun _ => ?_) (fun hx => Bool.noConfusion hx)
      refine cseq ?_
      refine cregion ?_
      refine sv rfl (opv_as rfl) ?_
      refine snil ?_
      refine cret ?_
      refine then_ret ?_
      obtain rfl := Option.some.inj h
      refine ⟨Or.inr rfl, _, _, _, (resVs_cons (ResV.tmp _ _ rfl) resVs_nil), (pubA_id rfl), ?_⟩
      rfl
    · replace h := ite_f hc h
      clear hc
      refine son rfl rfl rfl ?_
      refine sv rfl (opv_fieldAddr_lp fi26_1 rfl) ?_
      refine son rfl rfl rfl ?_
      refine sv rfl (opv_load1 ti3 rfl (.lp _ _ _ rfl) rfl) ?_
      refine son rfl rfl rfl ?_
      obtain ⟨v14, hv14, h⟩ := bind_eq h
      refine scall1 rfl fn21 (opnds_cons rfl (opnds_cons rfl opnds_nil)) (pubA_id rfl) (m21_conns_within_c hv14) ?_
      refine son rfl rfl rfl ?_
      refine sv rfl (opv_not rfl) ?_
      refine sv rfl (opv_pick_f rfl rfl) ?_
      refine snil ?_
      refine ccond rfl (fun hc => ?_) (fun hc => ?_)
      · replace h := ite_t hc h
        clear hc
        refine cseq ?_
        refine cregion ?_
        refine sv rfl (opv_as rfl) ?_
        refine snil ?_
        refine cret ?_
        refine then_ret ?_
        obtain rfl := Option.some.inj h
        refine ⟨Or.inr rfl, _, _, _, (resVs_cons (ResV.tmp _ _ rfl) resVs_nil), (pubA_id rfl), ?_⟩
        rfl
      · replace h := ite_f hc h
        clear hc
        refine cskip ?_
        refine then_normal ?_
        exact ⟨(), _, h, ⟨rfl, trivial⟩, rfl⟩

def m38_slices_Growo_k1 (a0 : Int) (b1 : Unit) : Option (List GConnsConn) :=
  if (decide (0 < (wI (a0 - (wI (0 - 0)))))) then (if 0 < (wI (a0 - (wI (0 - 0)))) ∧ (wI (a0 - (wI (0 - 0)))) * ((136 : Nat) : Int) ≤ 281474976710656 then (if (0 : Int) ≤ 0 ∧ 0 ≤ ((List.replicate (wI (a0 - (wI (0 - 0)))).toNat (GConnsConn.mk 0 0 0 0 (GStreamStream.mk ([] : List UInt8) 0) (GPipePipe.mk (GSeqsWindow.mk 0 (0#64)) 0 ([] : List GMsgReq) ([] : List GMsgReply)))).length : Int) then (some ((List.replicate (wI (a0 - (wI (0 - 0)))).toNat (GConnsConn.mk 0 0 0 0 (GStreamStream.mk ([] : List UInt8) 0) (GPipePipe.mk (GSeqsWindow.mk 0 (0#64)) 0 ([] : List GMsgReq) ([] : List GMsgReply)))).take (0 : Int).toNat)) else none) else none) else (some ([] : List GConnsConn))
def m38_slices_Growo (a0 : Int) : Option (List GConnsConn) :=
  if (decide (a0 < 0)) then none else (m38_slices_Growo_k1 a0 ())

set_option maxRecDepth 100000 in
theorem m38_slices_Growo_c {a0 : Int} {r : (List GConnsConn)} (h : m38_slices_Growo a0 = some r) : CallsB Tryd.prog 38 [] [.one (.raw (.slice none 0 0)), .one (.i .i64 a0)] (fun y m' => y = .s (.one (.ls 0 r.length)) ∧ m' = [.arr 45 11 0 (r.flatMap eGConnsConn)]) := by
  unfold m38_slices_Growo at h
  refine callsB_of Tryd.func38 rfl (nt := 27) rfl (Nat.le_of_ble_eq_true rfl) ?_
  intro w0 S0 X0 H0
  refine cseq ?_
  refine cregion ?_
  refine sv rfl (opv_as rfl) ?_
  refine snil ?_
  refine cseq ?_
  refine cseq ?_
  refine cregion ?_
  refine sv rfl (opv_mv rfl) ?_
  refine sv rfl (opv_lss rfl rfl) ?_
  refine snil ?_
  refine cjoin (Unit) (fun b1 => [(0, .s (.one (.raw (.slice none 0 0)))), (1, .s (.one (.i .i64 a0)))]) (fun b1 => []) (fun b1 => m38_slices_Growo_k1 a0 b1 = some r) (fun _ _ => inbL_of rfl) (fun _ _ => blkinb_of rfl) (fun _ _ => Nat.le_of_ble_eq_true rfl) (fun b1 h => ?_) ?_
  · unfold m38_slices_Growo_k1 at h
    refine cseq ?_
    refine cseq ?_
    refine cregion ?_
    refine sv rfl (opv_mv rfl) ?_
    refine sv rfl (opv_mv rfl) ?_
    refine sv rfl (opv_cap_nil si24 rfl) ?_
    refine sv rfl (opv_mv rfl) ?_
    refine sv rfl (opv_len_nil si24 rfl) ?_
    refine sv rfl (opv_sub rfl rfl) ?_
    refine sv rfl (opv_sub rfl rfl) ?_
    refine sv rfl (opv_as rfl) ?_
    refine snil ?_
    refine cseq ?_
    refine cregion ?_
    refine sv rfl (opv_mv rfl) ?_
    refine sv rfl (opv_gtr rfl rfl) ?_
    refine snil ?_
    refine ccond rfl (fun hc => ?_) (fun hc => ?_)
    · replace h := ite_t hc h
      clear hc
      refine cregion ?_
      refine sv rfl (opv_mv rfl) ?_
      refine sv rfl (opv_mv rfl) ?_
      refine sv rfl (opv_cap_nil si24 rfl) ?_
      refine sv rfl (opv_slice_nil si24 rfl rfl) ?_
      refine sv rfl (opv_mv rfl) ?_
      obtain ⟨hm2, h⟩ := chk_eq h
      refine sappzc (f := eGConnsConn) (z := (GConnsConn.mk 0 0 0 0 (GStreamStream.mk ([] : List UInt8) 0) (GPipePipe.mk (GSeqsWindow.mk 0 (0#64)) 0 ([] : List GMsgReq) ([] : List GMsgReply)))) rfl Tryd.underlying24 ei45 Tryd.underlying3 (fun _ => rfl) rfl rfl rfl hm2 (by decide) ?_
      refine sv rfl (opv_mv rfl) ?_
      refine sv rfl (opv_len_nil si24 rfl) ?_
      obtain ⟨hs3, h⟩ := chk_eq h
      refine strunc (f := eGConnsConn) rfl si24 (fun _ => rfl) rfl rfl rfl rfl rfl hs3 ?_
      refine sv rfl (opv_as rfl) ?_
      refine snil ?_
      refine cseq ?_
      refine cregion ?_
      refine sv rfl (opv_mv rfl) ?_
      refine sv rfl (opv_as rfl) ?_
      refine snil ?_
      refine cret ?_
      obtain rfl := Option.some.inj h
      exact ⟨Or.inr rfl, _, [1], [.one (.ls 0 ((List.replicate (wI (a0 - (wI (0 - 0)))).toNat (GConnsConn.mk 0 0 0 0 (GStreamStream.mk ([] : List UInt8) 0) (GPipePipe.mk (GSeqsWindow.mk 0 (0#64)) 0 ([] : List GMsgReq) ([] : List GMsgReply)))).take (0 : Int).toNat).length)], [.arr 45 11 0 (((List.replicate (wI (a0 - (wI (0 - 0)))).toNat (GConnsConn.mk 0 0 0 0 (GStreamStream.mk ([] : List UInt8) 0) (GPipePipe.mk (GSeqsWindow.mk 0 (0#64)) 0 ([] : List GMsgReq) ([] : List GMsgReply)))).take (0 : Int).toNat).flatMap eGConnsConn)], (resVs_cons (ResV.tmp _ _ rfl) resVs_nil), rfl, rfl, ⟨by decide, rfl⟩, rfl, rfl, ⟨rfl, rfl⟩⟩
    · replace h := ite_f hc h
      clear hc
      refine cskip ?_
      refine then_normal ?_
      refine cseq ?_
      refine cregion ?_
      refine sv rfl (opv_mv rfl) ?_
      refine sv rfl (opv_as rfl) ?_
      refine snil ?_
      refine sadopt_c 45 11 4 (by decide) rfl ?_
      refine cret ?_
      obtain rfl := Option.some.inj h
      exact ⟨Or.inr rfl, _, [0], [.one (.ls 0 ([] : List GConnsConn).length)], [.arr 45 11 0 (([] : List GConnsConn).flatMap eGConnsConn)], (resVs_cons (ResV.tmp _ _ rfl) resVs_nil), rfl, rfl, ⟨by decide, rfl⟩, rfl, rfl, ⟨rfl, rfl⟩⟩
  · skip
    refine ccond rfl (fun hc => ?_) (fun hc => ?_)
    · replace h := ite_t hc h
      clear hc
      cases h
    · replace h := ite_f hc h
      clear hc
      refine cskip ?_
      refine then_normal ?_
      exact ⟨(), _, h, ⟨rfl, rfl, trivial⟩, rfl⟩

def m20_slices_Concat_k3 (b3 : (List GConnsConn)) : Option (List GConnsConn) :=
  some b3

def m20_slices_Concat_s4 (a0 : List (List GConnsConn)) (s4 : Int × (List GConnsConn)) : Option (LB (Int × (List GConnsConn)) ((List GConnsConn))) :=
  if (decide (s4.1 < (a0.length : Int))) then ((idx a0 s4.1).bind fun u5 => if (s4.2.length + u5.length) * 136 ≤ 140737488355328 then (some (.cont ((wI (s4.1 + 1)), (s4.2 ++ u5)))) else none) else (some (.brk s4.2))

def m20_slices_Concat_k1 (a0 : List (List GConnsConn)) (b1 : Int) : Option (List GConnsConn) :=
  (m38_slices_Growo b1).bind fun v2 => (iterB (m20_slices_Concat_s4 a0) fuel (0, v2)).bind fun e7 => m20_slices_Concat_k3 e7

def m20_slices_Concat_s8 (a0 : List (List GConnsConn)) (s8 : Int × Int) : Option (LB (Int × Int) (Int)) :=
  if (decide (s8.2 < (a0.length : Int))) then ((idx a0 s8.2).bind fun u9 => if (decide ((wI (s8.1 + (u9.length : Int))) < 0)) then none else (some (.cont ((wI (s8.1 + (u9.length : Int))), (wI (s8.2 + 1)))))) else (some (.brk s8.1))
def m20_slices_Concat (a0 : List (List GConnsConn)) : Option (List GConnsConn) :=
  (iterB (m20_slices_Concat_s8 a0) fuel (0, 0)).bind fun e10 => m20_slices_Concat_k1 a0 e10

set_option maxRecDepth 100000 in
theorem m20_slices_Concat_c {a0 : List (List GConnsConn)} {r : (List GConnsConn)} (h : m20_slices_Concat a0 = some r) : CallsA Tryd.prog 20 [.one (.sl a0.length (a0.flatMap (eL eGConnsConn)))] (· = .s (.one (.sl r.length (r.flatMap eGConnsConn)))) := by
  unfold m20_slices_Concat at h
  refine callsA_of Tryd.func20 rfl (nt := 36) rfl (Nat.le_of_ble_eq_true rfl) ?_
  intro w0 S0
  refine cseq ?_
  refine cregion ?_
  refine sv rfl (opv_as rfl) ?_
  refine snil ?_
  refine cseq ?_
  refine cregion ?_
  refine sv rfl (opv_as rfl) ?_
  refine snil ?_
  refine cseq ?_
  refine cseq ?_
  refine cregion ?_
  refine sv rfl (opv_mv rfl) ?_
  refine sv rfl (opv_len_sl si101 rfl) ?_
  refine sv rfl (opv_mv rfl) ?_
  refine snil ?_
  refine cjoin (Int) (fun b1 => [(0, .s (.one (.sl a0.length (a0.flatMap (eL eGConnsConn))))), (3, .s (.one (.i .i64 b1)))]) (fun b1 => []) (fun b1 => m20_slices_Concat_k1 a0 b1 = some r) (fun _ _ => inbL_of rfl) (fun _ _ => blkinb_of rfl) (fun _ _ => Nat.le_of_ble_eq_true rfl) (fun b1 h => ?_) ?_
  · unfold m20_slices_Concat_k1 at h
    refine cseq ?_
    refine cregion ?_
    refine sv rfl (opv_mv rfl) ?_
    obtain ⟨v2, hv2, h⟩ := bind_eq h
    refine scallB (x' := .s (.one (.ls 0 v2.length))) (M' := [.arr 45 11 0 (v2.flatMap eGConnsConn)]) [] rfl fn38 (.func _) (opnds_cons rfl (opnds_cons rfl opnds_nil)) (m38_slices_Growo_c hv2) rfl rfl (by decide) rfl rfl rfl ?_
    refine sv rfl (opv_as rfl) ?_
    refine snil ?_
    refine cseq ?_
    refine cseq ?_
    refine cregion ?_
    refine sv rfl (opv_mv rfl) ?_
    refine sv rfl (opv_len_sl si101 rfl) ?_
    refine sv rfl (opv_mv rfl) ?_
    refine snil ?_
    refine cjoin ((List GConnsConn)) (fun b3 => [(6, .s (.one (.ls 0 b3.length)))]) (fun b3 => [.arr 45 11 0 (b3.flatMap eGConnsConn)]) (fun b3 => m20_slices_Concat_k3 b3 = some r) (fun _ _ => inbL_of rfl) (fun _ _ => blkinb_of rfl) (fun _ _ => Nat.le_of_ble_eq_true rfl) (fun b3 h => ?_) ?_
    · unfold m20_slices_Concat_k3 at h
      refine cseq ?_
      refine cregion ?_
      refine sv rfl (opv_mv rfl) ?_
      refine sv rfl (opv_as rfl) ?_
      refine snil ?_
      refine cret ?_
      obtain rfl := Option.some.inj h
      refine ⟨Or.inr rfl, _, _, _, (resVs_cons (ResV.tmp _ _ rfl) resVs_nil), (by (repeat' first | exact PubA.nil _ | apply PubA.cons | apply PubV.one | apply PubV.agg | exact PubL.nil | exact PubL.ls _ _ _ _ _ _ rfl (flat_len (f := eGConnsConn) (fun _ => rfl) _).symm | exact PubL.id _ rfl | exact PubLs.nil _ | apply PubLs.cons)), ?_⟩
      rfl
    · skip
      refine cblock ?_
      obtain ⟨x4, hx4, ho4⟩ := bind_eq h
      refine awc_loop (G := Nat × (Int × (List GConnsConn))) (fun g => [(6, .s (.one (.ls 0 g.2.2.length))), (25, .s (.one (.sl a0.length (a0.flatMap (eL eGConnsConn))))), (26, .s (.one (.i .i64 (a0.length : Int)))), (27, .s (.one (.i .i64 g.2.1)))]) (fun g => [.arr 45 11 0 (g.2.2.flatMap eGConnsConn)]) (fun g => iterB (m20_slices_Concat_s4 a0) g.1 g.2 = some x4) (fun g => g.1) (fuel, (0, v2)) hx4 ⟨rfl, rfl, rfl, rfl, trivial⟩ [] rfl (fun _ _ => inbL_of rfl) (fun _ _ => blkinb_of rfl) (fun _ _ => Nat.le_of_ble_eq_true rfl) ?_
      clear hx4 h
      rintro ⟨n4, s4⟩ h
      obtain ⟨n4, y4, rfl, h, hk4⟩ := iterB_eq h
      unfold m20_slices_Concat_s4 at h
      refine cseq ?_
      refine cregion ?_
      refine sv rfl (opv_lss rfl rfl) ?_
      refine snil ?_
      refine cseq ?_
      refine ccond rfl (fun hc => ?_) (fun hc => ?_)
      · replace h := ite_t hc h
        clear hc
        refine cskip ?_
        refine then_normal ?_
        refine cseq ?_
        refine cblock ?_
        refine cseq ?_
        refine cregion ?_
        obtain ⟨u5, hu5, h⟩ := bind_eq h
        refine sv rfl (opv_ix (f := (eL eGConnsConn)) si101 (fun _ => rfl) rfl rfl rfl rfl hu5) ?_
        refine sv rfl (opv_load1 ti24 rfl (.cp _) rfl) ?_
        refine sv rfl (opv_as rfl) ?_
        refine snil ?_
        refine cregion ?_
        refine sv rfl (opv_mv rfl) ?_
        refine sv rfl (opv_mv rfl) ?_
        obtain ⟨hb6, h⟩ := chk_eq h
        refine sapp (f := eGConnsConn) (xs := s4.2) (us := u5) rfl Tryd.underlying24 ei45 ni24 (fun _ => rfl) rfl rfl (.one _ _ _ _ (.id _ rfl)) rfl rfl rfl (.sl _ _ _ (flat_len (f := eGConnsConn) (fun _ => rfl) _)) rfl rfl hb6 (by decide) ?_
        refine sv rfl (opv_as rfl) ?_
        refine snil0 ?_
        refine block_normal ?_
        refine then_normal ?_
        refine cregion ?_
        refine sv rfl (opv_add rfl rfl) ?_
        refine sv rfl (opv_mv rfl) ?_
        refine snil ?_
        obtain rfl := Option.some.inj h
        exact ⟨(n4, ((wI (s4.1 + 1)), (s4.2 ++ u5))), _, hk4, ⟨rfl, rfl, rfl, rfl, trivial⟩, rfl, Nat.lt_succ_self _⟩
      · replace h := ite_f hc h
        clear hc
        refine cexit ?_
        refine then_exit ?_
        refine then_exit ?_
        refine block_hit ?_
        refine then_normal ?_
        obtain rfl := Option.some.inj h
        obtain rfl : _ = x4 := hk4
        exact ⟨s4.2, _, ho4, ⟨rfl, trivial⟩, rfl⟩
  · skip
    refine cblock ?_
    obtain ⟨x8, hx8, ho8⟩ := bind_eq h
    refine awc_loop (G := Nat × (Int × Int)) (fun g => [(0, .s (.one (.sl a0.length (a0.flatMap (eL eGConnsConn))))), (3, .s (.one (.i .i64 g.2.1))), (9, .s (.one (.sl a0.length (a0.flatMap (eL eGConnsConn))))), (10, .s (.one (.i .i64 (a0.length : Int)))), (11, .s (.one (.i .i64 g.2.2)))]) (fun g => []) (fun g => iterB (m20_slices_Concat_s8 a0) g.1 g.2 = some x8) (fun g => g.1) (fuel, (0, 0)) hx8 ⟨rfl, rfl, rfl, rfl, rfl, trivial⟩ [] rfl (fun _ _ => inbL_of rfl) (fun _ _ => blkinb_of rfl) (fun _ _ => Nat.le_of_ble_eq_true rfl) ?_
    clear hx8 h
    rintro ⟨n8, s8⟩ h
    obtain ⟨n8, y8, rfl, h, hk8⟩ := iterB_eq h
    unfold m20_slices_Concat_s8 at h
    refine cseq ?_
    refine cregion ?_
    refine sv rfl (opv_lss rfl rfl) ?_
    refine snil ?_
    refine cseq ?_
    refine ccond rfl (fun hc => ?_) (fun hc => ?_)
    · replace h := ite_t hc h
      clear hc
      refine cskip ?_
      refine then_normal ?_
      refine cseq ?_
      refine cblock ?_
      refine cseq ?_
      refine cregion ?_
      obtain ⟨u9, hu9, h⟩ := bind_eq h
      refine sv rfl (opv_ix (f := (eL eGConnsConn)) si101 (fun _ => rfl) rfl rfl rfl rfl hu9) ?_
      refine sv rfl (opv_load1 ti24 rfl (.cp _) rfl) ?_
      refine sv rfl (opv_as rfl) ?_
      refine snil ?_
      refine cseq ?_
      refine cregion ?_
      refine sv rfl (opv_mv rfl) ?_
      refine sv rfl (opv_mv rfl) ?_
      refine sv rfl (opv_len_sl si24 rfl) ?_
      refine sv rfl (opv_add rfl rfl) ?_
      refine sv rfl (opv_as rfl) ?_
      refine snil ?_
      refine cseq ?_
      refine cregion ?_
      refine sv rfl (opv_mv rfl) ?_
      refine sv rfl (opv_lss rfl rfl) ?_
      refine snil ?_
      refine ccond rfl (fun hc => ?_) (fun hc => ?_)
      · replace h := ite_t hc h
        clear hc
        cases h
      · replace h := ite_f hc h
        clear hc
        refine cskip ?_
        refine block_normal ?_
        refine then_normal ?_
        refine cregion ?_
        refine sv rfl (opv_add rfl rfl) ?_
        refine sv rfl (opv_mv rfl) ?_
        refine snil ?_
        obtain rfl := Option.some.inj h
        exact ⟨(n8, ((wI (s8.1 + (u9.length : Int))), (wI (s8.2 + 1)))), _, hk8, ⟨rfl, rfl, rfl, rfl, rfl, trivial⟩, rfl, Nat.lt_succ_self _⟩
    · replace h := ite_f hc h
      clear hc
      refine cexit ?_
      refine then_exit ?_
      refine then_exit ?_
      refine block_hit ?_
      refine then_normal ?_
      obtain rfl := Option.some.inj h
      obtain rfl : _ = x8 := hk8
      exact ⟨s8.1, _, ho8, ⟨rfl, rfl, trivial⟩, rfl⟩

def m7_conns_Open (a0 : GConnsTable) : Option (GConnsTable × Int × Int) :=
  (m10_conns_Sane (GConnsTable.mk a0.L a0.Next)).bind fun v1 => if (!v1) then (some ((GConnsTable.mk ([] : List GConnsConn) 0), 0, 1)) else (if (decide (1099511627776 ≤ a0.Next)) then (some ((GConnsTable.mk ([] : List GConnsConn) 0), 0, 11)) else (if (decide (8 ≤ (a0.L.length : Int))) then (some ((GConnsTable.mk ([] : List GConnsConn) 0), 0, 8)) else ((m20_slices_Concat ([a0.L, ([(GConnsConn.mk a0.Next (-1) 0 (-1) (GStreamStream.mk ([] : List UInt8) 0) (GPipePipe.mk (GSeqsWindow.mk 0 (0#64)) 0 ([] : List GMsgReq) ([] : List GMsgReply)))] : List GConnsConn)] : List (List GConnsConn))).bind fun v2 => some ((GConnsTable.mk v2 (wI (a0.Next + 1))), a0.Next, 0))))

set_option maxRecDepth 100000 in
theorem m7_conns_Open_c {a0 : GConnsTable} {r : GConnsTable × Int × Int} (h : m7_conns_Open a0 = some r) : CallsA Tryd.prog 7 [.agg a0] (· = .tup [.agg r.1, .one (.i .i64 r.2.1), .one (.i .i64 r.2.2)]) := by
  unfold m7_conns_Open at h
  refine callsA_of Tryd.func7 rfl (nt := 37) rfl (Nat.le_of_ble_eq_true rfl) ?_
  intro w0 S0
  refine cseq ?_
  refine cregion ?_
  refine sbox rfl rfl ?_
  refine salloc rfl zi26 ?_
  refine sv rfl (opv_as rfl) ?_
  refine sv rfl (opv_as rfl) ?_
  refine snil ?_
  refine cseq ?_
  refine cblock ?_
  refine cseq ?_
  refine cregion ?_
  refine sv rfl (opv_loadN ti26 rfl (.lp _ _ _ rfl) (Nat.le_of_ble_eq_true rfl)) ?_
  obtain ⟨v1, hv1, h⟩ := bind_eq h
  refine scall1 rfl fn10 (opnds_cons rfl opnds_nil) (pubA_id rfl) (m10_conns_Sane_c hv1) ?_
  refine sv rfl (opv_not rfl) ?_
  refine sv rfl (opv_as rfl) ?_
  refine snil ?_
  refine ccond rfl (fun hc => ?_) (fun hc => ?_)
  · replace h := ite_t hc h
    clear hc
    refine cseq ?_
    refine cregion ?_
    refine sv rfl (opv_build zi26 pi26 parts_nil (.nil _)) ?_
    refine sstore sz26 rfl rfl rfl rfl (Nat.le_of_ble_eq_true rfl) ?_
    refine smem [.box a0, .box [.raw (.slice none 0 0), .i .i64 0]] rfl ?_
    refine sv rfl (opv_as rfl) ?_
    refine sv rfl (opv_as rfl) ?_
    refine snil ?_
    refine cret ?_
    refine block_ret ?_
    refine then_ret ?_
    obtain rfl := Option.some.inj h
    refine ⟨Or.inr rfl, _, _, _, (resVs_cons (ResV.agg _ _ _ _ _ ti26 rfl (.lp _ _ _ rfl) (Nat.le_of_ble_eq_true rfl)) (resVs_cons (ResV.tmp _ _ rfl) (resVs_cons (ResV.tmp _ _ rfl) resVs_nil))), (pubC rfl), ?_⟩
    rfl
  · replace h := ite_f hc h
    clear hc
    refine cseq ?_
    refine cregion ?_
    refine sv rfl (opv_fieldAddr_lp fi26_1 rfl) ?_
    refine sv rfl (opv_load1 ti3 rfl (.lp _ _ _ rfl) rfl) ?_
    refine sv rfl (opv_geq rfl rfl) ?_
    refine sv rfl (opv_as rfl) ?_
    refine snil ?_
    refine ccond rfl (fun hc => ?_) (fun hc => ?_)
    · replace h := ite_t hc h
      clear hc
      refine cseq ?_
      refine cregion ?_
      refine sv rfl (opv_build zi26 pi26 parts_nil (.nil _)) ?_
      refine sstore sz26 rfl rfl rfl rfl (Nat.le_of_ble_eq_true rfl) ?_
      refine smem [.box a0, .box [.raw (.slice none 0 0), .i .i64 0]] rfl ?_
      refine sv rfl (opv_as rfl) ?_
      refine sv rfl (opv_as rfl) ?_
      refine snil ?_
      refine cret ?_
      refine block_ret ?_
      refine then_ret ?_
      obtain rfl := Option.some.inj h
      refine ⟨Or.inr rfl, _, _, _, (resVs_cons (ResV.agg _ _ _ _ _ ti26 rfl (.lp _ _ _ rfl) (Nat.le_of_ble_eq_true rfl)) (resVs_cons (ResV.tmp _ _ rfl) (resVs_cons (ResV.tmp _ _ rfl) resVs_nil))), (pubC rfl), ?_⟩
      rfl
    · replace h := ite_f hc h
      clear hc
      refine cseq ?_
      refine cregion ?_
      refine sv rfl (opv_fieldAddr_lp fi26_0 rfl) ?_
      refine sv rfl (opv_load1 ti24 rfl (.lp _ _ _ rfl) rfl) ?_
      refine sv rfl (opv_len_sl si24 rfl) ?_
      refine sv rfl (opv_geq rfl rfl) ?_
      refine sv rfl (opv_as rfl) ?_
      refine snil ?_
      refine ccond rfl (fun hc => ?_) (fun hc => ?_)
      · replace h := ite_t hc h
        clear hc
        refine cseq ?_
        refine cregion ?_
        refine sv rfl (opv_build zi26 pi26 parts_nil (.nil _)) ?_
        refine sstore sz26 rfl rfl rfl rfl (Nat.le_of_ble_eq_true rfl) ?_
        refine smem [.box a0, .box [.raw (.slice none 0 0), .i .i64 0]] rfl ?_
        refine sv rfl (opv_as rfl) ?_
        refine sv rfl (opv_as rfl) ?_
        refine snil ?_
        refine cret ?_
        refine block_ret ?_
        refine then_ret ?_
        obtain rfl := Option.some.inj h
        refine ⟨Or.inr rfl, _, _, _, (resVs_cons (ResV.agg _ _ _ _ _ ti26 rfl (.lp _ _ _ rfl) (Nat.le_of_ble_eq_true rfl)) (resVs_cons (ResV.tmp _ _ rfl) (resVs_cons (ResV.tmp _ _ rfl) resVs_nil))), (pubC rfl), ?_⟩
        rfl
      · replace h := ite_f hc h
        clear hc
        refine cskip ?_
        refine block_normal ?_
        refine then_normal ?_
        refine cseq ?_
        refine cregion ?_
        refine sv rfl (opv_fieldAddr_lp fi26_1 rfl) ?_
        refine sv rfl (opv_load1 ti3 rfl (.lp _ _ _ rfl) rfl) ?_
        refine sv rfl (opv_build zi45 pi45 (parts_cons rfl (parts_cons rfl (parts_cons rfl parts_nil))) (.cons _ _ _ _ _ _ _ rfl rfl (Nat.le_of_ble_eq_true rfl) (.cons _ _ _ _ _ _ _ rfl rfl (Nat.le_of_ble_eq_true rfl) (.cons _ _ _ _ _ _ _ rfl rfl (Nat.le_of_ble_eq_true rfl) (.nil _))))) ?_
        refine salloc rfl zi45 ?_
        refine sstore sz45 rfl rfl rfl rfl (Nat.le_of_ble_eq_true rfl) ?_
        refine smem [.box a0, .box [.raw (.slice none 0 0), .i .i64 0], .box [.i .i64 a0.Next, .i .i64 (-1), .i .i64 0, .i .i64 (-1), .raw (.slice none 0 0), .i .i64 0, .i .i64 0, .i .u64 ((0#64).toNat : Int), .i .i64 0, .raw (.slice none 0 0), .raw (.slice none 0 0)]] rfl ?_
        refine snil ?_
        refine cseq ?_
        obtain ⟨v2, hv2, h⟩ := bind_eq h
        refine cdraw_e [12] [0, 1, 0, 4, 15, 31, 0, 64, 192, 511, 0, 1024, 1023, 8191, 16383] [[.box a0, .box [.raw (.slice none 0 0), .i .i64 0], .box [.i .i64 a0.Next, .i .i64 (-1), .i .i64 0, .i .i64 (-1), .raw (.slice none 0 0), .i .i64 0, .i .i64 0, .i .u64 ((0#64).toNat : Int), .i .i64 0, .raw (.slice none 0 0), .raw (.slice none 0 0)]], [.box a0, .box [.sl v2.length (v2.flatMap eGConnsConn), .i .i64 (wI (a0.Next + 1))], .box [.i .i64 a0.Next, .i .i64 (-1), .i .i64 0, .i .i64 (-1), .raw (.slice none 0 0), .i .i64 0, .i .i64 0, .i .u64 ((0#64).toNat : Int), .i .i64 0, .raw (.slice none 0 0), .raw (.slice none 0 0)]]] (by kernel_rfl) mixed (by kernel_rfl) (by decide) rfl rfl rfl rfl ?_
        refine ev (sees_at 0 rfl rfl) rfl rfl (opv_fieldAddr_lp fi26_0 rfl) ?_
        refine ev (sees_at 0 rfl rfl) rfl rfl (opv_load1 ti24 rfl (.lp _ _ _ rfl) rfl) ?_
        refine ev (sees_at 0 rfl rfl) rfl rfl (opv_loadN ti45 rfl (.lp _ _ _ rfl) (Nat.le_of_ble_eq_true rfl)) ?_
        refine ed (sees_at 0 rfl rfl) rfl rfl (opD_bldc (out' := ([(GConnsConn.mk a0.Next (-1) 0 (-1) (GStreamStream.mk ([] : List UInt8) 0) (GPipePipe.mk (GSeqsWindow.mk 0 (0#64)) 0 ([] : List GMsgReq) ([] : List GMsgReply)))] : List GConnsConn).flatMap eGConnsConn) Tryd.underlying24 ei45 (parts_cons rfl parts_nil) (.cons _ _ _ _ _ _ _ rfl rfl (Nat.le_of_ble_eq_true rfl) (.nil _)) rfl (by decide) rfl) ?_
        refine ed (sees_at 0 rfl rfl) rfl rfl (opD_bld (out := ([a0.L, ([(GConnsConn.mk a0.Next (-1) 0 (-1) (GStreamStream.mk ([] : List UInt8) 0) (GPipePipe.mk (GSeqsWindow.mk 0 (0#64)) 0 ([] : List GMsgReq) ([] : List GMsgReply)))] : List GConnsConn)] : List (List GConnsConn)).flatMap (eL eGConnsConn)) Tryd.underlying101 ei24 (parts_cons rfl (parts_cons rfl parts_nil)) (.cons _ _ _ _ _ _ _ rfl rfl (Nat.le_of_ble_eq_true rfl) (.cons _ _ _ _ _ _ _ rfl rfl (Nat.le_of_ble_eq_true rfl) (.nil _))) rfl (by decide)) ?_
        refine ed (sees_at 0 rfl rfl) rfl rfl (opD_call fn20 (opnds_cons rfl opnds_nil) rfl (m20_slices_Concat_c hv2)) ?_
        refine ev (sees_at 0 rfl rfl) rfl rfl (opv_fieldAddr_lp fi26_1 rfl) ?_
        refine ev (sees_at 0 rfl rfl) rfl rfl (opv_load1 ti3 rfl (.lp _ _ _ rfl) rfl) ?_
        refine ev (sees_at 0 rfl rfl) rfl rfl (opv_add rfl rfl) ?_
        refine ev (sees_at 0 rfl rfl) rfl rfl (opv_build zi26 pi26 (parts_cons rfl (parts_cons rfl parts_nil)) (.cons _ _ _ _ _ _ _ rfl rfl (Nat.le_of_ble_eq_true rfl) (.cons _ _ _ _ _ _ _ rfl rfl (Nat.le_of_ble_eq_true rfl) (.nil _)))) ?_
        refine ev (sees_all (md := [.box a0, .dead, .box [.i .i64 a0.Next, .i .i64 (-1), .i .i64 0, .i .i64 (-1), .raw (.slice none 0 0), .i .i64 0, .i .i64 0, .i .u64 ((0#64).toNat : Int), .i .i64 0, .raw (.slice none 0 0), .raw (.slice none 0 0)]]) ⟨⟨rfl, ⟨trivial, ⟨rfl, trivial⟩⟩⟩, ⟨⟨rfl, ⟨trivial, ⟨rfl, trivial⟩⟩⟩, trivial⟩⟩) rfl rfl (opv_fieldAddr_lp fi45_0 rfl) ?_
        refine ev (sees_all (md := [.box a0, .dead, .box [.i .i64 a0.Next, .i .i64 (-1), .i .i64 0, .i .i64 (-1), .raw (.slice none 0 0), .i .i64 0, .i .i64 0, .i .u64 ((0#64).toNat : Int), .i .i64 0, .raw (.slice none 0 0), .raw (.slice none 0 0)]]) ⟨⟨rfl, ⟨trivial, ⟨rfl, trivial⟩⟩⟩, ⟨⟨rfl, ⟨trivial, ⟨rfl, trivial⟩⟩⟩, trivial⟩⟩) rfl rfl (opv_load1 ti3 rfl (.lp _ _ _ rfl) rfl) ?_
        refine ee0 0 rfl rfl rfl rfl (fun ζ => ?_) ?_
        · refine sstore sz26 rfl rfl rfl rfl (Nat.le_of_ble_eq_true rfl) ?_
          refine smem [.box a0, .box [.sl v2.length (v2.flatMap eGConnsConn), .i .i64 (wI (a0.Next + 1))], .box [.i .i64 a0.Next, .i .i64 (-1), .i .i64 0, .i .i64 (-1), .raw (.slice none 0 0), .i .i64 0, .i .i64 0, .i .u64 ((0#64).toNat : Int), .i .i64 0, .raw (.slice none 0 0), .raw (.slice none 0 0)]] rfl ?_
          exact eend
        refine ev (sees_at 1 rfl rfl) rfl rfl (opv_as rfl) ?_
        refine ev (sees_at 1 rfl rfl) rfl rfl (opv_as rfl) ?_
        refine enil ?_
        refine then_normal ?_
        refine cret ?_
        obtain rfl := Option.some.inj h
        refine ⟨Or.inr rfl, _, _, _, (resVs_cons (ResV.agg _ _ _ _ _ ti26 rfl (.lp _ _ _ rfl) (Nat.le_of_ble_eq_true rfl)) (resVs_cons (ResV.tmp _ _ rfl) (resVs_cons (ResV.tmp _ _ rfl) resVs_nil))), (pubA_id rfl), ?_⟩
        rfl

theorem m22_conns_ofs_c {a0 : GConnsTable} {a1 : Int} : CallsA Tryd.prog 22 [.agg a0, .one (.fn 42 [] [.cp [.i .i64 a1]])] (· = .s (.one (.fn 39 [] [.cp [.sl a0.L.length (a0.L.flatMap eGConnsConn), .i .i64 a0.Next], .cp [.fn 42 [] [.cp [.i .i64 a1]]]]))) := by
  refine callsA_of Tryd.func22 rfl (nt := 6) rfl (Nat.le_of_ble_eq_true rfl) ?_
  intro w0 S0
  refine cseq ?_
  refine cregion ?_
  refine sboxc rfl rfl rfl ?_
  refine sboxc rfl rfl rfl ?_
  refine sv rfl (opv_as rfl) ?_
  refine snil ?_
  refine cseq ?_
  refine cregion ?_
  refine sv rfl (opv_makeFunc opnds1_nil (opnds1_cons rfl rfl (opnds1_cons rfl rfl opnds1_nil))) ?_
  refine sv rfl (opv_as rfl) ?_
  refine snil ?_
  refine cret ?_
  refine ⟨Or.inr rfl, _, _, _, (resVs_cons (ResV.tmp _ _ rfl) resVs_nil), (pubA_id rfl), ?_⟩
  rfl

def it39d (hold : GConnsConn → Option Bool) : Nat → List GConnsConn → Option (List (Int × GConnsConn))
  | _, [] => some []
  | i, c :: l => (hold c).bind fun b => (it39d hold (i + 1) l).bind fun r => some (if b then ((i : Int), c) :: r else r)
def it39 (t : GConnsTable) (hold : GConnsConn → Option Bool) : Option (List (Int × GConnsConn)) :=
  if t.L.length ≤ 1000000000000000000 then it39d hold 0 t.L else none

set_option maxRecDepth 100000 in
theorem it39_c {t : GConnsTable} {k0 : FuncId} {cs : List Lf} {hold : GConnsConn → Option Bool} {L : List (Int × GConnsConn)} (hf : FnI Tryd.prog k0) (hcs : (cs.map SV.one).all (fun x => x.cells.all Lf.pubd) = true) (hk : ∀ c b, hold c = some b → CallsA Tryd.prog k0 (.agg c :: cs.map SV.one) (· = .s (.one (.b b)))) (h : it39 t hold = some L) :
    IterC Tryd.prog 39 [.cp [.sl t.L.length (t.L.flatMap eGConnsConn), .i .i64 t.Next], .cp [.fn k0 [] cs]] (L.map fun x => (.one (.i .i64 x.1), .agg x.2)) := by
  unfold it39 at h
  obtain ⟨hlen, h⟩ := chk_eq h
  refine iterC_of Tryd.func39 rfl rfl (nt := 25) rfl (Nat.le_of_ble_eq_true rfl) ?_
  intro l J Jx hJ hJx hs
  refine yseq ?_
  refine yplain (hJ 0) (by rfl) (fun w0 S0 => ?_)
  refine sv rfl (opv_fieldAddr_cp fi26_0 rfl) ?_
  refine sv rfl (opv_load1 ti24 rfl (.cp _) rfl) ?_
  refine sv rfl (opv_len_sl si24 rfl) ?_
  refine sv rfl (opv_mv rfl) ?_
  refine snil0 ⟨rfl, rfl, yl_nil (ythen ?_)⟩
  refine yblock ?_
  refine yloop (G := Nat × Nat) (fun g => [(0, .s (.one (.raw (.func (.yield l) #[] #[])))), (1, .s (.one (.cp [.sl t.L.length (t.L.flatMap eGConnsConn), .i .i64 t.Next]))), (2, .s (.one (.cp [.fn k0 [] cs]))), (7, .s (.one (.sl t.L.length (t.L.flatMap eGConnsConn)))), (8, .s (.one (.i .i64 (t.L.length : Int)))), (9, .s (.one (.i .i64 (g.2 : Int))))])
    (fun g => J g.1) (fun g => g.1 ≤ L.length ∧ g.2 ≤ t.L.length ∧ it39d hold g.2 (t.L.drop g.2) = some (L.drop g.1))
    (fun g => t.L.length - g.2) (0, 0) ⟨Nat.zero_le _, Nat.zero_le _, h⟩ ⟨rfl, rfl, rfl, rfl, rfl, rfl, trivial⟩ rfl (fun _ _ => inbL_of rfl) ?_
  rintro ⟨k, i⟩ ⟨g1, g2, g3⟩
  simp only at g1 g2 g3
  refine yseq ?_
  refine yplain (hJ k) (by rfl) (fun w0 S0 => ?_)
  refine sv rfl (opv_lss rfl rfl) ?_
  refine snil0 ⟨rfl, rfl, yl_nil (ythen ?_)⟩
  refine yseq ?_
  refine ycond rfl (fun hc => ?_) (fun hc => ?_)
  rotate_left
  · have hc' : ¬ (i : Int) < (t.L.length : Int) := by simpa using hc
    have hi : i = t.L.length := by omega
    subst hi
    rw [List.drop_length, it39d] at g3
    have hl := congrArg List.length (Option.some.inj g3)
    rw [List.length_nil, List.length_drop] at hl
    refine yexit (And.intro (Or.inl rfl) (Or.inl ?_))
    show J k = J _
    rw [List.length_map]
    congr 1
    omega
  have hlt : i < t.L.length := by
    have : (i : Int) < (t.L.length : Int) := by simpa using hc
    omega
  have hu : idx t.L (i : Int) = some t.L[i] := by
    unfold idx
    rw [if_pos (Int.natCast_nonneg i), Int.toNat_natCast, List.getElem?_eq_getElem hlt]
  rw [List.drop_eq_getElem_cons hlt, it39d] at g3
  generalize t.L[i] = c at hu g3
  obtain ⟨b, hb, g3⟩ := bind_eq g3
  obtain ⟨r, hr, g3⟩ := bind_eq g3
  have hw : wI ((i : Int) + 1) = ((i + 1 : Nat) : Int) := by
    show IntKind.i64.wrap _ = _
    exact wrap_i64 (by omega) (by omega)
  refine yskip (ythen ?_)
  refine yseq ?_
  refine yblock ?_
  refine yc_first (by rfl) (fun w0 S0 => ?_)
  refine sv rfl (opv_mv rfl) ?_
  refine sv rfl (opv_ix (f := eGConnsConn) si24 (fun _ => rfl) rfl rfl rfl rfl hu) ?_
  refine sv rfl (opv_loadNe (ys := [.i .i64 c.ID, .i .i64 c.Who, .i .i64 c.Epoch, .i .i64 c.Tx, .sl c.Stream.Buf.length (c.Stream.Buf.flatMap eU8), .i .i64 c.Stream.Dead, .i .i64 c.Pipe.Win.Base, .i .u64 (c.Pipe.Win.Bits.toNat : Int), .i .i64 c.Pipe.Next, .sl c.Pipe.Wait.length (c.Pipe.Wait.flatMap eGMsgReq), .sl c.Pipe.Past.length (c.Pipe.Past.flatMap eGMsgReply)]) ti45 rfl (.cp _) rfl rfl) ?_
  refine salloc rfl zi45 ?_
  refine sv rfl (opv_as rfl) ?_
  refine sstore sz45 rfl rfl rfl rfl (Nat.le_of_ble_eq_true rfl) ?_
  refine smem [.box c] rfl ?_
  refine snil0 ⟨rfl, ?_⟩
  refine yc_seq ?_
  cases b with
  | false =>
    refine yc_region (l1 := [_, _, _, _, _, _, _, _, _, _]) (l2 := []) (hJ k) (by rfl) ?_
    refine sv rfl (opv_load1 ti79 rfl (.cp _) rfl) ?_
    refine sv rfl (opv_loadN ti45 rfl (.lp _ _ _ rfl) (Nat.le_of_ble_eq_true rfl)) ?_
    refine sd rfl (opD_callC hf (.fn _ _ _ _ rfl) (opnds_cons rfl opnds_nil) hcs (hk c false hb)) ?_
    refine sv rfl (opv_mv rfl) ?_
    refine soff rfl rfl rfl rfl ?_
    refine soff rfl rfl rfl rfl ?_
    refine soff rfl rfl rfl rfl ?_
    refine soff rfl rfl rfl rfl ?_
    refine soff rfl rfl rfl rfl ?_
    refine sv rfl (opv_pick_f rfl rfl) ?_
    refine snil0 ⟨rfl, [(0, .s (.one (.raw (.func (.yield l) #[] #[])))), (1, .s (.one (.cp [.sl t.L.length (t.L.flatMap eGConnsConn), .i .i64 t.Next]))), (2, .s (.one (.cp [.fn k0 [] cs]))), (7, .s (.one (.sl t.L.length (t.L.flatMap eGConnsConn)))), (8, .s (.one (.i .i64 (t.L.length : Int)))), (9, .s (.one (.i .i64 (i : Int)))), (23, .s (.one (.b false)))], ⟨⟨rfl, rfl, rfl, rfl, rfl, rfl, rfl, trivial⟩, inbL_of rfl⟩, yl_nil (ythen ?_)⟩
    refine ycond rfl (fun hx => Bool.noConfusion hx) (fun _ => ?_)
    refine yskip (yblk (ythen ?_))
    refine yplain (hJ k) (by rfl) (fun w0 S0 => ?_)
    refine sv rfl (opv_add rfl rfl) ?_
    refine sv rfl (opv_mv rfl) ?_
    refine snil0 ⟨rfl, rfl, yl_nil (ythen ?_)⟩
    refine ⟨(k, i + 1), ⟨g1, hlt, ?_⟩, ⟨rfl, rfl, rfl, rfl, rfl, ?_, trivial⟩, rfl, ?_⟩
    · rw [hr]; exact g3
    · show AV.s (.one (.i .i64 (wI ((i : Int) + 1)))) = _
      rw [hw]
    · show t.L.length - (i + 1) < t.L.length - i
      omega
  | true =>
    have g4 : ((i : Int), c) :: r = L.drop k := Option.some.inj g3
    have hget : L[k]? = some ((i : Int), c) := by
      have := congrArg (fun l => l[0]?) g4
      simpa using this.symm
    have hdrop : L.drop (k + 1) = r := by
      have := congrArg (fun l => l.drop 1) g4
      simpa [Nat.add_comm] using this.symm
    have hkl : k < L.length := (List.getElem?_eq_some_iff.1 hget).1
    refine yc_region (l1 := [_, _, _, _, _, _, _]) (l2 := [_, _, _]) (hJ k) (by rfl) ?_
    refine sv rfl (opv_load1 ti79 rfl (.cp _) rfl) ?_
    refine sv rfl (opv_loadN ti45 rfl (.lp _ _ _ rfl) (Nat.le_of_ble_eq_true rfl)) ?_
    refine sd rfl (opD_callC hf (.fn _ _ _ _ rfl) (opnds_cons rfl opnds_nil) hcs (hk c true hb)) ?_
    refine sv rfl (opv_mv rfl) ?_
    refine son rfl rfl rfl ?_
    refine sv rfl (opv_mv rfl) ?_
    refine son rfl rfl rfl ?_
    refine sv rfl (opv_mv rfl) ?_
    refine son rfl rfl rfl ?_
    refine sv rfl (opv_loadN ti45 rfl (.lp _ _ _ rfl) (Nat.le_of_ble_eq_true rfl)) ?_
    refine snil0 ⟨rfl, [(0, .s (.one (.raw (.func (.yield l) #[] #[])))), (1, .s (.one (.cp [.sl t.L.length (t.L.flatMap eGConnsConn), .i .i64 t.Next]))), (2, .s (.one (.cp [.fn k0 [] cs]))), (7, .s (.one (.sl t.L.length (t.L.flatMap eGConnsConn)))), (8, .s (.one (.i .i64 (t.L.length : Int)))), (9, .s (.one (.i .i64 (i : Int)))), (17, .s (.one (.b true))), (18, .s (.one (.raw (.func (.yield l) #[] #[])))), (19, .s (.one (.i .i64 (i : Int)))), (20, .s (.agg c))], ⟨⟨rfl, rfl, rfl, rfl, rfl, rfl, rfl, rfl, rfl, rfl, trivial⟩, inbL_of rfl⟩, ?_⟩
    refine yl_yield rfl rfl (wanted_on (dj := 17) rfl rfl rfl rfl) hs rfl rfl rfl rfl (x := .one (.i .i64 (i : Int))) (y := .agg c) (by rw [List.getElem?_map, hget]; rfl) ?_ ?_
    rotate_left
    · -- the round has said no
      refine yl_of (l1 := [_, _]) (l2 := []) hJx (by rfl) (fun w0 S0 => ?_)
      refine son rfl rfl rfl ?_
      refine sv rfl (opv_not rfl) ?_
      refine sv rfl (opv_pick_t rfl rfl) ?_
      refine snil0 ⟨rfl, rfl, yl_nil (ythen ?_)⟩
      refine ycond rfl (fun _ => ?_) (fun hx => Bool.noConfusion hx)
      exact yret (And.intro (Or.inr rfl) (Or.inr rfl))
    refine yl_of (l1 := [_, _]) (l2 := []) (hJ (k + 1)) (by rfl) (fun w0 S0 => ?_)
    refine son rfl rfl rfl ?_
    refine sv rfl (opv_not rfl) ?_
    refine sv rfl (opv_pick_t rfl rfl) ?_
    refine snil0 ⟨rfl, rfl, yl_nil (ythen ?_)⟩
    refine ycond rfl (fun hx => Bool.noConfusion hx) (fun _ => ?_)
    refine yskip (yblk (ythen ?_))
    refine yplain (hJ (k + 1)) (by rfl) (fun w0 S0 => ?_)
    refine sv rfl (opv_add rfl rfl) ?_
    refine sv rfl (opv_mv rfl) ?_
    refine snil0 ⟨rfl, rfl, yl_nil (ythen ?_)⟩
    refine ⟨(k + 1, i + 1), ⟨hkl, hlt, ?_⟩, ⟨rfl, rfl, rfl, rfl, rfl, ?_, trivial⟩, rfl, ?_⟩
    · show it39d hold (i + 1) _ = some (L.drop (k + 1))
      rw [hr, hdrop]
    · show AV.s (.one (.i .i64 (wI ((i : Int) + 1)))) = _
      rw [hw]
    · show t.L.length - (i + 1) < t.L.length - i
      omega

def m42_conns_place_1s (a0 : GConnsConn) (a1 : Int) : Option Bool :=
  some (decide (a0.ID = a1))

set_option maxRecDepth 100000 in
theorem m42_conns_place_1s_c {a0 : GConnsConn} {a1 : Int} {r : Bool} (h : m42_conns_place_1s a0 a1 = some r) : CallsA Tryd.prog 42 [.agg a0, .one (.cp [.i .i64 a1])] (· = .s (.one (.b r))) := by
  unfold m42_conns_place_1s at h
  refine callsA_of Tryd.func42 rfl (nt := 8) rfl (Nat.le_of_ble_eq_true rfl) ?_
  intro w0 S0
  refine cseq ?_
  refine cregion ?_
  refine sbox rfl rfl ?_
  refine sv rfl (opv_as rfl) ?_
  refine snil ?_
  refine cseq ?_
  refine cregion ?_
  refine sv rfl (opv_fieldAddr_lp fi45_0 rfl) ?_
  refine sv rfl (opv_load1 ti3 rfl (.lp _ _ _ rfl) rfl) ?_
  refine sv rfl (opv_load1 ti3 rfl (.cp _) rfl) ?_
  refine sv rfl (opv_ieql rfl rfl) ?_
  refine sv rfl (opv_as rfl) ?_
  refine snil ?_
  refine cret ?_
  obtain rfl := Option.some.inj h
  refine ⟨Or.inr rfl, _, _, _, (resVs_cons (ResV.tmp _ _ rfl) resVs_nil), (pubA_id rfl), ?_⟩
  rfl

def m27_conns_place_r1 (s1 : Int) (x1 : Int × GConnsConn) : Option ((Int) ⊕ (Nat × (Int))) :=
  some (.inr (0, x1.1))

def m27_conns_place_k2 (s2 : Int) : Option Int :=
  some (-1)

def m27_conns_place_k3 (s3 : Int) : Option Int :=
  some s3
def m27_conns_place (a0 : GConnsTable) (a1 : Int) : Option Int :=
  (it39 (GConnsTable.mk a0.L a0.Next) (fun c0 => m42_conns_place_1s ((GConnsConn.mk c0.ID c0.Who c0.Epoch c0.Tx (GStreamStream.mk c0.Stream.Buf c0.Stream.Dead) (GPipePipe.mk (GSeqsWindow.mk c0.Pipe.Win.Base c0.Pipe.Win.Bits) c0.Pipe.Next c0.Pipe.Wait c0.Pipe.Past))) a1)).bind fun L1 => (rangeL m27_conns_place_r1 L1 0).bind fun e => rangeK m27_conns_place_k2 m27_conns_place_k3 (fun _ _ => none) e

set_option maxRecDepth 100000 in
theorem m27_conns_place_c {a0 : GConnsTable} {a1 : Int} {r : Int} (h : m27_conns_place a0 a1 = some r) : CallsA Tryd.prog 27 [.agg a0, .one (.i .i64 a1)] (· = .s (.one (.i .i64 r))) := by
  unfold m27_conns_place at h
  refine callsA_ofI Tryd.func27 rfl (nt := 12) rfl (Nat.le_of_ble_eq_true rfl) ?_
  intro w0 S0
  refine iseq ?_
  refine iregion rfl (fun w0 S0 X0 m0 H0 => ?_)
  refine sboxc rfl rfl rfl ?_
  refine sboxc rfl rfl rfl ?_
  refine salloc rfl zi3 ?_
  refine snil ?_
  refine iseq ?_
  refine iseq ?_
  refine iregion rfl (fun w0 S0 X0 m0 H0 => ?_)
  refine sv rfl (opv_loadNe (ys := [.sl a0.L.length (a0.L.flatMap eGConnsConn), .i .i64 a0.Next]) ti26 rfl (.cp _) rfl rfl) ?_
  refine sv rfl (opv_makeFunc opnds1_nil (opnds1_cons rfl rfl opnds1_nil)) ?_
  refine scall1 rfl fn22 (opnds_cons rfl (opnds_cons rfl opnds_nil)) (pubA_id rfl) m22_conns_ofs_c ?_
  refine snil ?_
  refine iblock ?_
  obtain ⟨L1, hL1, h⟩ := bind_eq h
  obtain ⟨e1, he1, h⟩ := bind_eq h
  refine irangeL m27_conns_place_r1 L1 (fun x1 => .one (.i .i64 x1.1)) (fun x1 => .agg x1.2) (fun s1 => [.box [.i .i64 s1]]) 0 he1 rfl fn39 rfl (it39_c fn42 rfl (fun _ _ hb => m42_conns_place_1s_c hb) hL1) rfl rfl rfl (fun _ => rfl) (fun _ => blkinb_of rfl) ?_ ?_ ?_ ?_
  · clear h
    intro x1 s1 y1 l h w0 S0 X0 H0
    unfold m27_conns_place_r1 at h
    refine iregion rfl (fun w0 S0 X0 m0 H0 => ?_)
    refine sv rfl (opv_as rfl) ?_
    refine snil ?_
    refine fun w0 S0 X0 H0 => ?_
    refine iblock ?_
    refine iseq ?_
    refine iregion rfl (fun w0 S0 X0 m0 H0 => ?_)
    refine sv rfl (opv_mv rfl) ?_
    refine sstore sz3 rfl rfl rfl rfl (Nat.le_of_ble_eq_true rfl) ?_
    refine smem [.box [.i .i64 x1.1]] rfl ?_
    refine snil ?_
    refine iret ?_
    refine block_ret ?_
    obtain rfl := Option.some.inj h
    exact ⟨x1.1, _, rfl, rfl⟩
  · intro s2 hs
    obtain rfl := hs
    replace h : m27_conns_place_k2 s2 = some r := h
    unfold m27_conns_place_k2 at h
    refine block_normal ?_
    refine then_normal ?_
    refine iseq ?_
    refine iregion rfl (fun w0 S0 X0 m0 H0 => ?_)
    refine sstore sz3 rfl rfl rfl rfl (Nat.le_of_ble_eq_true rfl) ?_
    refine smem [.box [.i .i64 (-1)]] rfl ?_
    refine snil ?_
    refine iret ?_
    obtain rfl := Option.some.inj h
    refine ⟨Or.inr rfl, _, _, _, (resVs_cons (ResV.one _ _ _ _ _ ti3 rfl (.lp _ _ _ rfl) rfl) resVs_nil), (pubA_id rfl), ?_⟩
    rfl
  · intro s3 hs
    obtain rfl := hs
    replace h : m27_conns_place_k3 s3 = some r := h
    unfold m27_conns_place_k3 at h
    refine block_ret ?_
    refine then_ret ?_
    obtain rfl := Option.some.inj h
    refine ⟨Or.inr rfl, _, _, _, (resVs_cons (ResV.one _ _ _ _ _ ti3 rfl (.lp _ _ _ rfl) rfl) resVs_nil), (pubA_id rfl), ?_⟩
    rfl
  · intro id s hs
    obtain rfl := hs
    replace h : none = some r := h
    cases h

def m11_conns_Find (a0 : GConnsTable) (a1 : Int) : Option (GConnsConn × Bool) :=
  (m27_conns_place (GConnsTable.mk a0.L a0.Next) a1).bind fun v1 => if (decide (v1 < 0)) then (some ((GConnsConn.mk 0 0 0 0 (GStreamStream.mk ([] : List UInt8) 0) (GPipePipe.mk (GSeqsWindow.mk 0 (0#64)) 0 ([] : List GMsgReq) ([] : List GMsgReply))), false)) else ((idx a0.L v1).bind fun u2 => some ((GConnsConn.mk u2.ID u2.Who u2.Epoch u2.Tx (GStreamStream.mk u2.Stream.Buf u2.Stream.Dead) (GPipePipe.mk (GSeqsWindow.mk u2.Pipe.Win.Base u2.Pipe.Win.Bits) u2.Pipe.Next u2.Pipe.Wait u2.Pipe.Past)), true))

set_option maxRecDepth 100000 in
theorem m11_conns_Find_c {a0 : GConnsTable} {a1 : Int} {r : GConnsConn × Bool} (h : m11_conns_Find a0 a1 = some r) : CallsA Tryd.prog 11 [.agg a0, .one (.i .i64 a1)] (· = .tup [.agg r.1, .one (.b r.2)]) := by
  unfold m11_conns_Find at h
  refine callsA_of Tryd.func11 rfl (nt := 18) rfl (Nat.le_of_ble_eq_true rfl) ?_
  intro w0 S0
  refine cseq ?_
  refine cregion ?_
  refine sbox rfl rfl ?_
  refine salloc rfl zi45 ?_
  refine sv rfl (opv_as rfl) ?_
  refine snil ?_
  refine cseq ?_
  refine cregion ?_
  refine sv rfl (opv_loadN ti26 rfl (.lp _ _ _ rfl) (Nat.le_of_ble_eq_true rfl)) ?_
  refine sv rfl (opv_mv rfl) ?_
  obtain ⟨v1, hv1, h⟩ := bind_eq h
  refine scall1 rfl fn27 (opnds_cons rfl (opnds_cons rfl opnds_nil)) (pubA_id rfl) (m27_conns_place_c hv1) ?_
  refine sv rfl (opv_as rfl) ?_
  refine snil ?_
  refine cseq ?_
  refine cseq ?_
  refine cregion ?_
  refine sv rfl (opv_mv rfl) ?_
  refine sv rfl (opv_lss rfl rfl) ?_
  refine snil ?_
  refine ccond rfl (fun hc => ?_) (fun hc => ?_)
  · replace h := ite_t hc h
    clear hc
    refine cseq ?_
    refine cregion ?_
    refine sv rfl (opv_build zi45 pi45 parts_nil (.nil _)) ?_
    refine sstore sz45 rfl rfl rfl rfl (Nat.le_of_ble_eq_true rfl) ?_
    refine smem [.box a0, .box [.i .i64 0, .i .i64 0, .i .i64 0, .i .i64 0, .raw (.slice none 0 0), .i .i64 0, .i .i64 0, .i .u64 ((0#64).toNat : Int), .i .i64 0, .raw (.slice none 0 0), .raw (.slice none 0 0)]] rfl ?_
    refine sv rfl (opv_as rfl) ?_
    refine snil ?_
    refine cret ?_
    refine then_ret ?_
    obtain rfl := Option.some.inj h
    refine ⟨Or.inr rfl, _, _, _, (resVs_cons (ResV.agg _ _ _ _ _ ti45 rfl (.lp _ _ _ rfl) (Nat.le_of_ble_eq_true rfl)) (resVs_cons (ResV.tmp _ _ rfl) resVs_nil)), (pubC rfl), ?_⟩
    rfl
  · replace h := ite_f hc h
    clear hc
    refine cskip ?_
    refine then_normal ?_
    refine cseq ?_
    refine cregion ?_
    refine sv rfl (opv_fieldAddr_lp fi26_0 rfl) ?_
    refine sv rfl (opv_load1 ti24 rfl (.lp _ _ _ rfl) rfl) ?_
    refine sv rfl (opv_mv rfl) ?_
    obtain ⟨u2, hu2, h⟩ := bind_eq h
    refine sv rfl (opv_ix (f := eGConnsConn) si24 (fun _ => rfl) rfl rfl rfl rfl hu2) ?_
    refine sv rfl (opv_loadNe (ys := [.i .i64 u2.ID, .i .i64 u2.Who, .i .i64 u2.Epoch, .i .i64 u2.Tx, .sl u2.Stream.Buf.length (u2.Stream.Buf.flatMap eU8), .i .i64 u2.Stream.Dead, .i .i64 u2.Pipe.Win.Base, .i .u64 (u2.Pipe.Win.Bits.toNat : Int), .i .i64 u2.Pipe.Next, .sl u2.Pipe.Wait.length (u2.Pipe.Wait.flatMap eGMsgReq), .sl u2.Pipe.Past.length (u2.Pipe.Past.flatMap eGMsgReply)]) ti45 rfl (.cp _) rfl rfl) ?_
    refine sstore sz45 rfl rfl rfl rfl (Nat.le_of_ble_eq_true rfl) ?_
    refine smem [.box a0, .box u2] rfl ?_
    refine sv rfl (opv_as rfl) ?_
    refine snil ?_
    refine cret ?_
    obtain rfl := Option.some.inj h
    refine ⟨Or.inr rfl, _, _, _, (resVs_cons (ResV.agg _ _ _ _ _ ti45 rfl (.lp _ _ _ rfl) (Nat.le_of_ble_eq_true rfl)) (resVs_cons (ResV.tmp _ _ rfl) resVs_nil)), (pubA_id rfl), ?_⟩
    rfl

theorem m22_conns_ofs1_c {a0 : GConnsTable} {a1 : Int} : CallsA Tryd.prog 22 [.agg a0, .one (.fn 23 [] [.cp [.i .i64 a1]])] (· = .s (.one (.fn 39 [] [.cp [.sl a0.L.length (a0.L.flatMap eGConnsConn), .i .i64 a0.Next], .cp [.fn 23 [] [.cp [.i .i64 a1]]]]))) := by
  refine callsA_of Tryd.func22 rfl (nt := 6) rfl (Nat.le_of_ble_eq_true rfl) ?_
  intro w0 S0
  refine cseq ?_
  refine cregion ?_
  refine sboxc rfl rfl rfl ?_
  refine sboxc rfl rfl rfl ?_
  refine sv rfl (opv_as rfl) ?_
  refine snil ?_
  refine cseq ?_
  refine cregion ?_
  refine sv rfl (opv_makeFunc opnds1_nil (opnds1_cons rfl rfl (opnds1_cons rfl rfl opnds1_nil))) ?_
  refine sv rfl (opv_as rfl) ?_
  refine snil ?_
  refine cret ?_
  refine ⟨Or.inr rfl, _, _, _, (resVs_cons (ResV.tmp _ _ rfl) resVs_nil), (pubA_id rfl), ?_⟩
  rfl

def m23_conns_Hello_1s (a0 : GConnsConn) (a1 : Int) : Option Bool :=
  some (decide (a0.Who = a1))

set_option maxRecDepth 100000 in
theorem m23_conns_Hello_1s_c {a0 : GConnsConn} {a1 : Int} {r : Bool} (h : m23_conns_Hello_1s a0 a1 = some r) : CallsA Tryd.prog 23 [.agg a0, .one (.cp [.i .i64 a1])] (· = .s (.one (.b r))) := by
  unfold m23_conns_Hello_1s at h
  refine callsA_of Tryd.func23 rfl (nt := 8) rfl (Nat.le_of_ble_eq_true rfl) ?_
  intro w0 S0
  refine cseq ?_
  refine cregion ?_
  refine sbox rfl rfl ?_
  refine sv rfl (opv_as rfl) ?_
  refine snil ?_
  refine cseq ?_
  refine cregion ?_
  refine sv rfl (opv_fieldAddr_lp fi45_1 rfl) ?_
  refine sv rfl (opv_load1 ti3 rfl (.lp _ _ _ rfl) rfl) ?_
  refine sv rfl (opv_load1 ti3 rfl (.cp _) rfl) ?_
  refine sv rfl (opv_ieql rfl rfl) ?_
  refine sv rfl (opv_as rfl) ?_
  refine snil ?_
  refine cret ?_
  obtain rfl := Option.some.inj h
  refine ⟨Or.inr rfl, _, _, _, (resVs_cons (ResV.tmp _ _ rfl) resVs_nil), (pubA_id rfl), ?_⟩
  rfl

theorem m22_conns_ofs2_c {a0 : GConnsTable} {a1 : Int} : CallsA Tryd.prog 22 [.agg a0, .one (.fn 24 [] [.cp [.i .i64 a1]])] (· = .s (.one (.fn 39 [] [.cp [.sl a0.L.length (a0.L.flatMap eGConnsConn), .i .i64 a0.Next], .cp [.fn 24 [] [.cp [.i .i64 a1]]]]))) := by
  refine callsA_of Tryd.func22 rfl (nt := 6) rfl (Nat.le_of_ble_eq_true rfl) ?_
  intro w0 S0
  refine cseq ?_
  refine cregion ?_
  refine sboxc rfl rfl rfl ?_
  refine sboxc rfl rfl rfl ?_
  refine sv rfl (opv_as rfl) ?_
  refine snil ?_
  refine cseq ?_
  refine cregion ?_
  refine sv rfl (opv_makeFunc opnds1_nil (opnds1_cons rfl rfl (opnds1_cons rfl rfl opnds1_nil))) ?_
  refine sv rfl (opv_as rfl) ?_
  refine snil ?_
  refine cret ?_
  refine ⟨Or.inr rfl, _, _, _, (resVs_cons (ResV.tmp _ _ rfl) resVs_nil), (pubA_id rfl), ?_⟩
  rfl

def m24_conns_Close_1s (a0 : GConnsConn) (a1 : Int) : Option Bool :=
  some (!decide (a0.ID = a1))

set_option maxRecDepth 100000 in
theorem m24_conns_Close_1s_c {a0 : GConnsConn} {a1 : Int} {r : Bool} (h : m24_conns_Close_1s a0 a1 = some r) : CallsA Tryd.prog 24 [.agg a0, .one (.cp [.i .i64 a1])] (· = .s (.one (.b r))) := by
  unfold m24_conns_Close_1s at h
  refine callsA_of Tryd.func24 rfl (nt := 8) rfl (Nat.le_of_ble_eq_true rfl) ?_
  intro w0 S0
  refine cseq ?_
  refine cregion ?_
  refine sbox rfl rfl ?_
  refine sv rfl (opv_as rfl) ?_
  refine snil ?_
  refine cseq ?_
  refine cregion ?_
  refine sv rfl (opv_fieldAddr_lp fi45_0 rfl) ?_
  refine sv rfl (opv_load1 ti3 rfl (.lp _ _ _ rfl) rfl) ?_
  refine sv rfl (opv_load1 ti3 rfl (.cp _) rfl) ?_
  refine sv rfl (opv_ineq rfl rfl) ?_
  refine sv rfl (opv_as rfl) ?_
  refine snil ?_
  refine cret ?_
  obtain rfl := Option.some.inj h
  refine ⟨Or.inr rfl, _, _, _, (resVs_cons (ResV.tmp _ _ rfl) resVs_nil), (pubA_id rfl), ?_⟩
  rfl

def m9_conns_Close_r3 (s3 : (List GConnsConn)) (x3 : Int × GConnsConn) : Option (((List GConnsConn)) ⊕ (Nat × ((List GConnsConn)))) :=
  if (s3.length + [(GConnsConn.mk x3.2.ID x3.2.Who x3.2.Epoch x3.2.Tx (GStreamStream.mk x3.2.Stream.Buf x3.2.Stream.Dead) (GPipePipe.mk (GSeqsWindow.mk x3.2.Pipe.Win.Base x3.2.Pipe.Win.Bits) x3.2.Pipe.Next x3.2.Pipe.Wait x3.2.Pipe.Past))].length) * 136 ≤ 140737488355328 then (some (.inl (s3 ++ [(GConnsConn.mk x3.2.ID x3.2.Who x3.2.Epoch x3.2.Tx (GStreamStream.mk x3.2.Stream.Buf x3.2.Stream.Dead) (GPipePipe.mk (GSeqsWindow.mk x3.2.Pipe.Win.Base x3.2.Pipe.Win.Bits) x3.2.Pipe.Next x3.2.Pipe.Wait x3.2.Pipe.Past))]))) else none

def m9_conns_Close_k5 (a0 : GConnsTable) (v1 : GConnsConn × Bool) (s5 : (List GConnsConn)) : Option (GConnsTable × GConnsConn × Bool) :=
  some ((GConnsTable.mk s5 a0.Next), (GConnsConn.mk v1.1.ID v1.1.Who v1.1.Epoch v1.1.Tx (GStreamStream.mk v1.1.Stream.Buf v1.1.Stream.Dead) (GPipePipe.mk (GSeqsWindow.mk v1.1.Pipe.Win.Base v1.1.Pipe.Win.Bits) v1.1.Pipe.Next v1.1.Pipe.Wait v1.1.Pipe.Past)), true)

def m9_conns_Close_k2 (a0 : GConnsTable) (a1 : Int) (v1 : GConnsConn × Bool) (b2 : Unit) : Option (GConnsTable × GConnsConn × Bool) :=
  (it39 (GConnsTable.mk a0.L a0.Next) (fun c0 => m24_conns_Close_1s ((GConnsConn.mk c0.ID c0.Who c0.Epoch c0.Tx (GStreamStream.mk c0.Stream.Buf c0.Stream.Dead) (GPipePipe.mk (GSeqsWindow.mk c0.Pipe.Win.Base c0.Pipe.Win.Bits) c0.Pipe.Next c0.Pipe.Wait c0.Pipe.Past))) a1)).bind fun L3 => (rangeL m9_conns_Close_r3 L3 ([] : List GConnsConn)).bind fun e => rangeK (m9_conns_Close_k5 a0 v1) (fun _ => none) (fun _ _ => none) e
def m9_conns_Close (a0 : GConnsTable) (a1 : Int) : Option (GConnsTable × GConnsConn × Bool) :=
  (m11_conns_Find a0 a1).bind fun v1 => if (!v1.2) then (some ((GConnsTable.mk a0.L a0.Next), (GConnsConn.mk 0 0 0 0 (GStreamStream.mk ([] : List UInt8) 0) (GPipePipe.mk (GSeqsWindow.mk 0 (0#64)) 0 ([] : List GMsgReq) ([] : List GMsgReply))), false)) else ((m10_conns_Sane (GConnsTable.mk a0.L a0.Next)).bind fun v6 => if (!v6) then (some ((GConnsTable.mk a0.L a0.Next), (GConnsConn.mk 0 0 0 0 (GStreamStream.mk ([] : List UInt8) 0) (GPipePipe.mk (GSeqsWindow.mk 0 (0#64)) 0 ([] : List GMsgReq) ([] : List GMsgReply))), false)) else (m9_conns_Close_k2 a0 a1 v1 ()))

set_option maxRecDepth 100000 in
theorem m9_conns_Close_c {a0 : GConnsTable} {a1 : Int} {r : GConnsTable × GConnsConn × Bool} (h : m9_conns_Close a0 a1 = some r) : CallsA Tryd.prog 9 [.agg a0, .one (.i .i64 a1)] (· = .tup [.agg r.1, .agg r.2.1, .one (.b r.2.2)]) := by
  unfold m9_conns_Close at h
  refine callsA_ofI Tryd.func9 rfl (nt := 41) rfl (Nat.le_of_ble_eq_true rfl) ?_
  intro w0 S0
  refine iseq ?_
  refine iregion rfl (fun w0 S0 X0 m0 H0 => ?_)
  refine sboxc rfl rfl rfl ?_
  refine sboxc rfl rfl rfl ?_
  refine salloc rfl zi26 ?_
  refine salloc rfl zi45 ?_
  refine sv rfl (opv_as rfl) ?_
  refine snil ?_
  refine iseq ?_
  refine iregion rfl (fun w0 S0 X0 m0 H0 => ?_)
  refine sv rfl (opv_loadNe (ys := [.sl a0.L.length (a0.L.flatMap eGConnsConn), .i .i64 a0.Next]) ti26 rfl (.cp _) rfl rfl) ?_
  refine sv rfl (opv_load1 ti3 rfl (.cp _) rfl) ?_
  obtain ⟨v1, hv1, h⟩ := bind_eq h
  refine scall1 rfl fn11 (opnds_cons rfl (opnds_cons rfl opnds_nil)) (pubA_id rfl) (m11_conns_Find_c hv1) ?_
  refine sv rfl (opv_mvt rfl) ?_
  refine sv rfl (opv_extract rfl rfl) ?_
  refine sv rfl (opv_extract rfl rfl) ?_
  refine salloc rfl zi45 ?_
  refine sstore sz45 rfl rfl rfl rfl (Nat.le_of_ble_eq_true rfl) ?_
  refine smem [.box [.raw (.slice none 0 0), .i .i64 0], .box [.i .i64 0, .i .i64 0, .i .i64 0, .i .i64 0, .raw (.slice none 0 0), .i .i64 0, .i .i64 0, .i .u64 ((0#64).toNat : Int), .i .i64 0, .raw (.slice none 0 0), .raw (.slice none 0 0)], .box v1.1] rfl ?_
  refine sv rfl (opv_as rfl) ?_
  refine snil ?_
  refine iseq ?_
  refine iseq ?_
  refine ijoin3 (Unit) (fun b2 => [(2, .s (.one (.cp [.sl a0.L.length (a0.L.flatMap eGConnsConn), .i .i64 a0.Next]))), (3, .s (.one (.cp [.i .i64 a1]))), (4, .s (.one (.lp 0 0))), (5, .s (.one (.lp 1 0))), (6, .s (.one (.b false))), (7, .s (.one (.lp 2 0)))]) (fun b2 => [.box [.raw (.slice none 0 0), .i .i64 0], .box [.i .i64 0, .i .i64 0, .i .i64 0, .i .i64 0, .raw (.slice none 0 0), .i .i64 0, .i .i64 0, .i .u64 ((0#64).toNat : Int), .i .i64 0, .raw (.slice none 0 0), .raw (.slice none 0 0)], .box v1.1]) (fun b2 => m9_conns_Close_k2 a0 a1 v1 b2 = some r) (fun _ _ => inbL_of rfl) (fun _ _ => blkinb_of rfl) (fun _ _ => Nat.le_of_ble_eq_true rfl) (fun b2 h => ?_) ?_
  · unfold m9_conns_Close_k2 at h
    refine iseq ?_
    refine iregion rfl (fun w0 S0 X0 m0 H0 => ?_)
    refine salloc rfl zi24 ?_
    refine snil ?_
    refine iseq ?_
    refine iseq ?_
    refine iregion rfl (fun w0 S0 X0 m0 H0 => ?_)
    refine sv rfl (opv_loadNe (ys := [.sl a0.L.length (a0.L.flatMap eGConnsConn), .i .i64 a0.Next]) ti26 rfl (.cp _) rfl rfl) ?_
    refine sv rfl (opv_makeFunc opnds1_nil (opnds1_cons rfl rfl opnds1_nil)) ?_
    refine scall1 rfl fn22 (opnds_cons rfl (opnds_cons rfl opnds_nil)) (pubA_id rfl) m22_conns_ofs2_c ?_
    refine snil ?_
    refine iblock ?_
    refine sadopt_box_i 45 11 3 0 (by decide) rfl rfl ?_
    obtain ⟨L3, hL3, h⟩ := bind_eq h
    obtain ⟨e3, he3, h⟩ := bind_eq h
    refine irangeL m9_conns_Close_r3 L3 (fun x3 => .one (.i .i64 x3.1)) (fun x3 => .agg x3.2) (fun s3 => [.box [.raw (.slice none 0 0), .i .i64 0], .box [.i .i64 0, .i .i64 0, .i .i64 0, .i .i64 0, .raw (.slice none 0 0), .i .i64 0, .i .i64 0, .i .u64 ((0#64).toNat : Int), .i .i64 0, .raw (.slice none 0 0), .raw (.slice none 0 0)], .box v1.1, .box [.ls 4 s3.length], .arr 45 11 0 (s3.flatMap eGConnsConn)]) ([] : List GConnsConn) he3 rfl fn39 rfl (it39_c fn24 rfl (fun _ _ hb => m24_conns_Close_1s_c hb) hL3) rfl rfl rfl (fun _ => rfl) (fun _ => blkinb_of rfl) ?_ ?_ ?_ ?_
    · clear h
      intro x3 s3 y3 l h w0 S0 X0 H0
      unfold m9_conns_Close_r3 at h
      refine iregion rfl (fun w0 S0 X0 m0 H0 => ?_)
      refine salloc rfl zi45 ?_
      refine sstore sz45 rfl rfl rfl rfl (Nat.le_of_ble_eq_true rfl) ?_
      refine smem [.box [.raw (.slice none 0 0), .i .i64 0], .box [.i .i64 0, .i .i64 0, .i .i64 0, .i .i64 0, .raw (.slice none 0 0), .i .i64 0, .i .i64 0, .i .u64 ((0#64).toNat : Int), .i .i64 0, .raw (.slice none 0 0), .raw (.slice none 0 0)], .box v1.1, .box [.ls 4 s3.length], .arr 45 11 0 (s3.flatMap eGConnsConn), .box x3.2] rfl ?_
      refine snil ?_
      refine fun w0 S0 X0 H0 => ?_
      refine iblock ?_
      refine iregion rfl (fun w0 S0 X0 m0 H0 => ?_)
      refine sv rfl (opv_load1 ti24 rfl (.lp _ _ _ rfl) rfl) ?_
      refine sv rfl (opv_loadN ti45 rfl (.lp _ _ _ rfl) (Nat.le_of_ble_eq_true rfl)) ?_
      refine sbuild1 rfl Tryd.underlying24 ei45 rfl rfl (List.all_eq_true.1 rfl) (by decide) ?_
      refine smem [.box [.raw (.slice none 0 0), .i .i64 0], .box [.i .i64 0, .i .i64 0, .i .i64 0, .i .i64 0, .raw (.slice none 0 0), .i .i64 0, .i .i64 0, .i .u64 ((0#64).toNat : Int), .i .i64 0, .raw (.slice none 0 0), .raw (.slice none 0 0)], .box v1.1, .box [.ls 4 s3.length], .arr 45 11 0 (s3.flatMap eGConnsConn), .box x3.2, .arr 45 11 0 ([(GConnsConn.mk x3.2.ID x3.2.Who x3.2.Epoch x3.2.Tx (GStreamStream.mk x3.2.Stream.Buf x3.2.Stream.Dead) (GPipePipe.mk (GSeqsWindow.mk x3.2.Pipe.Win.Base x3.2.Pipe.Win.Bits) x3.2.Pipe.Next x3.2.Pipe.Wait x3.2.Pipe.Past))].flatMap eGConnsConn)] rfl ?_
      obtain ⟨hb4, h⟩ := chk_eq h
      refine sapp (f := eGConnsConn) (xs := s3) (us := [(GConnsConn.mk x3.2.ID x3.2.Who x3.2.Epoch x3.2.Tx (GStreamStream.mk x3.2.Stream.Buf x3.2.Stream.Dead) (GPipePipe.mk (GSeqsWindow.mk x3.2.Pipe.Win.Base x3.2.Pipe.Win.Bits) x3.2.Pipe.Next x3.2.Pipe.Wait x3.2.Pipe.Past))]) rfl Tryd.underlying24 ei45 ni24 (fun _ => rfl) rfl rfl (.one _ _ _ _ (.ls _ _ _ _ _ _ rfl (flat_len (f := eGConnsConn) (fun _ => rfl) [(GConnsConn.mk x3.2.ID x3.2.Who x3.2.Epoch x3.2.Tx (GStreamStream.mk x3.2.Stream.Buf x3.2.Stream.Dead) (GPipePipe.mk (GSeqsWindow.mk x3.2.Pipe.Win.Base x3.2.Pipe.Win.Bits) x3.2.Pipe.Next x3.2.Pipe.Wait x3.2.Pipe.Past))]).symm)) rfl rfl rfl (.sl _ _ _ (flat_len (f := eGConnsConn) (fun _ => rfl) _)) rfl rfl hb4 (by decide) ?_
      refine sstore sz24 rfl rfl rfl rfl (Nat.le_of_ble_eq_true rfl) ?_
      refine smem [.box [.raw (.slice none 0 0), .i .i64 0], .box [.i .i64 0, .i .i64 0, .i .i64 0, .i .i64 0, .raw (.slice none 0 0), .i .i64 0, .i .i64 0, .i .u64 ((0#64).toNat : Int), .i .i64 0, .raw (.slice none 0 0), .raw (.slice none 0 0)], .box v1.1, .box [.ls 4 (s3 ++ [(GConnsConn.mk x3.2.ID x3.2.Who x3.2.Epoch x3.2.Tx (GStreamStream.mk x3.2.Stream.Buf x3.2.Stream.Dead) (GPipePipe.mk (GSeqsWindow.mk x3.2.Pipe.Win.Base x3.2.Pipe.Win.Bits) x3.2.Pipe.Next x3.2.Pipe.Wait x3.2.Pipe.Past))]).length], .arr 45 11 0 ((s3 ++ [(GConnsConn.mk x3.2.ID x3.2.Who x3.2.Epoch x3.2.Tx (GStreamStream.mk x3.2.Stream.Buf x3.2.Stream.Dead) (GPipePipe.mk (GSeqsWindow.mk x3.2.Pipe.Win.Base x3.2.Pipe.Win.Bits) x3.2.Pipe.Next x3.2.Pipe.Wait x3.2.Pipe.Past))]).flatMap eGConnsConn), .box x3.2, .arr 45 11 ([(GConnsConn.mk x3.2.ID x3.2.Who x3.2.Epoch x3.2.Tx (GStreamStream.mk x3.2.Stream.Buf x3.2.Stream.Dead) (GPipePipe.mk (GSeqsWindow.mk x3.2.Pipe.Win.Base x3.2.Pipe.Win.Bits) x3.2.Pipe.Next x3.2.Pipe.Wait x3.2.Pipe.Past))].flatMap eGConnsConn).length ([(GConnsConn.mk x3.2.ID x3.2.Who x3.2.Epoch x3.2.Tx (GStreamStream.mk x3.2.Stream.Buf x3.2.Stream.Dead) (GPipePipe.mk (GSeqsWindow.mk x3.2.Pipe.Win.Base x3.2.Pipe.Win.Bits) x3.2.Pipe.Next x3.2.Pipe.Wait x3.2.Pipe.Past))].flatMap eGConnsConn)] rfl ?_
      refine snil0 ?_
      refine block_normal ?_
      obtain rfl := Option.some.inj h
      exact ⟨(s3 ++ [(GConnsConn.mk x3.2.ID x3.2.Who x3.2.Epoch x3.2.Tx (GStreamStream.mk x3.2.Stream.Buf x3.2.Stream.Dead) (GPipePipe.mk (GSeqsWindow.mk x3.2.Pipe.Win.Base x3.2.Pipe.Win.Bits) x3.2.Pipe.Next x3.2.Pipe.Wait x3.2.Pipe.Past))]), _, rfl, rfl⟩
    · intro s5 hs
      obtain rfl := hs
      replace h : m9_conns_Close_k5 a0 v1 s5 = some r := h
      unfold m9_conns_Close_k5 at h
      refine block_normal ?_
      refine then_normal ?_
      refine iseq ?_
      refine idraw mixed rfl (fun w0 S0 X0 m0 H0 => cdraw_eD [5, 6] [0, 0, 2, 7, 0, 15, 63, 127] [[.box [.raw (.slice none 0 0), .i .i64 0], .box [.i .i64 0, .i .i64 0, .i .i64 0, .i .i64 0, .raw (.slice none 0 0), .i .i64 0, .i .i64 0, .i .u64 ((0#64).toNat : Int), .i .i64 0, .raw (.slice none 0 0), .raw (.slice none 0 0)], .box v1.1, .box [.ls 4 s5.length], .arr 45 11 0 (s5.flatMap eGConnsConn)], [.box [.ls 4 s5.length, .i .i64 a0.Next], .box [.i .i64 0, .i .i64 0, .i .i64 0, .i .i64 0, .raw (.slice none 0 0), .i .i64 0, .i .i64 0, .i .u64 ((0#64).toNat : Int), .i .i64 0, .raw (.slice none 0 0), .raw (.slice none 0 0)], .box v1.1, .box [.ls 4 s5.length], .arr 45 11 0 (s5.flatMap eGConnsConn)], [.box [.ls 4 s5.length, .i .i64 a0.Next], .box v1.1, .box v1.1, .box [.ls 4 s5.length], .arr 45 11 0 (s5.flatMap eGConnsConn)]] (by kernel_rfl) (by kernel_rfl) (by decide) rfl rfl rfl rfl ?_)
      refine ev (sees_at 0 rfl rfl) rfl rfl (opv_load1 ti24 rfl (.lp _ _ _ rfl) rfl) ?_
      refine ev (sees_at 0 rfl rfl) rfl rfl (opv_fieldAddr_cp fi26_1 rfl) ?_
      refine ev (sees_at 0 rfl rfl) rfl rfl (opv_load1 ti3 rfl (.cp _) rfl) ?_
      refine ev (sees_at 0 rfl rfl) rfl rfl (opv_build zi26 pi26 (parts_cons rfl (parts_cons rfl parts_nil)) (.cons _ _ _ _ _ _ _ rfl rfl (Nat.le_of_ble_eq_true rfl) (.cons _ _ _ _ _ _ _ rfl rfl (Nat.le_of_ble_eq_true rfl) (.nil _)))) ?_
      refine ev (sees_all (md := [.dead, .dead, .box v1.1, .box [.ls 4 s5.length], .arr 45 11 0 (s5.flatMap eGConnsConn)]) ⟨⟨trivial, ⟨trivial, ⟨rfl, ⟨rfl, ⟨rfl, trivial⟩⟩⟩⟩⟩, ⟨⟨trivial, ⟨trivial, ⟨rfl, ⟨rfl, ⟨rfl, trivial⟩⟩⟩⟩⟩, ⟨⟨trivial, ⟨trivial, ⟨rfl, ⟨rfl, ⟨rfl, trivial⟩⟩⟩⟩⟩, trivial⟩⟩⟩) rfl rfl (opv_loadN ti45 rfl (.lp _ _ _ rfl) (Nat.le_of_ble_eq_true rfl)) ?_
      refine ee0 0 rfl rfl rfl rfl (fun ζ => ?_) ?_
      · refine sstore sz26 rfl rfl rfl rfl (Nat.le_of_ble_eq_true rfl) ?_
        refine smem [.box [.ls 4 s5.length, .i .i64 a0.Next], .box [.i .i64 0, .i .i64 0, .i .i64 0, .i .i64 0, .raw (.slice none 0 0), .i .i64 0, .i .i64 0, .i .u64 ((0#64).toNat : Int), .i .i64 0, .raw (.slice none 0 0), .raw (.slice none 0 0)], .box v1.1, .box [.ls 4 s5.length], .arr 45 11 0 (s5.flatMap eGConnsConn)] rfl ?_
        exact eend
      refine ee0 1 rfl rfl rfl rfl (fun ζ => ?_) ?_
      · refine sstore sz45 rfl rfl rfl rfl (Nat.le_of_ble_eq_true rfl) ?_
        refine smem [.box [.ls 4 s5.length, .i .i64 a0.Next], .box v1.1, .box v1.1, .box [.ls 4 s5.length], .arr 45 11 0 (s5.flatMap eGConnsConn)] rfl ?_
        exact eend
      refine ev (sees_at 2 rfl rfl) rfl rfl (opv_as rfl) ?_
      refine enil ?_
      refine then_normal ?_
      refine iret ?_
      obtain rfl := Option.some.inj h
      refine ⟨Or.inr rfl, _, _, _, (resVs_cons (ResV.agg _ _ _ _ _ ti26 rfl (.lp _ _ _ rfl) (Nat.le_of_ble_eq_true rfl)) (resVs_cons (ResV.agg _ _ _ _ _ ti45 rfl (.lp _ _ _ rfl) (Nat.le_of_ble_eq_true rfl)) (resVs_cons (ResV.tmp _ _ rfl) resVs_nil))), (by (repeat' first | exact PubA.nil _ | apply PubA.cons | apply PubV.one | apply PubV.agg | exact PubL.nil | exact PubL.ls _ _ _ _ _ _ rfl (flat_len (f := eGConnsConn) (fun _ => rfl) _).symm | exact PubL.id _ rfl | exact PubLs.nil _ | apply PubLs.cons)), ?_⟩
      rfl
    · intro s hs
      obtain rfl := hs
      replace h : none = some r := h
      cases h
    · intro id s hs
      obtain rfl := hs
      replace h : none = some r := h
      cases h
  · skip
    refine iregion rfl (fun w0 S0 X0 m0 H0 => ?_)
    refine sv rfl (opv_mv rfl) ?_
    refine sv rfl (opv_not rfl) ?_
    refine sv rfl (opv_mv rfl) ?_
    refine ssplit 20 rfl (fun hc => ?_) (fun hc => ?_)
    · replace h := ite_t hc h
      clear hc
      refine soff rfl rfl rfl rfl ?_
      refine soff rfl rfl rfl rfl ?_
      refine soff rfl rfl rfl rfl ?_
      refine sv rfl (opv_pick_t rfl rfl) ?_
      refine snil ?_
      refine icond rfl (fun _ => ?_) (fun hx => Bool.noConfusion hx)
      refine iseq ?_
      refine iregion rfl (fun w0 S0 X0 m0 H0 => ?_)
      refine sv rfl (opv_loadNe (ys := [.sl a0.L.length (a0.L.flatMap eGConnsConn), .i .i64 a0.Next]) ti26 rfl (.cp _) rfl rfl) ?_
      refine sv rfl (opv_build zi45 pi45 parts_nil (.nil _)) ?_
      refine sstore sz26 rfl rfl rfl rfl (Nat.le_of_ble_eq_true rfl) ?_
      refine smem [.box a0, .box [.i .i64 0, .i .i64 0, .i .i64 0, .i .i64 0, .raw (.slice none 0 0), .i .i64 0, .i .i64 0, .i .u64 ((0#64).toNat : Int), .i .i64 0, .raw (.slice none 0 0), .raw (.slice none 0 0)], .box v1.1] rfl ?_
      refine sstore sz45 rfl rfl rfl rfl (Nat.le_of_ble_eq_true rfl) ?_
      refine smem [.box a0, .box [.i .i64 0, .i .i64 0, .i .i64 0, .i .i64 0, .raw (.slice none 0 0), .i .i64 0, .i .i64 0, .i .u64 ((0#64).toNat : Int), .i .i64 0, .raw (.slice none 0 0), .raw (.slice none 0 0)], .box v1.1] rfl ?_
      refine sv rfl (opv_as rfl) ?_
      refine snil ?_
      refine iret ?_
      refine then_ret ?_
      obtain rfl := Option.some.inj h
      refine ⟨Or.inr rfl, _, _, _, (resVs_cons (ResV.agg _ _ _ _ _ ti26 rfl (.lp _ _ _ rfl) (Nat.le_of_ble_eq_true rfl)) (resVs_cons (ResV.agg _ _ _ _ _ ti45 rfl (.lp _ _ _ rfl) (Nat.le_of_ble_eq_true rfl)) (resVs_cons (ResV.tmp _ _ rfl) resVs_nil))), (pubC rfl), ?_⟩
      rfl
    · replace h := ite_f hc h
      clear hc
      refine son rfl rfl rfl ?_
      refine sv rfl (opv_loadNe (ys := [.sl a0.L.length (a0.L.flatMap eGConnsConn), .i .i64 a0.Next]) ti26 rfl (.cp _) rfl rfl) ?_
      refine son rfl rfl rfl ?_
      obtain ⟨v6, hv6, h⟩ := bind_eq h
      refine scall1 rfl fn10 (opnds_cons rfl opnds_nil) (pubA_id rfl) (m10_conns_Sane_c hv6) ?_
      refine son rfl rfl rfl ?_
      refine sv rfl (opv_not rfl) ?_
      refine sv rfl (opv_pick_f rfl rfl) ?_
      refine snil ?_
      refine icond rfl (fun hc => ?_) (fun hc => ?_)
      · replace h := ite_t hc h
        clear hc
        refine iseq ?_
        refine iregion rfl (fun w0 S0 X0 m0 H0 => ?_)
        refine sv rfl (opv_loadNe (ys := [.sl a0.L.length (a0.L.flatMap eGConnsConn), .i .i64 a0.Next]) ti26 rfl (.cp _) rfl rfl) ?_
        refine sv rfl (opv_build zi45 pi45 parts_nil (.nil _)) ?_
        refine sstore sz26 rfl rfl rfl rfl (Nat.le_of_ble_eq_true rfl) ?_
        refine smem [.box a0, .box [.i .i64 0, .i .i64 0, .i .i64 0, .i .i64 0, .raw (.slice none 0 0), .i .i64 0, .i .i64 0, .i .u64 ((0#64).toNat : Int), .i .i64 0, .raw (.slice none 0 0), .raw (.slice none 0 0)], .box v1.1] rfl ?_
        refine sstore sz45 rfl rfl rfl rfl (Nat.le_of_ble_eq_true rfl) ?_
        refine smem [.box a0, .box [.i .i64 0, .i .i64 0, .i .i64 0, .i .i64 0, .raw (.slice none 0 0), .i .i64 0, .i .i64 0, .i .u64 ((0#64).toNat : Int), .i .i64 0, .raw (.slice none 0 0), .raw (.slice none 0 0)], .box v1.1] rfl ?_
        refine sv rfl (opv_as rfl) ?_
        refine snil ?_
        refine iret ?_
        refine then_ret ?_
        obtain rfl := Option.some.inj h
        refine ⟨Or.inr rfl, _, _, _, (resVs_cons (ResV.agg _ _ _ _ _ ti26 rfl (.lp _ _ _ rfl) (Nat.le_of_ble_eq_true rfl)) (resVs_cons (ResV.agg _ _ _ _ _ ti45 rfl (.lp _ _ _ rfl) (Nat.le_of_ble_eq_true rfl)) (resVs_cons (ResV.tmp _ _ rfl) resVs_nil))), (pubC rfl), ?_⟩
        rfl
      · replace h := ite_f hc h
        clear hc
        refine iskip ?_
        refine then_normal ?_
        exact ⟨(), _, h, ⟨rfl, rfl, rfl, rfl, rfl, rfl, trivial⟩, rfl⟩

def m29_slices_Clone (a0 : List GConnsConn) : Option (List GConnsConn) :=
  if (([] : List GConnsConn).length + a0.length) * 136 ≤ 140737488355328 then (some (([] : List GConnsConn) ++ a0)) else none

set_option maxRecDepth 100000 in
theorem m29_slices_Clone_c {a0 : List GConnsConn} {r : (List GConnsConn)} (h : m29_slices_Clone a0 = some r) : CallsA Tryd.prog 29 [.one (.sl a0.length (a0.flatMap eGConnsConn))] (· = .s (.one (.sl r.length (r.flatMap eGConnsConn)))) := by
  unfold m29_slices_Clone at h
  refine callsA_of Tryd.func29 rfl (nt := 8) rfl (Nat.le_of_ble_eq_true rfl) ?_
  intro w0 S0
  refine cseq ?_
  refine cregion ?_
  refine sv rfl (opv_as rfl) ?_
  refine snil ?_
  refine cseq ?_
  refine cseq ?_
  refine cregion ?_
  refine sv rfl (opv_mv rfl) ?_
  refine snilq rfl Tryd.underlying24 rfl (fun nq hnq => ?_)
  cases nq
  · skip
    refine snil ?_
    refine ccond rfl (fun hx => Bool.noConfusion hx) (fun _ => ?_)
    refine cskip ?_
    refine then_normal ?_
    refine cseq ?_
    refine cregion ?_
    refine sbuild0 rfl Tryd.underlying24 ei45 ?_
    refine sv rfl (opv_mv rfl) ?_
    obtain ⟨hb1, h⟩ := chk_eq h
    refine sapp (f := eGConnsConn) (xs := ([] : List GConnsConn)) (us := a0) rfl Tryd.underlying24 ei45 ni24 (fun _ => rfl) rfl rfl (.one _ _ _ _ (.id _ rfl)) rfl rfl rfl (.sl _ _ _ (flat_len (f := eGConnsConn) (fun _ => rfl) _)) rfl rfl hb1 (by decide) ?_
    refine sv rfl (opv_as rfl) ?_
    refine snil ?_
    refine cret ?_
    obtain rfl := Option.some.inj h
    refine ⟨Or.inr rfl, _, _, _, (resVs_cons (ResV.tmp _ _ rfl) resVs_nil), (by (repeat' first | exact PubA.nil _ | apply PubA.cons | apply PubV.one | apply PubV.agg | exact PubL.nil | exact PubL.ls _ _ _ _ _ _ rfl (flat_len (f := eGConnsConn) (fun _ => rfl) _).symm | exact PubL.id _ rfl | exact PubLs.nil _ | apply PubLs.cons)), ?_⟩
    rfl
  · obtain rfl := List.eq_nil_of_length_eq_zero (hnq rfl)
    replace h : (some ([] : List GConnsConn)) = some r := by first | exact h | (rw [if_pos (by decide)] at h; exact h)
    refine snil ?_
    refine ccond rfl (fun _ => ?_) (fun hx => Bool.noConfusion hx)
    refine cseq ?_
    refine cregion ?_
    refine sv rfl (opv_as rfl) ?_
    refine snil ?_
    refine cret ?_
    refine then_ret ?_
    obtain rfl := Option.some.inj h
    refine ⟨Or.inr rfl, _, _, _, (resVs_cons (ResV.tmp _ _ rfl) resVs_nil), (pubC rfl), ?_⟩
    rfl

def m29_slices_Cloneo (a0 : List GConnsConn) : Option (List GConnsConn) :=
  if (([] : List GConnsConn).length + a0.length) * 136 ≤ 140737488355328 then (some (([] : List GConnsConn) ++ a0)) else none

set_option maxRecDepth 100000 in
theorem m29_slices_Cloneo_c {a0 : List GConnsConn} {r : (List GConnsConn)} (h : m29_slices_Cloneo a0 = some r) : CallsB Tryd.prog 29 [] [.one (.sl a0.length (a0.flatMap eGConnsConn))] (fun y m' => y = .s (.one (.ls 0 r.length)) ∧ m' = [.arr 45 11 0 (r.flatMap eGConnsConn)]) := by
  unfold m29_slices_Cloneo at h
  refine callsB_of Tryd.func29 rfl (nt := 8) rfl (Nat.le_of_ble_eq_true rfl) ?_
  intro w0 S0 X0 H0
  refine cseq ?_
  refine cregion ?_
  refine sv rfl (opv_as rfl) ?_
  refine snil ?_
  refine cseq ?_
  refine cseq ?_
  refine cregion ?_
  refine sv rfl (opv_mv rfl) ?_
  refine snilq rfl Tryd.underlying24 rfl (fun nq hnq => ?_)
  cases nq
  · skip
    refine snil ?_
    refine ccond rfl (fun hx => Bool.noConfusion hx) (fun _ => ?_)
    refine cskip ?_
    refine then_normal ?_
    refine cseq ?_
    refine cregion ?_
    refine sbuild0 rfl Tryd.underlying24 ei45 ?_
    refine sv rfl (opv_mv rfl) ?_
    obtain ⟨hb1, h⟩ := chk_eq h
    refine sapp (f := eGConnsConn) (xs := ([] : List GConnsConn)) (us := a0) rfl Tryd.underlying24 ei45 ni24 (fun _ => rfl) rfl rfl (.one _ _ _ _ (.id _ rfl)) rfl rfl rfl (.sl _ _ _ (flat_len (f := eGConnsConn) (fun _ => rfl) _)) rfl rfl hb1 (by decide) ?_
    refine sv rfl (opv_as rfl) ?_
    refine snil ?_
    refine cret ?_
    obtain rfl := Option.some.inj h
    exact ⟨Or.inr rfl, _, [0], [.one (.ls 0 (([] : List GConnsConn) ++ a0).length)], [.arr 45 11 0 ((([] : List GConnsConn) ++ a0).flatMap eGConnsConn)], (resVs_cons (ResV.tmp _ _ rfl) resVs_nil), rfl, rfl, ⟨by decide, rfl⟩, rfl, rfl, ⟨rfl, rfl⟩⟩
  · obtain rfl := List.eq_nil_of_length_eq_zero (hnq rfl)
    replace h : (some ([] : List GConnsConn)) = some r := by first | exact h | (rw [if_pos (by decide)] at h; exact h)
    refine snil ?_
    refine ccond rfl (fun _ => ?_) (fun hx => Bool.noConfusion hx)
    refine cseq ?_
    refine cregion ?_
    refine sv rfl (opv_as rfl) ?_
    refine snil ?_
    refine sadopt_c 45 11 2 (by decide) rfl ?_
    refine cret ?_
    refine then_ret ?_
    obtain rfl := Option.some.inj h
    exact ⟨Or.inr rfl, _, [0], [.one (.ls 0 ([] : List GConnsConn).length)], [.arr 45 11 0 (([] : List GConnsConn).flatMap eGConnsConn)], (resVs_cons (ResV.tmp _ _ rfl) resVs_nil), rfl, rfl, ⟨by decide, rfl⟩, rfl, rfl, ⟨rfl, rfl⟩⟩

def m14_conns_Set (a0 : GConnsTable) (a1 : GConnsConn) : Option (GConnsTable × Int) :=
  (m10_conns_Sane a0).bind fun v1 => if (!v1) then (some ((GConnsTable.mk ([] : List GConnsConn) 0), 1)) else ((m27_conns_place a0 a1.ID).bind fun v2 => if (decide (v2 < 0)) then (some ((GConnsTable.mk ([] : List GConnsConn) 0), 6)) else ((m29_slices_Cloneo a0.L).bind fun v3 => (idx v3 v2).bind fun u4 => (m10_conns_Sane (GConnsTable.mk (v3.set v2.toNat (GConnsConn.mk a1.ID a1.Who a1.Epoch a1.Tx (GStreamStream.mk a1.Stream.Buf a1.Stream.Dead) (GPipePipe.mk (GSeqsWindow.mk a1.Pipe.Win.Base a1.Pipe.Win.Bits) a1.Pipe.Next a1.Pipe.Wait a1.Pipe.Past))) a0.Next)).bind fun v5 => if (!v5) then (some ((GConnsTable.mk ([] : List GConnsConn) 0), 1)) else (some ((GConnsTable.mk (v3.set v2.toNat (GConnsConn.mk a1.ID a1.Who a1.Epoch a1.Tx (GStreamStream.mk a1.Stream.Buf a1.Stream.Dead) (GPipePipe.mk (GSeqsWindow.mk a1.Pipe.Win.Base a1.Pipe.Win.Bits) a1.Pipe.Next a1.Pipe.Wait a1.Pipe.Past))) a0.Next), 0))))

set_option maxRecDepth 100000 in
theorem m14_conns_Set_c {a0 : GConnsTable} {a1 : GConnsConn} {r : GConnsTable × Int} (h : m14_conns_Set a0 a1 = some r) : CallsA Tryd.prog 14 [.agg a0, .agg a1] (· = .tup [.agg r.1, .one (.i .i64 r.2)]) := by
  unfold m14_conns_Set at h
  refine callsA_of Tryd.func14 rfl (nt := 35) rfl (Nat.le_of_ble_eq_true rfl) ?_
  intro w0 S0
  refine cseq ?_
  refine cregion ?_
  refine sbox rfl rfl ?_
  refine sbox rfl rfl ?_
  refine salloc rfl zi26 ?_
  refine sv rfl (opv_as rfl) ?_
  refine snil ?_
  refine cseq ?_
  refine cseq ?_
  refine cregion ?_
  refine sv rfl (opv_loadN ti26 rfl (.lp _ _ _ rfl) (Nat.le_of_ble_eq_true rfl)) ?_
  obtain ⟨v1, hv1, h⟩ := bind_eq h
  refine scall1 rfl fn10 (opnds_cons rfl opnds_nil) (pubA_id rfl) (m10_conns_Sane_c hv1) ?_
  refine sv rfl (opv_not rfl) ?_
  refine snil ?_
  refine ccond rfl (fun hc => ?_) (fun hc => ?_)
  · replace h := ite_t hc h
    clear hc
    refine cseq ?_
    refine cregion ?_
    refine sv rfl (opv_build zi26 pi26 parts_nil (.nil _)) ?_
    refine sstore sz26 rfl rfl rfl rfl (Nat.le_of_ble_eq_true rfl) ?_
    refine smem [.box a0, .box a1, .box [.raw (.slice none 0 0), .i .i64 0]] rfl ?_
    refine sv rfl (opv_as rfl) ?_
    refine snil ?_
    refine cret ?_
    refine then_ret ?_
    obtain rfl := Option.some.inj h
    refine ⟨Or.inr rfl, _, _, _, (resVs_cons (ResV.agg _ _ _ _ _ ti26 rfl (.lp _ _ _ rfl) (Nat.le_of_ble_eq_true rfl)) (resVs_cons (ResV.tmp _ _ rfl) resVs_nil)), (pubC rfl), ?_⟩
    rfl
  · replace h := ite_f hc h
    clear hc
    refine cskip ?_
    refine then_normal ?_
    refine cseq ?_
    refine cregion ?_
    refine sv rfl (opv_loadN ti26 rfl (.lp _ _ _ rfl) (Nat.le_of_ble_eq_true rfl)) ?_
    refine sv rfl (opv_fieldAddr_lp fi45_0 rfl) ?_
    refine sv rfl (opv_load1 ti3 rfl (.lp _ _ _ rfl) rfl) ?_
    obtain ⟨v2, hv2, h⟩ := bind_eq h
    refine scall1 rfl fn27 (opnds_cons rfl (opnds_cons rfl opnds_nil)) (pubA_id rfl) (m27_conns_place_c hv2) ?_
    refine sv rfl (opv_as rfl) ?_
    refine snil ?_
    refine cseq ?_
    refine cseq ?_
    refine cregion ?_
    refine sv rfl (opv_mv rfl) ?_
    refine sv rfl (opv_lss rfl rfl) ?_
    refine snil ?_
    refine ccond rfl (fun hc => ?_) (fun hc => ?_)
    · replace h := ite_t hc h
      clear hc
      refine cseq ?_
      refine cregion ?_
      refine sv rfl (opv_build zi26 pi26 parts_nil (.nil _)) ?_
      refine sstore sz26 rfl rfl rfl rfl (Nat.le_of_ble_eq_true rfl) ?_
      refine smem [.box a0, .box a1, .box [.raw (.slice none 0 0), .i .i64 0]] rfl ?_
      refine sv rfl (opv_as rfl) ?_
      refine snil ?_
      refine cret ?_
      refine then_ret ?_
      obtain rfl := Option.some.inj h
      refine ⟨Or.inr rfl, _, _, _, (resVs_cons (ResV.agg _ _ _ _ _ ti26 rfl (.lp _ _ _ rfl) (Nat.le_of_ble_eq_true rfl)) (resVs_cons (ResV.tmp _ _ rfl) resVs_nil)), (pubC rfl), ?_⟩
      rfl
    · replace h := ite_f hc h
      clear hc
      refine cskip ?_
      refine then_normal ?_
      refine cseq ?_
      refine chole ?_
      obtain ⟨v3, hv3, h⟩ := bind_eq h
      refine cdraw_m [2, 6, 7] [0, 1, 3, 0, 8, 31, 0, 127] [([false, false, false], [.box a0, .box a1, .box [.raw (.slice none 0 0), .i .i64 0], .hole]), ([false, true, false], [.box a0, .box a1, .box [.raw (.slice none 0 0), .i .i64 0], .box [.raw (.slice none 0 0), .i .i64 0]]), ([true, false, false], [.box a0, .box a1, .box [.raw (.slice none 0 0), .i .i64 0], .hole, .arr 45 11 0 (v3.flatMap eGConnsConn)]), ([true, true, false], [.box a0, .box a1, .box [.raw (.slice none 0 0), .i .i64 0], .box [.raw (.slice none 0 0), .i .i64 0], .arr 45 11 0 (v3.flatMap eGConnsConn)]), ([true, true, true], [.box a0, .box a1, .box [.raw (.slice none 0 0), .i .i64 0], .box [.ls 4 v3.length, .i .i64 a0.Next], .arr 45 11 0 (v3.flatMap eGConnsConn)])] (by kernel_rfl) mixed (by kernel_rfl) (by decide) rfl (by kernel_rfl) rfl rfl ?_
      refine mevA rfl rfl (alle_t rfl (opv_fieldAddr_lp fi26_0 rfl) (alle_t rfl (opv_fieldAddr_lp fi26_0 rfl) (alle_f rfl (alle_f rfl (alle_f rfl alle_nil))))) ?_
      refine mevA rfl rfl (alle_t rfl (opv_load1 ti24 rfl (.lp _ _ _ rfl) rfl) (alle_t rfl (opv_load1 ti24 rfl (.lp _ _ _ rfl) rfl) (alle_f rfl (alle_f rfl (alle_f rfl alle_nil))))) ?_
      refine mee (x := .s (.one (.ls 4 v3.length))) 0 rfl rfl ?_ ?_
      · refine alle_t rfl ⟨_, rfl, fun ζ => ?_⟩ ?_
        · refine scallB (x' := .s (.one (.ls 4 v3.length))) (M' := [.box a0, .box a1, .box [.raw (.slice none 0 0), .i .i64 0], .hole, .arr 45 11 0 (v3.flatMap eGConnsConn)]) [] rfl fn29 (.func _) (opnds_cons rfl opnds_nil) (m29_slices_Cloneo_c hv3) rfl rfl (by decide) rfl rfl rfl ?_
          exact eend
        refine alle_t rfl ⟨_, rfl, fun ζ => ?_⟩ ?_
        · refine scallB (x' := .s (.one (.ls 4 v3.length))) (M' := [.box a0, .box a1, .box [.raw (.slice none 0 0), .i .i64 0], .box [.raw (.slice none 0 0), .i .i64 0], .arr 45 11 0 (v3.flatMap eGConnsConn)]) [] rfl fn29 (.func _) (opnds_cons rfl opnds_nil) (m29_slices_Cloneo_c hv3) rfl rfl (by decide) rfl rfl rfl ?_
          exact eend
        refine alle_f rfl ?_
        refine alle_f rfl ?_
        refine alle_f rfl ?_
        exact alle_nil
      refine mevA rfl rfl (alle_t rfl (opv_fieldAddr_lp fi26_1 rfl) (alle_t rfl (opv_fieldAddr_lp fi26_1 rfl) (alle_t rfl (opv_fieldAddr_lp fi26_1 rfl) (alle_t rfl (opv_fieldAddr_lp fi26_1 rfl) (alle_f rfl alle_nil))))) ?_
      refine mevA rfl rfl (alle_t rfl (opv_load1 ti3 rfl (.lp _ _ _ rfl) rfl) (alle_t rfl (opv_load1 ti3 rfl (.lp _ _ _ rfl) rfl) (alle_t rfl (opv_load1 ti3 rfl (.lp _ _ _ rfl) rfl) (alle_t rfl (opv_load1 ti3 rfl (.lp _ _ _ rfl) rfl) (alle_f rfl alle_nil))))) ?_
      refine mevA rfl rfl (alle_f rfl (alle_f rfl (alle_t rfl (opv_build zi26 pi26 (parts_cons rfl (parts_cons rfl parts_nil)) (.cons _ _ _ _ _ _ _ rfl rfl (Nat.le_of_ble_eq_true rfl) (.cons _ _ _ _ _ _ _ rfl rfl (Nat.le_of_ble_eq_true rfl) (.nil _)))) (alle_t rfl (opv_build zi26 pi26 (parts_cons rfl (parts_cons rfl parts_nil)) (.cons _ _ _ _ _ _ _ rfl rfl (Nat.le_of_ble_eq_true rfl) (.cons _ _ _ _ _ _ _ rfl rfl (Nat.le_of_ble_eq_true rfl) (.nil _)))) (alle_f rfl alle_nil))))) ?_
      refine mee (x := .s (.one (.lp 3 0))) 1 rfl rfl ?_ ?_
      · refine alle_t rfl ⟨_, rfl, fun ζ => ?_⟩ ?_
        · refine salloc_at 3 rfl zi26 rfl ?_
          exact eend
        refine alle_f rfl ?_
        refine alle_t rfl ⟨_, rfl, fun ζ => ?_⟩ ?_
        · refine salloc_at 3 rfl zi26 rfl ?_
          exact eend
        refine alle_f rfl ?_
        refine alle_f rfl ?_
        exact alle_nil
      refine mee0 2 rfl ?_ ?_
      · refine alle_f rfl ?_
        refine alle_f rfl ?_
        refine alle_f rfl ?_
        refine alle_t rfl ⟨_, rfl, fun ζ => ?_⟩ ?_
        · refine sstore sz26 rfl rfl rfl rfl (Nat.le_of_ble_eq_true rfl) ?_
          refine smem [.box a0, .box a1, .box [.raw (.slice none 0 0), .i .i64 0], .box [.ls 4 v3.length, .i .i64 a0.Next], .arr 45 11 0 (v3.flatMap eGConnsConn)] rfl ?_
          exact eend
        refine alle_f rfl ?_
        exact alle_nil
      refine mnil2 ?_
      refine then_normal ?_
      refine cseq ?_
      refine cregion ?_
      refine sv rfl (opv_fieldAddr_lp fi26_0 rfl) ?_
      refine sv rfl (opv_load1 ti24 rfl (.lp _ _ _ rfl) rfl) ?_
      refine sv rfl (opv_mv rfl) ?_
      refine sv rfl (opv_loadN ti45 rfl (.lp _ _ _ rfl) (Nat.le_of_ble_eq_true rfl)) ?_
      obtain ⟨u4, hu4, h⟩ := bind_eq h
      refine sv rfl (opv_ixo (f := eGConnsConn) si24 (fun _ => rfl) rfl rfl rfl rfl rfl hu4) ?_
      refine sseto (f := eGConnsConn) (u' := (GConnsConn.mk a1.ID a1.Who a1.Epoch a1.Tx (GStreamStream.mk a1.Stream.Buf a1.Stream.Dead) (GPipePipe.mk (GSeqsWindow.mk a1.Pipe.Win.Base a1.Pipe.Win.Bits) a1.Pipe.Next a1.Pipe.Wait a1.Pipe.Past))) (sz := 11) 0 sz45 (fun _ => rfl) rfl rfl rfl rfl rfl rfl rfl (List.all_eq_true.1 rfl) (idx_eq hu4).2 (Nat.le_of_ble_eq_true rfl) rfl ?_
      refine stell 21 (y := .s (.one (.ls 4 v3.length))) (.s (.one (.ls 4 (v3.set v2.toNat (GConnsConn.mk a1.ID a1.Who a1.Epoch a1.Tx (GStreamStream.mk a1.Stream.Buf a1.Stream.Dead) (GPipePipe.mk (GSeqsWindow.mk a1.Pipe.Win.Base a1.Pipe.Win.Bits) a1.Pipe.Next a1.Pipe.Wait a1.Pipe.Past))).length))) rfl (congrArg (fun n => AV.s (.one (.ls 4 n))) List.length_set.symm) ?_
      refine stell 26 (y := .s (.one (.ls 4 v3.length))) (.s (.one (.ls 4 (v3.set v2.toNat (GConnsConn.mk a1.ID a1.Who a1.Epoch a1.Tx (GStreamStream.mk a1.Stream.Buf a1.Stream.Dead) (GPipePipe.mk (GSeqsWindow.mk a1.Pipe.Win.Base a1.Pipe.Win.Bits) a1.Pipe.Next a1.Pipe.Wait a1.Pipe.Past))).length))) rfl (congrArg (fun n => AV.s (.one (.ls 4 n))) List.length_set.symm) ?_
      refine smem [.box a0, .box a1, .box [.raw (.slice none 0 0), .i .i64 0], .box [.ls 4 v3.length, .i .i64 a0.Next], .arr 45 11 0 ((v3.set v2.toNat (GConnsConn.mk a1.ID a1.Who a1.Epoch a1.Tx (GStreamStream.mk a1.Stream.Buf a1.Stream.Dead) (GPipePipe.mk (GSeqsWindow.mk a1.Pipe.Win.Base a1.Pipe.Win.Bits) a1.Pipe.Next a1.Pipe.Wait a1.Pipe.Past))).flatMap eGConnsConn)] rfl ?_
      refine smem [.box a0, .box a1, .box [.raw (.slice none 0 0), .i .i64 0], .box [.ls 4 (v3.set v2.toNat (GConnsConn.mk a1.ID a1.Who a1.Epoch a1.Tx (GStreamStream.mk a1.Stream.Buf a1.Stream.Dead) (GPipePipe.mk (GSeqsWindow.mk a1.Pipe.Win.Base a1.Pipe.Win.Bits) a1.Pipe.Next a1.Pipe.Wait a1.Pipe.Past))).length, .i .i64 a0.Next], .arr 45 11 0 ((v3.set v2.toNat (GConnsConn.mk a1.ID a1.Who a1.Epoch a1.Tx (GStreamStream.mk a1.Stream.Buf a1.Stream.Dead) (GPipePipe.mk (GSeqsWindow.mk a1.Pipe.Win.Base a1.Pipe.Win.Bits) a1.Pipe.Next a1.Pipe.Wait a1.Pipe.Past))).flatMap eGConnsConn)] (by rw [List.length_set]) ?_
      refine snil ?_
      refine cseq ?_
      refine cseq ?_
      refine cregion ?_
      refine sv rfl (opv_loadN ti26 rfl (.lp _ _ _ rfl) (Nat.le_of_ble_eq_true rfl)) ?_
      refine spub 30 rfl (by (repeat' first | exact PubA.nil _ | apply PubA.cons | apply PubV.one | apply PubV.agg | exact PubL.nil | exact PubL.ls _ _ _ _ _ _ rfl (flat_len (f := eGConnsConn) (fun _ => rfl) _).symm | exact PubL.id _ rfl | exact PubLs.nil _ | apply PubLs.cons)) ?_
      obtain ⟨v5, hv5, h⟩ := bind_eq h
      refine scall1 rfl fn10 (opnds_cons rfl opnds_nil) (pubA_id rfl) (m10_conns_Sane_c hv5) ?_
      refine sv rfl (opv_not rfl) ?_
      refine snil ?_
      refine ccond rfl (fun hc => ?_) (fun hc => ?_)
      · replace h := ite_t hc h
        clear hc
        refine cseq ?_
        refine cregion ?_
        refine sv rfl (opv_build zi26 pi26 parts_nil (.nil _)) ?_
        refine sstore sz26 rfl rfl rfl rfl (Nat.le_of_ble_eq_true rfl) ?_
        refine smem [.box a0, .box a1, .box [.raw (.slice none 0 0), .i .i64 0], .box [.ls 4 (v3.set v2.toNat (GConnsConn.mk a1.ID a1.Who a1.Epoch a1.Tx (GStreamStream.mk a1.Stream.Buf a1.Stream.Dead) (GPipePipe.mk (GSeqsWindow.mk a1.Pipe.Win.Base a1.Pipe.Win.Bits) a1.Pipe.Next a1.Pipe.Wait a1.Pipe.Past))).length, .i .i64 a0.Next], .arr 45 11 ((v3.set v2.toNat (GConnsConn.mk a1.ID a1.Who a1.Epoch a1.Tx (GStreamStream.mk a1.Stream.Buf a1.Stream.Dead) (GPipePipe.mk (GSeqsWindow.mk a1.Pipe.Win.Base a1.Pipe.Win.Bits) a1.Pipe.Next a1.Pipe.Wait a1.Pipe.Past))).flatMap eGConnsConn).length ((v3.set v2.toNat (GConnsConn.mk a1.ID a1.Who a1.Epoch a1.Tx (GStreamStream.mk a1.Stream.Buf a1.Stream.Dead) (GPipePipe.mk (GSeqsWindow.mk a1.Pipe.Win.Base a1.Pipe.Win.Bits) a1.Pipe.Next a1.Pipe.Wait a1.Pipe.Past))).flatMap eGConnsConn)] rfl ?_
        refine sv rfl (opv_as rfl) ?_
        refine snil ?_
        refine cret ?_
        refine then_ret ?_
        obtain rfl := Option.some.inj h
        refine ⟨Or.inr rfl, _, _, _, (resVs_cons (ResV.agg _ _ _ _ _ ti26 rfl (.lp _ _ _ rfl) (Nat.le_of_ble_eq_true rfl)) (resVs_cons (ResV.tmp _ _ rfl) resVs_nil)), (pubC rfl), ?_⟩
        rfl
      · replace h := ite_f hc h
        clear hc
        refine cskip ?_
        refine then_normal ?_
        refine cseq ?_
        refine cregion ?_
        refine sv rfl (opv_loadN ti26 rfl (.lp _ _ _ rfl) (Nat.le_of_ble_eq_true rfl)) ?_
        refine sstore sz26 rfl rfl rfl rfl (Nat.le_of_ble_eq_true rfl) ?_
        refine smem [.box a0, .box a1, .box [.ls 4 (v3.set v2.toNat (GConnsConn.mk a1.ID a1.Who a1.Epoch a1.Tx (GStreamStream.mk a1.Stream.Buf a1.Stream.Dead) (GPipePipe.mk (GSeqsWindow.mk a1.Pipe.Win.Base a1.Pipe.Win.Bits) a1.Pipe.Next a1.Pipe.Wait a1.Pipe.Past))).length, .i .i64 a0.Next], .box [.ls 4 (v3.set v2.toNat (GConnsConn.mk a1.ID a1.Who a1.Epoch a1.Tx (GStreamStream.mk a1.Stream.Buf a1.Stream.Dead) (GPipePipe.mk (GSeqsWindow.mk a1.Pipe.Win.Base a1.Pipe.Win.Bits) a1.Pipe.Next a1.Pipe.Wait a1.Pipe.Past))).length, .i .i64 a0.Next], .arr 45 11 ((v3.set v2.toNat (GConnsConn.mk a1.ID a1.Who a1.Epoch a1.Tx (GStreamStream.mk a1.Stream.Buf a1.Stream.Dead) (GPipePipe.mk (GSeqsWindow.mk a1.Pipe.Win.Base a1.Pipe.Win.Bits) a1.Pipe.Next a1.Pipe.Wait a1.Pipe.Past))).flatMap eGConnsConn).length ((v3.set v2.toNat (GConnsConn.mk a1.ID a1.Who a1.Epoch a1.Tx (GStreamStream.mk a1.Stream.Buf a1.Stream.Dead) (GPipePipe.mk (GSeqsWindow.mk a1.Pipe.Win.Base a1.Pipe.Win.Bits) a1.Pipe.Next a1.Pipe.Wait a1.Pipe.Past))).flatMap eGConnsConn)] rfl ?_
        refine sv rfl (opv_as rfl) ?_
        refine snil ?_
        refine cret ?_
        obtain rfl := Option.some.inj h
        refine ⟨Or.inr rfl, _, _, _, (resVs_cons (ResV.agg _ _ _ _ _ ti26 rfl (.lp _ _ _ rfl) (Nat.le_of_ble_eq_true rfl)) (resVs_cons (ResV.tmp _ _ rfl) resVs_nil)), (by (repeat' first | exact PubA.nil _ | apply PubA.cons | apply PubV.one | apply PubV.agg | exact PubL.nil | exact PubL.ls _ _ _ _ _ _ rfl (flat_len (f := eGConnsConn) (fun _ => rfl) _).symm | exact PubL.id _ rfl | exact PubLs.nil _ | apply PubLs.cons)), ?_⟩
        rfl

def m8_conns_Hello_r3 (a3 : Int) (s3 : Int × (List GConnsConn)) (x3 : Int × GConnsConn) : Option ((Int × (List GConnsConn)) ⊕ (Nat × (Int × (List GConnsConn)))) :=
  if (decide (a3 ≤ x3.2.Epoch)) then (some (.inr (0, (14, s3.2)))) else (if (s3.2.length + [(GConnsConn.mk x3.2.ID x3.2.Who x3.2.Epoch x3.2.Tx (GStreamStream.mk x3.2.Stream.Buf x3.2.Stream.Dead) (GPipePipe.mk (GSeqsWindow.mk x3.2.Pipe.Win.Base x3.2.Pipe.Win.Bits) x3.2.Pipe.Next x3.2.Pipe.Wait x3.2.Pipe.Past))].length) * 136 ≤ 140737488355328 then (some (.inl (s3.1, (s3.2 ++ [(GConnsConn.mk x3.2.ID x3.2.Who x3.2.Epoch x3.2.Tx (GStreamStream.mk x3.2.Stream.Buf x3.2.Stream.Dead) (GPipePipe.mk (GSeqsWindow.mk x3.2.Pipe.Win.Base x3.2.Pipe.Win.Bits) x3.2.Pipe.Next x3.2.Pipe.Wait x3.2.Pipe.Past))])))) else none)

def m8_conns_Hello_k6 (a2 : Int) (a3 : Int) (v2 : GConnsConn × Bool) (s5 : Int × (List GConnsConn)) (b6 : (List GConnsConn) × Int) : Option (GConnsTable × (List GConnsConn) × Int) :=
  (m14_conns_Set (GConnsTable.mk b6.1 b6.2) (GConnsConn.mk v2.1.ID a2 a3 v2.1.Tx (GStreamStream.mk v2.1.Stream.Buf v2.1.Stream.Dead) (GPipePipe.mk (GSeqsWindow.mk v2.1.Pipe.Win.Base v2.1.Pipe.Win.Bits) v2.1.Pipe.Next v2.1.Pipe.Wait v2.1.Pipe.Past))).bind fun v7 => if (!decide (v7.2 = 0)) then (some ((GConnsTable.mk ([] : List GConnsConn) 0), ([] : List GConnsConn), v7.2)) else (some (v7.1, s5.2, 0))

def m8_conns_Hello_s8 (s5 : Int × (List GConnsConn)) (s8 : Int × (List GConnsConn) × Int) : Option (LB (Int × (List GConnsConn) × Int) ((List GConnsConn) × Int)) :=
  if (decide (s8.1 < (s5.2.length : Int))) then ((idx s5.2 s8.1).bind fun u9 => (m9_conns_Close (GConnsTable.mk s8.2.1 s8.2.2) u9.ID).bind fun v10 => some (.cont ((wI (s8.1 + 1)), v10.1.L, v10.1.Next))) else (some (.brk (s8.2.1, s8.2.2)))

def m8_conns_Hello_k5 (a0 : GConnsTable) (a2 : Int) (a3 : Int) (v2 : GConnsConn × Bool) (s5 : Int × (List GConnsConn)) : Option (GConnsTable × (List GConnsConn) × Int) :=
  (iterB (m8_conns_Hello_s8 s5) fuel (0, a0.L, a0.Next)).bind fun e11 => m8_conns_Hello_k6 a2 a3 v2 s5 e11

def m8_conns_Hello_k12 (s12 : Int × (List GConnsConn)) : Option (GConnsTable × (List GConnsConn) × Int) :=
  some ((GConnsTable.mk ([] : List GConnsConn) 0), ([] : List GConnsConn), s12.1)

def m8_conns_Hello_k1 (a0 : GConnsTable) (a1 : Int) (a2 : Int) (a3 : Int) (b1 : Unit) : Option (GConnsTable × (List GConnsConn) × Int) :=
  (m11_conns_Find (GConnsTable.mk a0.L a0.Next) a1).bind fun v2 => if (!v2.2) then (some ((GConnsTable.mk ([] : List GConnsConn) 0), ([] : List GConnsConn), 6)) else (if (!decide (v2.1.Who = (-1))) then (some ((GConnsTable.mk ([] : List GConnsConn) 0), ([] : List GConnsConn), 7)) else ((it39 (GConnsTable.mk a0.L a0.Next) (fun c0 => m23_conns_Hello_1s ((GConnsConn.mk c0.ID c0.Who c0.Epoch c0.Tx (GStreamStream.mk c0.Stream.Buf c0.Stream.Dead) (GPipePipe.mk (GSeqsWindow.mk c0.Pipe.Win.Base c0.Pipe.Win.Bits) c0.Pipe.Next c0.Pipe.Wait c0.Pipe.Past))) a2)).bind fun L3 => (rangeL (m8_conns_Hello_r3 a3) L3 (0, ([] : List GConnsConn))).bind fun e => rangeK (m8_conns_Hello_k5 a0 a2 a3 v2) m8_conns_Hello_k12 (fun _ _ => none) e))
def m8_conns_Hello (a0 : GConnsTable) (a1 : Int) (a2 : Int) (a3 : Int) : Option (GConnsTable × (List GConnsConn) × Int) :=
  (m10_conns_Sane (GConnsTable.mk a0.L a0.Next)).bind fun v13 => if (!v13) then (some ((GConnsTable.mk ([] : List GConnsConn) 0), ([] : List GConnsConn), 1)) else ((m21_conns_within a2 1099511627776).bind fun v14 => if (!v14) then (some ((GConnsTable.mk ([] : List GConnsConn) 0), ([] : List GConnsConn), 1)) else ((m21_conns_within a3 65535).bind fun v15 => if (!v15) then (some ((GConnsTable.mk ([] : List GConnsConn) 0), ([] : List GConnsConn), 1)) else (m8_conns_Hello_k1 a0 a1 a2 a3 ())))

set_option maxRecDepth 100000 in
theorem m8_conns_Hello_c {a0 : GConnsTable} {a1 : Int} {a2 : Int} {a3 : Int} {r : GConnsTable × (List GConnsConn) × Int} (h : m8_conns_Hello a0 a1 a2 a3 = some r) : CallsA Tryd.prog 8 [.agg a0, .one (.i .i64 a1), .one (.i .i64 a2), .one (.i .i64 a3)] (· = .tup [.agg r.1, .one (.sl r.2.1.length (r.2.1.flatMap eGConnsConn)), .one (.i .i64 r.2.2)]) := by
  unfold m8_conns_Hello at h
  refine callsA_ofI Tryd.func8 rfl (nt := 91) rfl (Nat.le_of_ble_eq_true rfl) ?_
  intro w0 S0
  refine iseq ?_
  refine iregion rfl (fun w0 S0 X0 m0 H0 => ?_)
  refine sbox rfl rfl ?_
  refine sboxc rfl rfl rfl ?_
  refine sboxc rfl rfl rfl ?_
  refine salloc rfl zi26 ?_
  refine salloc rfl zi24 ?_
  refine salloc rfl zi29 ?_
  refine snil ?_
  refine iseq ?_
  refine iseq ?_
  refine ijoin3 (Unit) (fun b1 => [(1, .s (.one (.i .i64 a1))), (4, .s (.one (.lp 0 0))), (6, .s (.one (.cp [.i .i64 a2]))), (7, .s (.one (.cp [.i .i64 a3]))), (8, .s (.one (.lp 1 0))), (9, .s (.one (.lp 2 0))), (10, .s (.one (.lp 3 0)))]) (fun b1 => [.box a0, .box [.raw (.slice none 0 0), .i .i64 0], .box [.raw (.slice none 0 0)], .box [.i .i64 0]]) (fun b1 => m8_conns_Hello_k1 a0 a1 a2 a3 b1 = some r) (fun _ _ => inbL_of rfl) (fun _ _ => blkinb_of rfl) (fun _ _ => Nat.le_of_ble_eq_true rfl) (fun b1 h => ?_) ?_
  · unfold m8_conns_Hello_k1 at h
    refine iseq ?_
    refine iregion rfl (fun w0 S0 X0 m0 H0 => ?_)
    refine sv rfl (opv_loadN ti26 rfl (.lp _ _ _ rfl) (Nat.le_of_ble_eq_true rfl)) ?_
    refine sv rfl (opv_mv rfl) ?_
    obtain ⟨v2, hv2, h⟩ := bind_eq h
    refine scall1 rfl fn11 (opnds_cons rfl (opnds_cons rfl opnds_nil)) (pubA_id rfl) (m11_conns_Find_c hv2) ?_
    refine sv rfl (opv_mvt rfl) ?_
    refine sv rfl (opv_extract rfl rfl) ?_
    refine sv rfl (opv_extract rfl rfl) ?_
    refine salloc rfl zi45 ?_
    refine sstore sz45 rfl rfl rfl rfl (Nat.le_of_ble_eq_true rfl) ?_
    refine smem [.box a0, .box [.raw (.slice none 0 0), .i .i64 0], .box [.raw (.slice none 0 0)], .box [.i .i64 0], .box v2.1] rfl ?_
    refine sv rfl (opv_as rfl) ?_
    refine snil ?_
    refine iseq ?_
    refine iseq ?_
    refine iregion rfl (fun w0 S0 X0 m0 H0 => ?_)
    refine sv rfl (opv_mv rfl) ?_
    refine sv rfl (opv_not rfl) ?_
    refine snil ?_
    refine icond rfl (fun hc => ?_) (fun hc => ?_)
    · replace h := ite_t hc h
      clear hc
      refine iseq ?_
      refine iregion rfl (fun w0 S0 X0 m0 H0 => ?_)
      refine sv rfl (opv_build zi26 pi26 parts_nil (.nil _)) ?_
      refine sstore sz26 rfl rfl rfl rfl (Nat.le_of_ble_eq_true rfl) ?_
      refine smem [.box a0, .box [.raw (.slice none 0 0), .i .i64 0], .box [.raw (.slice none 0 0)], .box [.i .i64 0], .box v2.1] rfl ?_
      refine sstore sz24 rfl rfl rfl rfl (Nat.le_of_ble_eq_true rfl) ?_
      refine smem [.box a0, .box [.raw (.slice none 0 0), .i .i64 0], .box [.raw (.slice none 0 0)], .box [.i .i64 0], .box v2.1] rfl ?_
      refine sstore sz29 rfl rfl rfl rfl (Nat.le_of_ble_eq_true rfl) ?_
      refine smem [.box a0, .box [.raw (.slice none 0 0), .i .i64 0], .box [.raw (.slice none 0 0)], .box [.i .i64 6], .box v2.1] rfl ?_
      refine snil ?_
      refine iret ?_
      refine then_ret ?_
      obtain rfl := Option.some.inj h
      refine ⟨Or.inr rfl, _, _, _, (resVs_cons (ResV.agg _ _ _ _ _ ti26 rfl (.lp _ _ _ rfl) (Nat.le_of_ble_eq_true rfl)) (resVs_cons (ResV.one _ _ _ _ _ ti24 rfl (.lp _ _ _ rfl) rfl) (resVs_cons (ResV.one _ _ _ _ _ ti29 rfl (.lp _ _ _ rfl) rfl) resVs_nil))), (pubC rfl), ?_⟩
      rfl
    · replace h := ite_f hc h
      clear hc
      refine iskip ?_
      refine then_normal ?_
      refine iseq ?_
      refine iseq ?_
      refine iregion rfl (fun w0 S0 X0 m0 H0 => ?_)
      refine sv rfl (opv_fieldAddr_lp fi45_1 rfl) ?_
      refine sv rfl (opv_load1 ti3 rfl (.lp _ _ _ rfl) rfl) ?_
      refine sv rfl (opv_ineq rfl rfl) ?_
      refine snil ?_
      refine icond rfl (fun hc => ?_) (fun hc => ?_)
      · replace h := ite_t hc h
        clear hc
        refine iseq ?_
        refine iregion rfl (fun w0 S0 X0 m0 H0 => ?_)
        refine sv rfl (opv_build zi26 pi26 parts_nil (.nil _)) ?_
        refine sstore sz26 rfl rfl rfl rfl (Nat.le_of_ble_eq_true rfl) ?_
        refine smem [.box a0, .box [.raw (.slice none 0 0), .i .i64 0], .box [.raw (.slice none 0 0)], .box [.i .i64 0], .box v2.1] rfl ?_
        refine sstore sz24 rfl rfl rfl rfl (Nat.le_of_ble_eq_true rfl) ?_
        refine smem [.box a0, .box [.raw (.slice none 0 0), .i .i64 0], .box [.raw (.slice none 0 0)], .box [.i .i64 0], .box v2.1] rfl ?_
        refine sstore sz29 rfl rfl rfl rfl (Nat.le_of_ble_eq_true rfl) ?_
        refine smem [.box a0, .box [.raw (.slice none 0 0), .i .i64 0], .box [.raw (.slice none 0 0)], .box [.i .i64 7], .box v2.1] rfl ?_
        refine snil ?_
        refine iret ?_
        refine then_ret ?_
        obtain rfl := Option.some.inj h
        refine ⟨Or.inr rfl, _, _, _, (resVs_cons (ResV.agg _ _ _ _ _ ti26 rfl (.lp _ _ _ rfl) (Nat.le_of_ble_eq_true rfl)) (resVs_cons (ResV.one _ _ _ _ _ ti24 rfl (.lp _ _ _ rfl) rfl) (resVs_cons (ResV.one _ _ _ _ _ ti29 rfl (.lp _ _ _ rfl) rfl) resVs_nil))), (pubC rfl), ?_⟩
        rfl
      · replace h := ite_f hc h
        clear hc
        refine iskip ?_
        refine then_normal ?_
        refine iseq ?_
        refine iregion rfl (fun w0 S0 X0 m0 H0 => ?_)
        refine salloc rfl zi24 ?_
        refine snil ?_
        refine iseq ?_
        refine iseq ?_
        refine iregion rfl (fun w0 S0 X0 m0 H0 => ?_)
        refine sv rfl (opv_loadN ti26 rfl (.lp _ _ _ rfl) (Nat.le_of_ble_eq_true rfl)) ?_
        refine sv rfl (opv_makeFunc opnds1_nil (opnds1_cons rfl rfl opnds1_nil)) ?_
        refine scall1 rfl fn22 (opnds_cons rfl (opnds_cons rfl opnds_nil)) (pubA_id rfl) m22_conns_ofs1_c ?_
        refine snil ?_
        refine iblock ?_
        refine sadopt_box_i 45 11 5 0 (by decide) rfl rfl ?_
        obtain ⟨L3, hL3, h⟩ := bind_eq h
        obtain ⟨e3, he3, h⟩ := bind_eq h
        refine irangeL (m8_conns_Hello_r3 a3) L3 (fun x3 => .one (.i .i64 x3.1)) (fun x3 => .agg x3.2) (fun s3 => [.box a0, .box [.raw (.slice none 0 0), .i .i64 0], .box [.raw (.slice none 0 0)], .box [.i .i64 s3.1], .box v2.1, .box [.ls 6 s3.2.length], .arr 45 11 0 (s3.2.flatMap eGConnsConn)]) (0, ([] : List GConnsConn)) he3 rfl fn39 rfl (it39_c fn23 rfl (fun _ _ hb => m23_conns_Hello_1s_c hb) hL3) rfl rfl rfl (fun _ => rfl) (fun _ => blkinb_of rfl) ?_ ?_ ?_ ?_
        · clear h
          intro x3 s3 y3 l h w0 S0 X0 H0
          unfold m8_conns_Hello_r3 at h
          refine iregion rfl (fun w0 S0 X0 m0 H0 => ?_)
          refine salloc rfl zi45 ?_
          refine sstore sz45 rfl rfl rfl rfl (Nat.le_of_ble_eq_true rfl) ?_
          refine smem [.box a0, .box [.raw (.slice none 0 0), .i .i64 0], .box [.raw (.slice none 0 0)], .box [.i .i64 s3.1], .box v2.1, .box [.ls 6 s3.2.length], .arr 45 11 0 (s3.2.flatMap eGConnsConn), .box x3.2] rfl ?_
          refine snil ?_
          refine fun w0 S0 X0 H0 => ?_
          refine iblock ?_
          refine iseq ?_
          refine iseq ?_
          refine iregion rfl (fun w0 S0 X0 m0 H0 => ?_)
          refine sv rfl (opv_fieldAddr_lp fi45_2 rfl) ?_
          refine sv rfl (opv_load1 ti3 rfl (.lp _ _ _ rfl) rfl) ?_
          refine sv rfl (opv_load1 ti3 rfl (.cp _) rfl) ?_
          refine sv rfl (opv_geq rfl rfl) ?_
          refine snil ?_
          refine icond rfl (fun hc => ?_) (fun hc => ?_)
          · replace h := ite_t hc h
            clear hc
            refine iseq ?_
            refine iregion rfl (fun w0 S0 X0 m0 H0 => ?_)
            refine sv rfl (opv_build zi26 pi26 parts_nil (.nil _)) ?_
            refine sstore sz26 rfl rfl rfl rfl (Nat.le_of_ble_eq_true rfl) ?_
            refine smem [.box a0, .box [.raw (.slice none 0 0), .i .i64 0], .box [.raw (.slice none 0 0)], .box [.i .i64 s3.1], .box v2.1, .box [.ls 6 s3.2.length], .arr 45 11 0 (s3.2.flatMap eGConnsConn), .box x3.2] rfl ?_
            refine sstore sz24 rfl rfl rfl rfl (Nat.le_of_ble_eq_true rfl) ?_
            refine smem [.box a0, .box [.raw (.slice none 0 0), .i .i64 0], .box [.raw (.slice none 0 0)], .box [.i .i64 s3.1], .box v2.1, .box [.ls 6 s3.2.length], .arr 45 11 0 (s3.2.flatMap eGConnsConn), .box x3.2] rfl ?_
            refine sstore sz29 rfl rfl rfl rfl (Nat.le_of_ble_eq_true rfl) ?_
            refine smem [.box a0, .box [.raw (.slice none 0 0), .i .i64 0], .box [.raw (.slice none 0 0)], .box [.i .i64 14], .box v2.1, .box [.ls 6 s3.2.length], .arr 45 11 0 (s3.2.flatMap eGConnsConn), .box x3.2] rfl ?_
            refine snil ?_
            refine iret ?_
            refine then_ret ?_
            refine block_ret ?_
            obtain rfl := Option.some.inj h
            exact ⟨(14, s3.2), _, rfl, rfl⟩
          · replace h := ite_f hc h
            clear hc
            refine iskip ?_
            refine then_normal ?_
            refine iregion rfl (fun w0 S0 X0 m0 H0 => ?_)
            refine sv rfl (opv_load1 ti24 rfl (.lp _ _ _ rfl) rfl) ?_
            refine sv rfl (opv_loadN ti45 rfl (.lp _ _ _ rfl) (Nat.le_of_ble_eq_true rfl)) ?_
            refine sbuild1 rfl Tryd.underlying24 ei45 rfl rfl (List.all_eq_true.1 rfl) (by decide) ?_
            refine smem [.box a0, .box [.raw (.slice none 0 0), .i .i64 0], .box [.raw (.slice none 0 0)], .box [.i .i64 s3.1], .box v2.1, .box [.ls 6 s3.2.length], .arr 45 11 0 (s3.2.flatMap eGConnsConn), .box x3.2, .arr 45 11 0 ([(GConnsConn.mk x3.2.ID x3.2.Who x3.2.Epoch x3.2.Tx (GStreamStream.mk x3.2.Stream.Buf x3.2.Stream.Dead) (GPipePipe.mk (GSeqsWindow.mk x3.2.Pipe.Win.Base x3.2.Pipe.Win.Bits) x3.2.Pipe.Next x3.2.Pipe.Wait x3.2.Pipe.Past))].flatMap eGConnsConn)] rfl ?_
            obtain ⟨hb4, h⟩ := chk_eq h
            refine sapp (f := eGConnsConn) (xs := s3.2) (us := [(GConnsConn.mk x3.2.ID x3.2.Who x3.2.Epoch x3.2.Tx (GStreamStream.mk x3.2.Stream.Buf x3.2.Stream.Dead) (GPipePipe.mk (GSeqsWindow.mk x3.2.Pipe.Win.Base x3.2.Pipe.Win.Bits) x3.2.Pipe.Next x3.2.Pipe.Wait x3.2.Pipe.Past))]) rfl Tryd.underlying24 ei45 ni24 (fun _ => rfl) rfl rfl (.one _ _ _ _ (.ls _ _ _ _ _ _ rfl (flat_len (f := eGConnsConn) (fun _ => rfl) [(GConnsConn.mk x3.2.ID x3.2.Who x3.2.Epoch x3.2.Tx (GStreamStream.mk x3.2.Stream.Buf x3.2.Stream.Dead) (GPipePipe.mk (GSeqsWindow.mk x3.2.Pipe.Win.Base x3.2.Pipe.Win.Bits) x3.2.Pipe.Next x3.2.Pipe.Wait x3.2.Pipe.Past))]).symm)) rfl rfl rfl (.sl _ _ _ (flat_len (f := eGConnsConn) (fun _ => rfl) _)) rfl rfl hb4 (by decide) ?_
            refine sstore sz24 rfl rfl rfl rfl (Nat.le_of_ble_eq_true rfl) ?_
            refine smem [.box a0, .box [.raw (.slice none 0 0), .i .i64 0], .box [.raw (.slice none 0 0)], .box [.i .i64 s3.1], .box v2.1, .box [.ls 6 (s3.2 ++ [(GConnsConn.mk x3.2.ID x3.2.Who x3.2.Epoch x3.2.Tx (GStreamStream.mk x3.2.Stream.Buf x3.2.Stream.Dead) (GPipePipe.mk (GSeqsWindow.mk x3.2.Pipe.Win.Base x3.2.Pipe.Win.Bits) x3.2.Pipe.Next x3.2.Pipe.Wait x3.2.Pipe.Past))]).length], .arr 45 11 0 ((s3.2 ++ [(GConnsConn.mk x3.2.ID x3.2.Who x3.2.Epoch x3.2.Tx (GStreamStream.mk x3.2.Stream.Buf x3.2.Stream.Dead) (GPipePipe.mk (GSeqsWindow.mk x3.2.Pipe.Win.Base x3.2.Pipe.Win.Bits) x3.2.Pipe.Next x3.2.Pipe.Wait x3.2.Pipe.Past))]).flatMap eGConnsConn), .box x3.2, .arr 45 11 ([(GConnsConn.mk x3.2.ID x3.2.Who x3.2.Epoch x3.2.Tx (GStreamStream.mk x3.2.Stream.Buf x3.2.Stream.Dead) (GPipePipe.mk (GSeqsWindow.mk x3.2.Pipe.Win.Base x3.2.Pipe.Win.Bits) x3.2.Pipe.Next x3.2.Pipe.Wait x3.2.Pipe.Past))].flatMap eGConnsConn).length ([(GConnsConn.mk x3.2.ID x3.2.Who x3.2.Epoch x3.2.Tx (GStreamStream.mk x3.2.Stream.Buf x3.2.Stream.Dead) (GPipePipe.mk (GSeqsWindow.mk x3.2.Pipe.Win.Base x3.2.Pipe.Win.Bits) x3.2.Pipe.Next x3.2.Pipe.Wait x3.2.Pipe.Past))].flatMap eGConnsConn)] rfl ?_
            refine snil0 ?_
            refine block_normal ?_
            obtain rfl := Option.some.inj h
            exact ⟨(s3.1, (s3.2 ++ [(GConnsConn.mk x3.2.ID x3.2.Who x3.2.Epoch x3.2.Tx (GStreamStream.mk x3.2.Stream.Buf x3.2.Stream.Dead) (GPipePipe.mk (GSeqsWindow.mk x3.2.Pipe.Win.Base x3.2.Pipe.Win.Bits) x3.2.Pipe.Next x3.2.Pipe.Wait x3.2.Pipe.Past))])), _, rfl, rfl⟩
        · intro s5 hs
          obtain rfl := hs
          replace h : m8_conns_Hello_k5 a0 a2 a3 v2 s5 = some r := h
          unfold m8_conns_Hello_k5 at h
          refine block_normal ?_
          refine then_normal ?_
          refine iseq ?_
          refine iseq ?_
          refine iregion rfl (fun w0 S0 X0 m0 H0 => ?_)
          refine sv rfl (opv_load1 ti24 rfl (.lp _ _ _ rfl) rfl) ?_
          refine sv rfl (opv_len_ls si24 rfl rfl (flat_len (f := eGConnsConn) (fun _ => rfl) _).symm) ?_
          refine sv rfl (opv_mv rfl) ?_
          refine snil ?_
          refine ijoin ((List GConnsConn) × Int) (fun b6 => [(4, .s (.one (.lp 0 0))), (6, .s (.one (.cp [.i .i64 a2]))), (7, .s (.one (.cp [.i .i64 a3]))), (8, .s (.one (.lp 1 0))), (9, .s (.one (.lp 2 0))), (10, .s (.one (.lp 3 0))), (11, .s (.one (.lp 4 0))), (13, .s (.one (.lp 5 0)))]) (fun b6 => [.box [.sl b6.1.length (b6.1.flatMap eGConnsConn), .i .i64 b6.2], .box [.raw (.slice none 0 0), .i .i64 0], .box [.raw (.slice none 0 0)], .box [.i .i64 s5.1], .box v2.1, .box [.ls 6 s5.2.length], .arr 45 11 0 (s5.2.flatMap eGConnsConn)]) (fun b6 => m8_conns_Hello_k6 a2 a3 v2 s5 b6 = some r) (fun _ _ => inbL_of rfl) (fun _ _ => blkinb_of rfl) (fun _ _ => Nat.le_of_ble_eq_true rfl) (fun b6 h => ?_) ?_
          · unfold m8_conns_Hello_k6 at h
            refine iseq ?_
            refine idraw mixed rfl (fun w0 S0 X0 m0 H0 => cdraw_eD [3, 5] [0, 0, 1, 5, 15, 31] [[.box [.sl b6.1.length (b6.1.flatMap eGConnsConn), .i .i64 b6.2], .box [.raw (.slice none 0 0), .i .i64 0], .box [.raw (.slice none 0 0)], .box [.i .i64 s5.1], .box v2.1, .box [.ls 6 s5.2.length], .arr 45 11 0 (s5.2.flatMap eGConnsConn)], [.box [.sl b6.1.length (b6.1.flatMap eGConnsConn), .i .i64 b6.2], .box [.raw (.slice none 0 0), .i .i64 0], .box [.raw (.slice none 0 0)], .box [.i .i64 s5.1], .box [.i .i64 v2.1.ID, .i .i64 a2, .i .i64 v2.1.Epoch, .i .i64 v2.1.Tx, .sl v2.1.Stream.Buf.length (v2.1.Stream.Buf.flatMap eU8), .i .i64 v2.1.Stream.Dead, .i .i64 v2.1.Pipe.Win.Base, .i .u64 (v2.1.Pipe.Win.Bits.toNat : Int), .i .i64 v2.1.Pipe.Next, .sl v2.1.Pipe.Wait.length (v2.1.Pipe.Wait.flatMap eGMsgReq), .sl v2.1.Pipe.Past.length (v2.1.Pipe.Past.flatMap eGMsgReply)], .box [.ls 6 s5.2.length], .arr 45 11 0 (s5.2.flatMap eGConnsConn)], [.box [.sl b6.1.length (b6.1.flatMap eGConnsConn), .i .i64 b6.2], .box [.raw (.slice none 0 0), .i .i64 0], .box [.raw (.slice none 0 0)], .box [.i .i64 s5.1], .box [.i .i64 v2.1.ID, .i .i64 a2, .i .i64 a3, .i .i64 v2.1.Tx, .sl v2.1.Stream.Buf.length (v2.1.Stream.Buf.flatMap eU8), .i .i64 v2.1.Stream.Dead, .i .i64 v2.1.Pipe.Win.Base, .i .u64 (v2.1.Pipe.Win.Bits.toNat : Int), .i .i64 v2.1.Pipe.Next, .sl v2.1.Pipe.Wait.length (v2.1.Pipe.Wait.flatMap eGMsgReq), .sl v2.1.Pipe.Past.length (v2.1.Pipe.Past.flatMap eGMsgReply)], .box [.ls 6 s5.2.length], .arr 45 11 0 (s5.2.flatMap eGConnsConn)]] (by kernel_rfl) (by kernel_rfl) (by decide) rfl rfl rfl rfl ?_)
            refine ev (sees_at 0 rfl rfl) rfl rfl (opv_load1 ti3 rfl (.cp _) rfl) ?_
            refine ev (sees_all (md := [.box [.sl b6.1.length (b6.1.flatMap eGConnsConn), .i .i64 b6.2], .box [.raw (.slice none 0 0), .i .i64 0], .box [.raw (.slice none 0 0)], .box [.i .i64 s5.1], .dead, .box [.ls 6 s5.2.length], .arr 45 11 0 (s5.2.flatMap eGConnsConn)]) ⟨⟨rfl, ⟨rfl, ⟨rfl, ⟨rfl, ⟨trivial, ⟨rfl, ⟨rfl, trivial⟩⟩⟩⟩⟩⟩⟩, ⟨⟨rfl, ⟨rfl, ⟨rfl, ⟨rfl, ⟨trivial, ⟨rfl, ⟨rfl, trivial⟩⟩⟩⟩⟩⟩⟩, ⟨⟨rfl, ⟨rfl, ⟨rfl, ⟨rfl, ⟨trivial, ⟨rfl, ⟨rfl, trivial⟩⟩⟩⟩⟩⟩⟩, trivial⟩⟩⟩) rfl rfl (opv_load1 ti3 rfl (.cp _) rfl) ?_
            refine ev (sees_at 0 rfl rfl) rfl rfl (opv_fieldAddr_lp fi45_1 rfl) ?_
            refine ee0 0 rfl rfl rfl rfl (fun ζ => ?_) ?_
            · refine sstore sz3 rfl rfl rfl rfl (Nat.le_of_ble_eq_true rfl) ?_
              refine smem [.box [.sl b6.1.length (b6.1.flatMap eGConnsConn), .i .i64 b6.2], .box [.raw (.slice none 0 0), .i .i64 0], .box [.raw (.slice none 0 0)], .box [.i .i64 s5.1], .box [.i .i64 v2.1.ID, .i .i64 a2, .i .i64 v2.1.Epoch, .i .i64 v2.1.Tx, .sl v2.1.Stream.Buf.length (v2.1.Stream.Buf.flatMap eU8), .i .i64 v2.1.Stream.Dead, .i .i64 v2.1.Pipe.Win.Base, .i .u64 (v2.1.Pipe.Win.Bits.toNat : Int), .i .i64 v2.1.Pipe.Next, .sl v2.1.Pipe.Wait.length (v2.1.Pipe.Wait.flatMap eGMsgReq), .sl v2.1.Pipe.Past.length (v2.1.Pipe.Past.flatMap eGMsgReply)], .box [.ls 6 s5.2.length], .arr 45 11 0 (s5.2.flatMap eGConnsConn)] rfl ?_
              exact eend
            refine ev (sees_at 1 rfl rfl) rfl rfl (opv_fieldAddr_lp fi45_2 rfl) ?_
            refine ee0 1 rfl rfl rfl rfl (fun ζ => ?_) ?_
            · refine sstore sz3 rfl rfl rfl rfl (Nat.le_of_ble_eq_true rfl) ?_
              refine smem [.box [.sl b6.1.length (b6.1.flatMap eGConnsConn), .i .i64 b6.2], .box [.raw (.slice none 0 0), .i .i64 0], .box [.raw (.slice none 0 0)], .box [.i .i64 s5.1], .box [.i .i64 v2.1.ID, .i .i64 a2, .i .i64 a3, .i .i64 v2.1.Tx, .sl v2.1.Stream.Buf.length (v2.1.Stream.Buf.flatMap eU8), .i .i64 v2.1.Stream.Dead, .i .i64 v2.1.Pipe.Win.Base, .i .u64 (v2.1.Pipe.Win.Bits.toNat : Int), .i .i64 v2.1.Pipe.Next, .sl v2.1.Pipe.Wait.length (v2.1.Pipe.Wait.flatMap eGMsgReq), .sl v2.1.Pipe.Past.length (v2.1.Pipe.Past.flatMap eGMsgReply)], .box [.ls 6 s5.2.length], .arr 45 11 0 (s5.2.flatMap eGConnsConn)] rfl ?_
              exact eend
            refine enil ?_
            refine then_normal ?_
            refine iseq ?_
            refine iregion rfl (fun w0 S0 X0 m0 H0 => ?_)
            refine sv rfl (opv_loadN ti26 rfl (.lp _ _ _ rfl) (Nat.le_of_ble_eq_true rfl)) ?_
            refine sv rfl (opv_loadN ti45 rfl (.lp _ _ _ rfl) (Nat.le_of_ble_eq_true rfl)) ?_
            obtain ⟨v7, hv7, h⟩ := bind_eq h
            refine scall1 rfl fn14 (opnds_cons rfl (opnds_cons rfl opnds_nil)) (pubA_id rfl) (m14_conns_Set_c hv7) ?_
            refine sv rfl (opv_mvt rfl) ?_
            refine sv rfl (opv_extract rfl rfl) ?_
            refine sv rfl (opv_extract rfl rfl) ?_
            refine sstore sz26 rfl rfl rfl rfl (Nat.le_of_ble_eq_true rfl) ?_
            refine smem [.box v7.1, .box [.raw (.slice none 0 0), .i .i64 0], .box [.raw (.slice none 0 0)], .box [.i .i64 s5.1], .box [.i .i64 v2.1.ID, .i .i64 a2, .i .i64 a3, .i .i64 v2.1.Tx, .sl v2.1.Stream.Buf.length (v2.1.Stream.Buf.flatMap eU8), .i .i64 v2.1.Stream.Dead, .i .i64 v2.1.Pipe.Win.Base, .i .u64 (v2.1.Pipe.Win.Bits.toNat : Int), .i .i64 v2.1.Pipe.Next, .sl v2.1.Pipe.Wait.length (v2.1.Pipe.Wait.flatMap eGMsgReq), .sl v2.1.Pipe.Past.length (v2.1.Pipe.Past.flatMap eGMsgReply)], .box [.ls 6 s5.2.length], .arr 45 11 0 (s5.2.flatMap eGConnsConn)] rfl ?_
            refine sv rfl (opv_as rfl) ?_
            refine snil ?_
            refine iseq ?_
            refine iseq ?_
            refine iregion rfl (fun w0 S0 X0 m0 H0 => ?_)
            refine sv rfl (opv_mv rfl) ?_
            refine sv rfl (opv_ineq rfl rfl) ?_
            refine snil ?_
            refine icond rfl (fun hc => ?_) (fun hc => ?_)
            · replace h := ite_t hc h
              clear hc
              refine iseq ?_
              refine iregion rfl (fun w0 S0 X0 m0 H0 => ?_)
              refine sv rfl (opv_build zi26 pi26 parts_nil (.nil _)) ?_
              refine sv rfl (opv_mv rfl) ?_
              refine sstore sz26 rfl rfl rfl rfl (Nat.le_of_ble_eq_true rfl) ?_
              refine smem [.box v7.1, .box [.raw (.slice none 0 0), .i .i64 0], .box [.raw (.slice none 0 0)], .box [.i .i64 s5.1], .box [.i .i64 v2.1.ID, .i .i64 a2, .i .i64 a3, .i .i64 v2.1.Tx, .sl v2.1.Stream.Buf.length (v2.1.Stream.Buf.flatMap eU8), .i .i64 v2.1.Stream.Dead, .i .i64 v2.1.Pipe.Win.Base, .i .u64 (v2.1.Pipe.Win.Bits.toNat : Int), .i .i64 v2.1.Pipe.Next, .sl v2.1.Pipe.Wait.length (v2.1.Pipe.Wait.flatMap eGMsgReq), .sl v2.1.Pipe.Past.length (v2.1.Pipe.Past.flatMap eGMsgReply)], .box [.ls 6 s5.2.length], .arr 45 11 0 (s5.2.flatMap eGConnsConn)] rfl ?_
              refine sstore sz24 rfl rfl rfl rfl (Nat.le_of_ble_eq_true rfl) ?_
              refine smem [.box v7.1, .box [.raw (.slice none 0 0), .i .i64 0], .box [.raw (.slice none 0 0)], .box [.i .i64 s5.1], .box [.i .i64 v2.1.ID, .i .i64 a2, .i .i64 a3, .i .i64 v2.1.Tx, .sl v2.1.Stream.Buf.length (v2.1.Stream.Buf.flatMap eU8), .i .i64 v2.1.Stream.Dead, .i .i64 v2.1.Pipe.Win.Base, .i .u64 (v2.1.Pipe.Win.Bits.toNat : Int), .i .i64 v2.1.Pipe.Next, .sl v2.1.Pipe.Wait.length (v2.1.Pipe.Wait.flatMap eGMsgReq), .sl v2.1.Pipe.Past.length (v2.1.Pipe.Past.flatMap eGMsgReply)], .box [.ls 6 s5.2.length], .arr 45 11 0 (s5.2.flatMap eGConnsConn)] rfl ?_
              refine sstore sz29 rfl rfl rfl rfl (Nat.le_of_ble_eq_true rfl) ?_
              refine smem [.box v7.1, .box [.raw (.slice none 0 0), .i .i64 0], .box [.raw (.slice none 0 0)], .box [.i .i64 v7.2], .box [.i .i64 v2.1.ID, .i .i64 a2, .i .i64 a3, .i .i64 v2.1.Tx, .sl v2.1.Stream.Buf.length (v2.1.Stream.Buf.flatMap eU8), .i .i64 v2.1.Stream.Dead, .i .i64 v2.1.Pipe.Win.Base, .i .u64 (v2.1.Pipe.Win.Bits.toNat : Int), .i .i64 v2.1.Pipe.Next, .sl v2.1.Pipe.Wait.length (v2.1.Pipe.Wait.flatMap eGMsgReq), .sl v2.1.Pipe.Past.length (v2.1.Pipe.Past.flatMap eGMsgReply)], .box [.ls 6 s5.2.length], .arr 45 11 0 (s5.2.flatMap eGConnsConn)] rfl ?_
              refine snil ?_
              refine iret ?_
              refine then_ret ?_
              obtain rfl := Option.some.inj h
              refine ⟨Or.inr rfl, _, _, _, (resVs_cons (ResV.agg _ _ _ _ _ ti26 rfl (.lp _ _ _ rfl) (Nat.le_of_ble_eq_true rfl)) (resVs_cons (ResV.one _ _ _ _ _ ti24 rfl (.lp _ _ _ rfl) rfl) (resVs_cons (ResV.one _ _ _ _ _ ti29 rfl (.lp _ _ _ rfl) rfl) resVs_nil))), (pubC rfl), ?_⟩
              rfl
            · replace h := ite_f hc h
              clear hc
              refine iskip ?_
              refine then_normal ?_
              refine iseq ?_
              refine idraw mixed rfl (fun w0 S0 X0 m0 H0 => cdraw_eD [2, 3, 4] [0, 0, 1, 7, 15] [[.box v7.1, .box [.raw (.slice none 0 0), .i .i64 0], .box [.raw (.slice none 0 0)], .box [.i .i64 s5.1], .box [.i .i64 v2.1.ID, .i .i64 a2, .i .i64 a3, .i .i64 v2.1.Tx, .sl v2.1.Stream.Buf.length (v2.1.Stream.Buf.flatMap eU8), .i .i64 v2.1.Stream.Dead, .i .i64 v2.1.Pipe.Win.Base, .i .u64 (v2.1.Pipe.Win.Bits.toNat : Int), .i .i64 v2.1.Pipe.Next, .sl v2.1.Pipe.Wait.length (v2.1.Pipe.Wait.flatMap eGMsgReq), .sl v2.1.Pipe.Past.length (v2.1.Pipe.Past.flatMap eGMsgReply)], .box [.ls 6 s5.2.length], .arr 45 11 0 (s5.2.flatMap eGConnsConn)], [.box v7.1, .box v7.1, .box [.raw (.slice none 0 0)], .box [.i .i64 s5.1], .box [.i .i64 v2.1.ID, .i .i64 a2, .i .i64 a3, .i .i64 v2.1.Tx, .sl v2.1.Stream.Buf.length (v2.1.Stream.Buf.flatMap eU8), .i .i64 v2.1.Stream.Dead, .i .i64 v2.1.Pipe.Win.Base, .i .u64 (v2.1.Pipe.Win.Bits.toNat : Int), .i .i64 v2.1.Pipe.Next, .sl v2.1.Pipe.Wait.length (v2.1.Pipe.Wait.flatMap eGMsgReq), .sl v2.1.Pipe.Past.length (v2.1.Pipe.Past.flatMap eGMsgReply)], .box [.ls 6 s5.2.length], .arr 45 11 0 (s5.2.flatMap eGConnsConn)], [.box v7.1, .box v7.1, .box [.ls 6 s5.2.length], .box [.i .i64 s5.1], .box [.i .i64 v2.1.ID, .i .i64 a2, .i .i64 a3, .i .i64 v2.1.Tx, .sl v2.1.Stream.Buf.length (v2.1.Stream.Buf.flatMap eU8), .i .i64 v2.1.Stream.Dead, .i .i64 v2.1.Pipe.Win.Base, .i .u64 (v2.1.Pipe.Win.Bits.toNat : Int), .i .i64 v2.1.Pipe.Next, .sl v2.1.Pipe.Wait.length (v2.1.Pipe.Wait.flatMap eGMsgReq), .sl v2.1.Pipe.Past.length (v2.1.Pipe.Past.flatMap eGMsgReply)], .box [.ls 6 s5.2.length], .arr 45 11 0 (s5.2.flatMap eGConnsConn)], [.box v7.1, .box v7.1, .box [.ls 6 s5.2.length], .box [.i .i64 0], .box [.i .i64 v2.1.ID, .i .i64 a2, .i .i64 a3, .i .i64 v2.1.Tx, .sl v2.1.Stream.Buf.length (v2.1.Stream.Buf.flatMap eU8), .i .i64 v2.1.Stream.Dead, .i .i64 v2.1.Pipe.Win.Base, .i .u64 (v2.1.Pipe.Win.Bits.toNat : Int), .i .i64 v2.1.Pipe.Next, .sl v2.1.Pipe.Wait.length (v2.1.Pipe.Wait.flatMap eGMsgReq), .sl v2.1.Pipe.Past.length (v2.1.Pipe.Past.flatMap eGMsgReply)], .box [.ls 6 s5.2.length], .arr 45 11 0 (s5.2.flatMap eGConnsConn)]] (by kernel_rfl) (by kernel_rfl) (by decide) rfl rfl rfl rfl ?_)
              refine ev (sees_at 0 rfl rfl) rfl rfl (opv_loadN ti26 rfl (.lp _ _ _ rfl) (Nat.le_of_ble_eq_true rfl)) ?_
              refine ev (sees_all (md := [.box v7.1, .dead, .dead, .dead, .box [.i .i64 v2.1.ID, .i .i64 a2, .i .i64 a3, .i .i64 v2.1.Tx, .sl v2.1.Stream.Buf.length (v2.1.Stream.Buf.flatMap eU8), .i .i64 v2.1.Stream.Dead, .i .i64 v2.1.Pipe.Win.Base, .i .u64 (v2.1.Pipe.Win.Bits.toNat : Int), .i .i64 v2.1.Pipe.Next, .sl v2.1.Pipe.Wait.length (v2.1.Pipe.Wait.flatMap eGMsgReq), .sl v2.1.Pipe.Past.length (v2.1.Pipe.Past.flatMap eGMsgReply)], .box [.ls 6 s5.2.length], .arr 45 11 0 (s5.2.flatMap eGConnsConn)]) ⟨⟨rfl, ⟨trivial, ⟨trivial, ⟨trivial, ⟨rfl, ⟨rfl, ⟨rfl, trivial⟩⟩⟩⟩⟩⟩⟩, ⟨⟨rfl, ⟨trivial, ⟨trivial, ⟨trivial, ⟨rfl, ⟨rfl, ⟨rfl, trivial⟩⟩⟩⟩⟩⟩⟩, ⟨⟨rfl, ⟨trivial, ⟨trivial, ⟨trivial, ⟨rfl, ⟨rfl, ⟨rfl, trivial⟩⟩⟩⟩⟩⟩⟩, ⟨⟨rfl, ⟨trivial, ⟨trivial, ⟨trivial, ⟨rfl, ⟨rfl, ⟨rfl, trivial⟩⟩⟩⟩⟩⟩⟩, trivial⟩⟩⟩⟩) rfl rfl (opv_load1 ti24 rfl (.lp _ _ _ rfl) rfl) ?_
              refine ee0 0 rfl rfl rfl rfl (fun ζ => ?_) ?_
              · refine sstore sz26 rfl rfl rfl rfl (Nat.le_of_ble_eq_true rfl) ?_
                refine smem [.box v7.1, .box v7.1, .box [.raw (.slice none 0 0)], .box [.i .i64 s5.1], .box [.i .i64 v2.1.ID, .i .i64 a2, .i .i64 a3, .i .i64 v2.1.Tx, .sl v2.1.Stream.Buf.length (v2.1.Stream.Buf.flatMap eU8), .i .i64 v2.1.Stream.Dead, .i .i64 v2.1.Pipe.Win.Base, .i .u64 (v2.1.Pipe.Win.Bits.toNat : Int), .i .i64 v2.1.Pipe.Next, .sl v2.1.Pipe.Wait.length (v2.1.Pipe.Wait.flatMap eGMsgReq), .sl v2.1.Pipe.Past.length (v2.1.Pipe.Past.flatMap eGMsgReply)], .box [.ls 6 s5.2.length], .arr 45 11 0 (s5.2.flatMap eGConnsConn)] rfl ?_
                exact eend
              refine ee0 1 rfl rfl rfl rfl (fun ζ => ?_) ?_
              · refine sstore sz24 rfl rfl rfl rfl (Nat.le_of_ble_eq_true rfl) ?_
                refine smem [.box v7.1, .box v7.1, .box [.ls 6 s5.2.length], .box [.i .i64 s5.1], .box [.i .i64 v2.1.ID, .i .i64 a2, .i .i64 a3, .i .i64 v2.1.Tx, .sl v2.1.Stream.Buf.length (v2.1.Stream.Buf.flatMap eU8), .i .i64 v2.1.Stream.Dead, .i .i64 v2.1.Pipe.Win.Base, .i .u64 (v2.1.Pipe.Win.Bits.toNat : Int), .i .i64 v2.1.Pipe.Next, .sl v2.1.Pipe.Wait.length (v2.1.Pipe.Wait.flatMap eGMsgReq), .sl v2.1.Pipe.Past.length (v2.1.Pipe.Past.flatMap eGMsgReply)], .box [.ls 6 s5.2.length], .arr 45 11 0 (s5.2.flatMap eGConnsConn)] rfl ?_
                exact eend
              refine ee0 2 rfl rfl rfl rfl (fun ζ => ?_) ?_
              · refine sstore sz29 rfl rfl rfl rfl (Nat.le_of_ble_eq_true rfl) ?_
                refine smem [.box v7.1, .box v7.1, .box [.ls 6 s5.2.length], .box [.i .i64 0], .box [.i .i64 v2.1.ID, .i .i64 a2, .i .i64 a3, .i .i64 v2.1.Tx, .sl v2.1.Stream.Buf.length (v2.1.Stream.Buf.flatMap eU8), .i .i64 v2.1.Stream.Dead, .i .i64 v2.1.Pipe.Win.Base, .i .u64 (v2.1.Pipe.Win.Bits.toNat : Int), .i .i64 v2.1.Pipe.Next, .sl v2.1.Pipe.Wait.length (v2.1.Pipe.Wait.flatMap eGMsgReq), .sl v2.1.Pipe.Past.length (v2.1.Pipe.Past.flatMap eGMsgReply)], .box [.ls 6 s5.2.length], .arr 45 11 0 (s5.2.flatMap eGConnsConn)] rfl ?_
                exact eend
              refine enil ?_
              refine then_normal ?_
              refine iret ?_
              obtain rfl := Option.some.inj h
              refine ⟨Or.inr rfl, _, _, _, (resVs_cons (ResV.agg _ _ _ _ _ ti26 rfl (.lp _ _ _ rfl) (Nat.le_of_ble_eq_true rfl)) (resVs_cons (ResV.one _ _ _ _ _ ti24 rfl (.lp _ _ _ rfl) rfl) (resVs_cons (ResV.one _ _ _ _ _ ti29 rfl (.lp _ _ _ rfl) rfl) resVs_nil))), (by (repeat' first | exact PubA.nil _ | apply PubA.cons | apply PubV.one | apply PubV.agg | exact PubL.nil | exact PubL.ls _ _ _ _ _ _ rfl (flat_len (f := eGConnsConn) (fun _ => rfl) _).symm | exact PubL.id _ rfl | exact PubLs.nil _ | apply PubLs.cons)), ?_⟩
              rfl
          · skip
            refine iblock ?_
            obtain ⟨x8, hx8, ho8⟩ := bind_eq h
            refine iloop (G := Nat × (Int × (List GConnsConn) × Int)) (fun g => [(4, .s (.one (.lp 0 0))), (6, .s (.one (.cp [.i .i64 a2]))), (7, .s (.one (.cp [.i .i64 a3]))), (8, .s (.one (.lp 1 0))), (9, .s (.one (.lp 2 0))), (10, .s (.one (.lp 3 0))), (11, .s (.one (.lp 4 0))), (13, .s (.one (.lp 5 0))), (60, .s (.one (.ls 6 s5.2.length))), (61, .s (.one (.i .i64 (s5.2.length : Int)))), (62, .s (.one (.i .i64 g.2.1)))]) (fun g => [.box [.sl g.2.2.1.length (g.2.2.1.flatMap eGConnsConn), .i .i64 g.2.2.2], .box [.raw (.slice none 0 0), .i .i64 0], .box [.raw (.slice none 0 0)], .box [.i .i64 s5.1], .box v2.1, .box [.ls 6 s5.2.length], .arr 45 11 0 (s5.2.flatMap eGConnsConn)]) (fun g => iterB (m8_conns_Hello_s8 s5) g.1 g.2 = some x8) (fun g => g.1) (fuel, (0, a0.L, a0.Next)) hx8 ⟨rfl, rfl, rfl, rfl, rfl, rfl, rfl, rfl, rfl, rfl, rfl, trivial⟩ [] rfl (fun _ _ => inbL_of rfl) (fun _ _ => blkinb_of rfl) (fun _ _ => Nat.le_of_ble_eq_true rfl) ?_
            clear hx8 h
            rintro ⟨n8, s8⟩ h
            obtain ⟨n8, y8, rfl, h, hk8⟩ := iterB_eq h
            unfold m8_conns_Hello_s8 at h
            refine iseq ?_
            refine iregion rfl (fun w0 S0 X0 m0 H0 => ?_)
            refine sv rfl (opv_lss rfl rfl) ?_
            refine snil ?_
            refine iseq ?_
            refine icond rfl (fun hc => ?_) (fun hc => ?_)
            · replace h := ite_t hc h
              clear hc
              refine iskip ?_
              refine then_normal ?_
              refine iseq ?_
              refine iblock ?_
              refine iseq ?_
              refine iregion rfl (fun w0 S0 X0 m0 H0 => ?_)
              obtain ⟨u9, hu9, h⟩ := bind_eq h
              refine sv rfl (opv_ixo (f := eGConnsConn) si24 (fun _ => rfl) rfl rfl rfl rfl rfl hu9) ?_
              refine sv rfl (opv_ldNo (f := eGConnsConn) (sz := 11) 0 ti45 (fun _ => rfl) rfl rfl rfl rfl (idx_eq hu9).2 (Nat.le_of_ble_eq_true rfl) rfl) ?_
              refine salloc rfl zi45 ?_
              refine sstore sz45 rfl rfl rfl rfl (Nat.le_of_ble_eq_true rfl) ?_
              refine smem [.box [.sl s8.2.1.length (s8.2.1.flatMap eGConnsConn), .i .i64 s8.2.2], .box [.raw (.slice none 0 0), .i .i64 0], .box [.raw (.slice none 0 0)], .box [.i .i64 s5.1], .box v2.1, .box [.ls 6 s5.2.length], .arr 45 11 0 (s5.2.flatMap eGConnsConn), .box u9] rfl ?_
              refine snil ?_
              refine iregion rfl (fun w0 S0 X0 m0 H0 => ?_)
              refine sv rfl (opv_loadN ti26 rfl (.lp _ _ _ rfl) (Nat.le_of_ble_eq_true rfl)) ?_
              refine sv rfl (opv_fieldAddr_lp fi45_0 rfl) ?_
              refine sv rfl (opv_load1 ti3 rfl (.lp _ _ _ rfl) rfl) ?_
              obtain ⟨v10, hv10, h⟩ := bind_eq h
              refine scall1 rfl fn9 (opnds_cons rfl (opnds_cons rfl opnds_nil)) (pubA_id rfl) (m9_conns_Close_c hv10) ?_
              refine sv rfl (opv_mvt rfl) ?_
              refine sv rfl (opv_extract rfl rfl) ?_
              refine sv rfl (opv_extract rfl rfl) ?_
              refine sv rfl (opv_extract rfl rfl) ?_
              refine sstore sz26 rfl rfl rfl rfl (Nat.le_of_ble_eq_true rfl) ?_
              refine smem [.box v10.1, .box [.raw (.slice none 0 0), .i .i64 0], .box [.raw (.slice none 0 0)], .box [.i .i64 s5.1], .box v2.1, .box [.ls 6 s5.2.length], .arr 45 11 0 (s5.2.flatMap eGConnsConn), .box u9] rfl ?_
              refine snil0 ?_
              refine block_normal ?_
              refine then_normal ?_
              refine iregion rfl (fun w0 S0 X0 m0 H0 => ?_)
              refine sv rfl (opv_add rfl rfl) ?_
              refine sv rfl (opv_mv rfl) ?_
              refine snil ?_
              obtain rfl := Option.some.inj h
              exact ⟨(n8, ((wI (s8.1 + 1)), v10.1.L, v10.1.Next)), _, hk8, ⟨rfl, rfl, rfl, rfl, rfl, rfl, rfl, rfl, rfl, rfl, rfl, trivial⟩, rfl, Nat.lt_succ_self _⟩
            · replace h := ite_f hc h
              clear hc
              refine iexit ?_
              refine then_exit ?_
              refine then_exit ?_
              refine block_hit ?_
              refine then_normal ?_
              obtain rfl := Option.some.inj h
              obtain rfl : _ = x8 := hk8
              exact ⟨(s8.2.1, s8.2.2), _, ho8, ⟨rfl, rfl, rfl, rfl, rfl, rfl, rfl, rfl, trivial⟩, rfl⟩
        · intro s12 hs
          obtain rfl := hs
          replace h : m8_conns_Hello_k12 s12 = some r := h
          unfold m8_conns_Hello_k12 at h
          refine block_ret ?_
          refine then_ret ?_
          obtain rfl := Option.some.inj h
          refine ⟨Or.inr rfl, _, _, _, (resVs_cons (ResV.agg _ _ _ _ _ ti26 rfl (.lp _ _ _ rfl) (Nat.le_of_ble_eq_true rfl)) (resVs_cons (ResV.one _ _ _ _ _ ti24 rfl (.lp _ _ _ rfl) rfl) (resVs_cons (ResV.one _ _ _ _ _ ti29 rfl (.lp _ _ _ rfl) rfl) resVs_nil))), (pubC rfl), ?_⟩
          rfl
        · intro id s hs
          obtain rfl := hs
          replace h : none = some r := h
          cases h
  · skip
    refine iregion rfl (fun w0 S0 X0 m0 H0 => ?_)
    refine sv rfl (opv_loadN ti26 rfl (.lp _ _ _ rfl) (Nat.le_of_ble_eq_true rfl)) ?_
    obtain ⟨v13, hv13, h⟩ := bind_eq h
    refine scall1 rfl fn10 (opnds_cons rfl opnds_nil) (pubA_id rfl) (m10_conns_Sane_c hv13) ?_
    refine sv rfl (opv_not rfl) ?_
    refine sv rfl (opv_mv rfl) ?_
    refine ssplit 22 rfl (fun hc => ?_) (fun hc => ?_)
    · replace h := ite_t hc h
      clear hc
      refine soff rfl rfl rfl rfl ?_
      refine soff rfl rfl rfl rfl ?_
      refine soff rfl rfl rfl rfl ?_
      refine sv rfl (opv_pick_t rfl rfl) ?_
      refine sv rfl (opv_mv rfl) ?_
      refine soff rfl rfl rfl rfl ?_
      refine soff rfl rfl rfl rfl ?_
      refine soff rfl rfl rfl rfl ?_
      refine sv rfl (opv_pick_t rfl rfl) ?_
      refine snil ?_
      refine icond rfl (fun _ => ?_) (fun hx => Bool.noConfusion hx)
      refine iseq ?_
      refine iregion rfl (fun w0 S0 X0 m0 H0 => ?_)
      refine sv rfl (opv_build zi26 pi26 parts_nil (.nil _)) ?_
      refine sstore sz26 rfl rfl rfl rfl (Nat.le_of_ble_eq_true rfl) ?_
      refine smem [.box a0, .box [.raw (.slice none 0 0), .i .i64 0], .box [.raw (.slice none 0 0)], .box [.i .i64 0]] rfl ?_
      refine sstore sz24 rfl rfl rfl rfl (Nat.le_of_ble_eq_true rfl) ?_
      refine smem [.box a0, .box [.raw (.slice none 0 0), .i .i64 0], .box [.raw (.slice none 0 0)], .box [.i .i64 0]] rfl ?_
      refine sstore sz29 rfl rfl rfl rfl (Nat.le_of_ble_eq_true rfl) ?_
      refine smem [.box a0, .box [.raw (.slice none 0 0), .i .i64 0], .box [.raw (.slice none 0 0)], .box [.i .i64 1]] rfl ?_
      refine snil ?_
      refine iret ?_
      refine then_ret ?_
      obtain rfl := Option.some.inj h
      refine ⟨Or.inr rfl, _, _, _, (resVs_cons (ResV.agg _ _ _ _ _ ti26 rfl (.lp _ _ _ rfl) (Nat.le_of_ble_eq_true rfl)) (resVs_cons (ResV.one _ _ _ _ _ ti24 rfl (.lp _ _ _ rfl) rfl) (resVs_cons (ResV.one _ _ _ _ _ ti29 rfl (.lp _ _ _ rfl) rfl) resVs_nil))), (pubC rfl), ?_⟩
      rfl
    · replace h := ite_f hc h
      clear hc
      refine son rfl rfl rfl ?_
      refine sv rfl (opv_load1 ti3 rfl (.cp _) rfl) ?_
      refine son rfl rfl rfl ?_
      obtain ⟨v14, hv14, h⟩ := bind_eq h
      refine scall1 rfl fn21 (opnds_cons rfl (opnds_cons rfl opnds_nil)) (pubA_id rfl) (m21_conns_within_c hv14) ?_
      refine son rfl rfl rfl ?_
      refine sv rfl (opv_not rfl) ?_
      refine sv rfl (opv_pick_f rfl rfl) ?_
      refine sv rfl (opv_mv rfl) ?_
      refine ssplit 27 rfl (fun hc => ?_) (fun hc => ?_)
      · replace h := ite_t hc h
        clear hc
        refine soff rfl rfl rfl rfl ?_
        refine soff rfl rfl rfl rfl ?_
        refine soff rfl rfl rfl rfl ?_
        refine sv rfl (opv_pick_t rfl rfl) ?_
        refine snil ?_
        refine icond rfl (fun _ => ?_) (fun hx => Bool.noConfusion hx)
        refine iseq ?_
        refine iregion rfl (fun w0 S0 X0 m0 H0 => ?_)
        refine sv rfl (opv_build zi26 pi26 parts_nil (.nil _)) ?_
        refine sstore sz26 rfl rfl rfl rfl (Nat.le_of_ble_eq_true rfl) ?_
        refine smem [.box a0, .box [.raw (.slice none 0 0), .i .i64 0], .box [.raw (.slice none 0 0)], .box [.i .i64 0]] rfl ?_
        refine sstore sz24 rfl rfl rfl rfl (Nat.le_of_ble_eq_true rfl) ?_
        refine smem [.box a0, .box [.raw (.slice none 0 0), .i .i64 0], .box [.raw (.slice none 0 0)], .box [.i .i64 0]] rfl ?_
        refine sstore sz29 rfl rfl rfl rfl (Nat.le_of_ble_eq_true rfl) ?_
        refine smem [.box a0, .box [.raw (.slice none 0 0), .i .i64 0], .box [.raw (.slice none 0 0)], .box [.i .i64 1]] rfl ?_
        refine snil ?_
        refine iret ?_
        refine then_ret ?_
        obtain rfl := Option.some.inj h
        refine ⟨Or.inr rfl, _, _, _, (resVs_cons (ResV.agg _ _ _ _ _ ti26 rfl (.lp _ _ _ rfl) (Nat.le_of_ble_eq_true rfl)) (resVs_cons (ResV.one _ _ _ _ _ ti24 rfl (.lp _ _ _ rfl) rfl) (resVs_cons (ResV.one _ _ _ _ _ ti29 rfl (.lp _ _ _ rfl) rfl) resVs_nil))), (pubC rfl), ?_⟩
        rfl
      · replace h := ite_f hc h
        clear hc
        refine son rfl rfl rfl ?_
        refine sv rfl (opv_load1 ti3 rfl (.cp _) rfl) ?_
        refine son rfl rfl rfl ?_
        obtain ⟨v15, hv15, h⟩ := bind_eq h
        refine scall1 rfl fn21 (opnds_cons rfl (opnds_cons rfl opnds_nil)) (pubA_id rfl) (m21_conns_within_c hv15) ?_
        refine son rfl rfl rfl ?_
        refine sv rfl (opv_not rfl) ?_
        refine sv rfl (opv_pick_f rfl rfl) ?_
        refine snil ?_
        refine icond rfl (fun hc => ?_) (fun hc => ?_)
        · replace h := ite_t hc h
          clear hc
          refine iseq ?_
          refine iregion rfl (fun w0 S0 X0 m0 H0 => ?_)
          refine sv rfl (opv_build zi26 pi26 parts_nil (.nil _)) ?_
          refine sstore sz26 rfl rfl rfl rfl (Nat.le_of_ble_eq_true rfl) ?_
          refine smem [.box a0, .box [.raw (.slice none 0 0), .i .i64 0], .box [.raw (.slice none 0 0)], .box [.i .i64 0]] rfl ?_
          refine sstore sz24 rfl rfl rfl rfl (Nat.le_of_ble_eq_true rfl) ?_
          refine smem [.box a0, .box [.raw (.slice none 0 0), .i .i64 0], .box [.raw (.slice none 0 0)], .box [.i .i64 0]] rfl ?_
          refine sstore sz29 rfl rfl rfl rfl (Nat.le_of_ble_eq_true rfl) ?_
          refine smem [.box a0, .box [.raw (.slice none 0 0), .i .i64 0], .box [.raw (.slice none 0 0)], .box [.i .i64 1]] rfl ?_
          refine snil ?_
          refine iret ?_
          refine then_ret ?_
          obtain rfl := Option.some.inj h
          refine ⟨Or.inr rfl, _, _, _, (resVs_cons (ResV.agg _ _ _ _ _ ti26 rfl (.lp _ _ _ rfl) (Nat.le_of_ble_eq_true rfl)) (resVs_cons (ResV.one _ _ _ _ _ ti24 rfl (.lp _ _ _ rfl) rfl) (resVs_cons (ResV.one _ _ _ _ _ ti29 rfl (.lp _ _ _ rfl) rfl) resVs_nil))), (pubC rfl), ?_⟩
          rfl
        · replace h := ite_f hc h
          clear hc
          refine iskip ?_
          refine then_normal ?_
          exact ⟨(), _, h, ⟨rfl, rfl, rfl, rfl, rfl, rfl, rfl, trivial⟩, rfl⟩

def m6_l17_awake  : Option Bool :=
  (m7_conns_Open (GConnsTable.mk ([] : List GConnsConn) 0)).bind fun v1 => (m7_conns_Open v1.1).bind fun v2 => (m8_conns_Hello (GConnsTable.mk v2.1.L v2.1.Next) v1.2.1 7 1).bind fun v3 => (m8_conns_Hello v3.1 v2.2.1 7 2).bind fun v4 => (m8_conns_Hello v3.1 v2.2.1 7 1).bind fun v5 => if (decide (v1.2.2 = 0)) then (if (decide (v2.2.2 = 0)) then (if (decide (v3.2.2 = 0)) then (if (decide (v4.2.2 = 0)) then (if (decide (v5.2.2 = 14)) then (if (decide ((v4.2.1.length : Int) = 1)) then ((idx v4.2.1 0).bind fun u6 => if (decide (u6.ID = v1.2.1)) then (if (decide ((v4.1.L.length : Int) = 1)) then ((idx v4.1.L 0).bind fun u7 => some (decide (u7.ID = v2.2.1))) else (some false)) else (some false)) else (some false)) else (some false)) else (some false)) else (some false)) else (some false)) else (some false)

set_option maxRecDepth 100000 in
theorem m6_l17_awake_c  {r : Bool} (h : m6_l17_awake = some r) : CallsA Tryd.prog 6 [] (· = .s (.one (.b r))) := by
  unfold m6_l17_awake at h
  refine callsA_of Tryd.func6 rfl (nt := 93) rfl (Nat.le_of_ble_eq_true rfl) ?_
  intro w0 S0
  refine cseq ?_
  refine cregion ?_
  refine sv rfl (opv_as rfl) ?_
  refine snil ?_
  refine cseq ?_
  refine cregion ?_
  refine sv rfl (opv_build zi26 pi26 parts_nil (.nil _)) ?_
  obtain ⟨v1, hv1, h⟩ := bind_eq h
  refine scall1 rfl fn7 (opnds_cons rfl opnds_nil) (pubC rfl) (m7_conns_Open_c hv1) ?_
  refine sv rfl (opv_mvt rfl) ?_
  refine sv rfl (opv_extract rfl rfl) ?_
  refine sv rfl (opv_extract rfl rfl) ?_
  refine sv rfl (opv_extract rfl rfl) ?_
  refine salloc rfl zi26 ?_
  refine sstore sz26 rfl rfl rfl rfl (Nat.le_of_ble_eq_true rfl) ?_
  refine smem [.box v1.1] rfl ?_
  refine sv rfl (opv_as rfl) ?_
  refine sv rfl (opv_as rfl) ?_
  refine snil ?_
  refine cseq ?_
  refine cregion ?_
  refine sv rfl (opv_loadN ti26 rfl (.lp _ _ _ rfl) (Nat.le_of_ble_eq_true rfl)) ?_
  obtain ⟨v2, hv2, h⟩ := bind_eq h
  refine scall1 rfl fn7 (opnds_cons rfl opnds_nil) (pubA_id rfl) (m7_conns_Open_c hv2) ?_
  refine sv rfl (opv_mvt rfl) ?_
  refine sv rfl (opv_extract rfl rfl) ?_
  refine sv rfl (opv_extract rfl rfl) ?_
  refine sv rfl (opv_extract rfl rfl) ?_
  refine sstore sz26 rfl rfl rfl rfl (Nat.le_of_ble_eq_true rfl) ?_
  refine smem [.box v2.1] rfl ?_
  refine sv rfl (opv_as rfl) ?_
  refine sv rfl (opv_as rfl) ?_
  refine snil ?_
  refine cseq ?_
  refine cregion ?_
  refine sv rfl (opv_loadN ti26 rfl (.lp _ _ _ rfl) (Nat.le_of_ble_eq_true rfl)) ?_
  refine sv rfl (opv_mv rfl) ?_
  obtain ⟨v3, hv3, h⟩ := bind_eq h
  refine scall1 rfl fn8 (opnds_cons rfl (opnds_cons rfl (opnds_cons rfl (opnds_cons rfl opnds_nil)))) (pubA_id rfl) (m8_conns_Hello_c hv3) ?_
  refine sv rfl (opv_mvt rfl) ?_
  refine sv rfl (opv_extract rfl rfl) ?_
  refine sv rfl (opv_extract rfl rfl) ?_
  refine sv rfl (opv_extract rfl rfl) ?_
  refine sstore sz26 rfl rfl rfl rfl (Nat.le_of_ble_eq_true rfl) ?_
  refine smem [.box v3.1] rfl ?_
  refine sv rfl (opv_as rfl) ?_
  refine sv rfl (opv_as rfl) ?_
  refine snil ?_
  refine cseq ?_
  refine cregion ?_
  refine sv rfl (opv_loadN ti26 rfl (.lp _ _ _ rfl) (Nat.le_of_ble_eq_true rfl)) ?_
  refine sv rfl (opv_mv rfl) ?_
  obtain ⟨v4, hv4, h⟩ := bind_eq h
  refine scall1 rfl fn8 (opnds_cons rfl (opnds_cons rfl (opnds_cons rfl (opnds_cons rfl opnds_nil)))) (pubA_id rfl) (m8_conns_Hello_c hv4) ?_
  refine sv rfl (opv_mvt rfl) ?_
  refine sv rfl (opv_extract rfl rfl) ?_
  refine sv rfl (opv_extract rfl rfl) ?_
  refine sv rfl (opv_extract rfl rfl) ?_
  refine salloc rfl zi26 ?_
  refine sstore sz26 rfl rfl rfl rfl (Nat.le_of_ble_eq_true rfl) ?_
  refine smem [.box v3.1, .box v4.1] rfl ?_
  refine sv rfl (opv_as rfl) ?_
  refine sv rfl (opv_as rfl) ?_
  refine snil ?_
  refine cseq ?_
  refine cregion ?_
  refine sv rfl (opv_loadN ti26 rfl (.lp _ _ _ rfl) (Nat.le_of_ble_eq_true rfl)) ?_
  refine sv rfl (opv_mv rfl) ?_
  obtain ⟨v5, hv5, h⟩ := bind_eq h
  refine scall1 rfl fn8 (opnds_cons rfl (opnds_cons rfl (opnds_cons rfl (opnds_cons rfl opnds_nil)))) (pubA_id rfl) (m8_conns_Hello_c hv5) ?_
  refine sv rfl (opv_mvt rfl) ?_
  refine sv rfl (opv_extract rfl rfl) ?_
  refine sv rfl (opv_extract rfl rfl) ?_
  refine sv rfl (opv_extract rfl rfl) ?_
  refine salloc rfl zi26 ?_
  refine sstore sz26 rfl rfl rfl rfl (Nat.le_of_ble_eq_true rfl) ?_
  refine smem [.box v3.1, .box v4.1, .box v5.1] rfl ?_
  refine sv rfl (opv_as rfl) ?_
  refine sv rfl (opv_as rfl) ?_
  refine snil ?_
  refine cseq ?_
  refine cregion ?_
  refine sv rfl (opv_mv rfl) ?_
  refine sv rfl (opv_ieql rfl rfl) ?_
  refine sv rfl (opv_mv rfl) ?_
  refine ssplit 49 rfl (fun hc => ?_) (fun hc => ?_)
  · replace h := ite_t hc h
    clear hc
    refine son rfl rfl rfl ?_
    refine sv rfl (opv_mv rfl) ?_
    refine son rfl rfl rfl ?_
    refine sv rfl (opv_ieql rfl rfl) ?_
    refine sv rfl (opv_pick_t rfl rfl) ?_
    refine sv rfl (opv_mv rfl) ?_
    refine ssplit 53 rfl (fun hc => ?_) (fun hc => ?_)
    · replace h := ite_t hc h
      clear hc
      refine son rfl rfl rfl ?_
      refine sv rfl (opv_mv rfl) ?_
      refine son rfl rfl rfl ?_
      refine sv rfl (opv_ieql rfl rfl) ?_
      refine sv rfl (opv_pick_t rfl rfl) ?_
      refine sv rfl (opv_mv rfl) ?_
      refine ssplit 57 rfl (fun hc => ?_) (fun hc => ?_)
      · replace h := ite_t hc h
        clear hc
        refine son rfl rfl rfl ?_
        refine sv rfl (opv_mv rfl) ?_
        refine son rfl rfl rfl ?_
        refine sv rfl (opv_ieql rfl rfl) ?_
        refine sv rfl (opv_pick_t rfl rfl) ?_
        refine sv rfl (opv_mv rfl) ?_
        refine ssplit 61 rfl (fun hc => ?_) (fun hc => ?_)
        · replace h := ite_t hc h
          clear hc
          refine son rfl rfl rfl ?_
          refine sv rfl (opv_mv rfl) ?_
          refine son rfl rfl rfl ?_
          refine sv rfl (opv_ieql rfl rfl) ?_
          refine sv rfl (opv_pick_t rfl rfl) ?_
          refine sv rfl (opv_mv rfl) ?_
          refine ssplit 65 rfl (fun hc => ?_) (fun hc => ?_)
          · replace h := ite_t hc h
            clear hc
            refine son rfl rfl rfl ?_
            refine sv rfl (opv_mv rfl) ?_
            refine son rfl rfl rfl ?_
            refine sv rfl (opv_len_sl si24 rfl) ?_
            refine son rfl rfl rfl ?_
            refine sv rfl (opv_ieql rfl rfl) ?_
            refine sv rfl (opv_pick_t rfl rfl) ?_
            refine sv rfl (opv_mv rfl) ?_
            refine ssplit 70 rfl (fun hc => ?_) (fun hc => ?_)
            · replace h := ite_t hc h
              clear hc
              refine son rfl rfl rfl ?_
              refine sv rfl (opv_mv rfl) ?_
              refine son rfl rfl rfl ?_
              obtain ⟨u6, hu6, h⟩ := bind_eq h
              refine sv rfl (opv_ix (f := eGConnsConn) si24 (fun _ => rfl) rfl rfl rfl rfl hu6) ?_
              refine son rfl rfl rfl ?_
              refine sv rfl (opv_fieldAddr_cp fi45_0 rfl) ?_
              refine son rfl rfl rfl ?_
              refine sv rfl (opv_load1 ti3 rfl (.cp _) rfl) ?_
              refine son rfl rfl rfl ?_
              refine sv rfl (opv_mv rfl) ?_
              refine son rfl rfl rfl ?_
              refine sv rfl (opv_ieql rfl rfl) ?_
              refine sv rfl (opv_pick_t rfl rfl) ?_
              refine sv rfl (opv_mv rfl) ?_
              refine ssplit 78 rfl (fun hc => ?_) (fun hc => ?_)
              · replace h := ite_t hc h
                clear hc
                refine son rfl rfl rfl ?_
                refine sv rfl (opv_fieldAddr_lp fi26_0 rfl) ?_
                refine son rfl rfl rfl ?_
                refine sv rfl (opv_load1 ti24 rfl (.lp _ _ _ rfl) rfl) ?_
                refine son rfl rfl rfl ?_
                refine sv rfl (opv_len_sl si24 rfl) ?_
                refine son rfl rfl rfl ?_
                refine sv rfl (opv_ieql rfl rfl) ?_
                refine sv rfl (opv_pick_t rfl rfl) ?_
                refine sv rfl (opv_mv rfl) ?_
                refine ssplit 84 rfl (fun hc => ?_) (fun hc => ?_)
                · replace h := ite_t hc h
                  clear hc
                  refine son rfl rfl rfl ?_
                  refine sv rfl (opv_fieldAddr_lp fi26_0 rfl) ?_
                  refine son rfl rfl rfl ?_
                  refine sv rfl (opv_load1 ti24 rfl (.lp _ _ _ rfl) rfl) ?_
                  refine son rfl rfl rfl ?_
                  obtain ⟨u7, hu7, h⟩ := bind_eq h
                  refine sv rfl (opv_ix (f := eGConnsConn) si24 (fun _ => rfl) rfl rfl rfl rfl hu7) ?_
                  refine son rfl rfl rfl ?_
                  refine sv rfl (opv_fieldAddr_cp fi45_0 rfl) ?_
                  refine son rfl rfl rfl ?_
                  refine sv rfl (opv_load1 ti3 rfl (.cp _) rfl) ?_
                  refine son rfl rfl rfl ?_
                  refine sv rfl (opv_mv rfl) ?_
                  refine son rfl rfl rfl ?_
                  refine sv rfl (opv_ieql rfl rfl) ?_
                  refine sv rfl (opv_pick_t rfl rfl) ?_
                  refine sv rfl (opv_as rfl) ?_
                  refine snil ?_
                  refine cret ?_
                  obtain rfl := Option.some.inj h
                  refine ⟨Or.inr rfl, _, _, _, (resVs_cons (ResV.tmp _ _ rfl) resVs_nil), (pubA_id rfl), ?_⟩
                  rfl
                · replace h := ite_f hc h
                  clear hc
                  refine soff rfl rfl rfl rfl ?_
                  refine soff rfl rfl rfl rfl ?_
                  refine soff rfl rfl rfl rfl ?_
                  refine soff rfl rfl rfl rfl ?_
                  refine soff rfl rfl rfl rfl ?_
                  refine soff rfl rfl rfl rfl ?_
                  refine soff rfl rfl rfl rfl ?_
                  refine sv rfl (opv_pick_f rfl rfl) ?_
                  refine sv rfl (opv_as rfl) ?_
                  refine snil ?_
                  refine cret ?_
                  obtain rfl := Option.some.inj h
                  refine ⟨Or.inr rfl, _, _, _, (resVs_cons (ResV.tmp _ _ rfl) resVs_nil), (pubA_id rfl), ?_⟩
                  rfl
              · replace h := ite_f hc h
                clear hc
                refine soff rfl rfl rfl rfl ?_
                refine soff rfl rfl rfl rfl ?_
                refine soff rfl rfl rfl rfl ?_
                refine soff rfl rfl rfl rfl ?_
                refine sv rfl (opv_pick_f rfl rfl) ?_
                refine sv rfl (opv_mv rfl) ?_
                refine soff rfl rfl rfl rfl ?_
                refine soff rfl rfl rfl rfl ?_
                refine soff rfl rfl rfl rfl ?_
                refine soff rfl rfl rfl rfl ?_
                refine soff rfl rfl rfl rfl ?_
                refine soff rfl rfl rfl rfl ?_
                refine soff rfl rfl rfl rfl ?_
                refine sv rfl (opv_pick_f rfl rfl) ?_
                refine sv rfl (opv_as rfl) ?_
                refine snil ?_
                refine cret ?_
                obtain rfl := Option.some.inj h
                refine ⟨Or.inr rfl, _, _, _, (resVs_cons (ResV.tmp _ _ rfl) resVs_nil), (pubA_id rfl), ?_⟩
                rfl
            · replace h := ite_f hc h
              clear hc
              refine soff rfl rfl rfl rfl ?_
              refine soff rfl rfl rfl rfl ?_
              refine soff rfl rfl rfl rfl ?_
              refine soff rfl rfl rfl rfl ?_
              refine soff rfl rfl rfl rfl ?_
              refine soff rfl rfl rfl rfl ?_
              refine sv rfl (opv_pick_f rfl rfl) ?_
              refine sv rfl (opv_mv rfl) ?_
              refine soff rfl rfl rfl rfl ?_
              refine soff rfl rfl rfl rfl ?_
              refine soff rfl rfl rfl rfl ?_
              refine soff rfl rfl rfl rfl ?_
              refine sv rfl (opv_pick_f rfl rfl) ?_
              refine sv rfl (opv_mv rfl) ?_
              refine soff rfl rfl rfl rfl ?_
              refine soff rfl rfl rfl rfl ?_
              refine soff rfl rfl rfl rfl ?_
              refine soff rfl rfl rfl rfl ?_
              refine soff rfl rfl rfl rfl ?_
              refine soff rfl rfl rfl rfl ?_
              refine soff rfl rfl rfl rfl ?_
              refine sv rfl (opv_pick_f rfl rfl) ?_
              refine sv rfl (opv_as rfl) ?_
              refine snil ?_
              refine cret ?_
              obtain rfl := Option.some.inj h
              refine ⟨Or.inr rfl, _, _, _, (resVs_cons (ResV.tmp _ _ rfl) resVs_nil), (pubA_id rfl), ?_⟩
              rfl
          · replace h := ite_f hc h
            clear hc
            refine soff rfl rfl rfl rfl ?_
            refine soff rfl rfl rfl rfl ?_
            refine soff rfl rfl rfl rfl ?_
            refine sv rfl (opv_pick_f rfl rfl) ?_
            refine sv rfl (opv_mv rfl) ?_
            refine soff rfl rfl rfl rfl ?_
            refine soff rfl rfl rfl rfl ?_
            refine soff rfl rfl rfl rfl ?_
            refine soff rfl rfl rfl rfl ?_
            refine soff rfl rfl rfl rfl ?_
            refine soff rfl rfl rfl rfl ?_
            refine sv rfl (opv_pick_f rfl rfl) ?_
            refine sv rfl (opv_mv rfl) ?_
            refine soff rfl rfl rfl rfl ?_
            refine soff rfl rfl rfl rfl ?_
            refine soff rfl rfl rfl rfl ?_
            refine soff rfl rfl rfl rfl ?_
            refine sv rfl (opv_pick_f rfl rfl) ?_
            refine sv rfl (opv_mv rfl) ?_
            refine soff rfl rfl rfl rfl ?_
            refine soff rfl rfl rfl rfl ?_
            refine soff rfl rfl rfl rfl ?_
            refine soff rfl rfl rfl rfl ?_
            refine soff rfl rfl rfl rfl ?_
            refine soff rfl rfl rfl rfl ?_
            refine soff rfl rfl rfl rfl ?_
            refine sv rfl (opv_pick_f rfl rfl) ?_
            refine sv rfl (opv_as rfl) ?_
            refine snil ?_
            refine cret ?_
            obtain rfl := Option.some.inj h
            refine ⟨Or.inr rfl, _, _, _, (resVs_cons (ResV.tmp _ _ rfl) resVs_nil), (pubA_id rfl), ?_⟩
            rfl
        · replace h := ite_f hc h
          clear hc
          refine soff rfl rfl rfl rfl ?_
          refine soff rfl rfl rfl rfl ?_
          refine sv rfl (opv_pick_f rfl rfl) ?_
          refine sv rfl (opv_mv rfl) ?_
          refine soff rfl rfl rfl rfl ?_
          refine soff rfl rfl rfl rfl ?_
          refine soff rfl rfl rfl rfl ?_
          refine sv rfl (opv_pick_f rfl rfl) ?_
          refine sv rfl (opv_mv rfl) ?_
          refine soff rfl rfl rfl rfl ?_
          refine soff rfl rfl rfl rfl ?_
          refine soff rfl rfl rfl rfl ?_
          refine soff rfl rfl rfl rfl ?_
          refine soff rfl rfl rfl rfl ?_
          refine soff rfl rfl rfl rfl ?_
          refine sv rfl (opv_pick_f rfl rfl) ?_
          refine sv rfl (opv_mv rfl) ?_
          refine soff rfl rfl rfl rfl ?_
          refine soff rfl rfl rfl rfl ?_
          refine soff rfl rfl rfl rfl ?_
          refine soff rfl rfl rfl rfl ?_
          refine sv rfl (opv_pick_f rfl rfl) ?_
          refine sv rfl (opv_mv rfl) ?_
          refine soff rfl rfl rfl rfl ?_
          refine soff rfl rfl rfl rfl ?_
          refine soff rfl rfl rfl rfl ?_
          refine soff rfl rfl rfl rfl ?_
          refine soff rfl rfl rfl rfl ?_
          refine soff rfl rfl rfl rfl ?_
          refine soff rfl rfl rfl rfl ?_
          refine sv rfl (opv_pick_f rfl rfl) ?_
          refine sv rfl (opv_as rfl) ?_
          refine snil ?_
          refine cret ?_
          obtain rfl := Option.some.inj h
          refine ⟨Or.inr rfl, _, _, _, (resVs_cons (ResV.tmp _ _ rfl) resVs_nil), (pubA_id rfl), ?_⟩
          rfl
      · replace h := ite_f hc h
        clear hc
        refine soff rfl rfl rfl rfl ?_
        refine soff rfl rfl rfl rfl ?_
        refine sv rfl (opv_pick_f rfl rfl) ?_
        refine sv rfl (opv_mv rfl) ?_
        refine soff rfl rfl rfl rfl ?_
        refine soff rfl rfl rfl rfl ?_
        refine sv rfl (opv_pick_f rfl rfl) ?_
        refine sv rfl (opv_mv rfl) ?_
        refine soff rfl rfl rfl rfl ?_
        refine soff rfl rfl rfl rfl ?_
        refine soff rfl rfl rfl rfl ?_
        refine sv rfl (opv_pick_f rfl rfl) ?_
        refine sv rfl (opv_mv rfl) ?_
        refine soff rfl rfl rfl rfl ?_
        refine soff rfl rfl rfl rfl ?_
        refine soff rfl rfl rfl rfl ?_
        refine soff rfl rfl rfl rfl ?_
        refine soff rfl rfl rfl rfl ?_
        refine soff rfl rfl rfl rfl ?_
        refine sv rfl (opv_pick_f rfl rfl) ?_
        refine sv rfl (opv_mv rfl) ?_
        refine soff rfl rfl rfl rfl ?_
        refine soff rfl rfl rfl rfl ?_
        refine soff rfl rfl rfl rfl ?_
        refine soff rfl rfl rfl rfl ?_
        refine sv rfl (opv_pick_f rfl rfl) ?_
        refine sv rfl (opv_mv rfl) ?_
        refine soff rfl rfl rfl rfl ?_
        refine soff rfl rfl rfl rfl ?_
        refine soff rfl rfl rfl rfl ?_
        refine soff rfl rfl rfl rfl ?_
        refine soff rfl rfl rfl rfl ?_
        refine soff rfl rfl rfl rfl ?_
        refine soff rfl rfl rfl rfl ?_
        refine sv rfl (opv_pick_f rfl rfl) ?_
        refine sv rfl (opv_as rfl) ?_
        refine snil ?_
        refine cret ?_
        obtain rfl := Option.some.inj h
        refine ⟨Or.inr rfl, _, _, _, (resVs_cons (ResV.tmp _ _ rfl) resVs_nil), (pubA_id rfl), ?_⟩
        rfl
    · replace h := ite_f hc h
      clear hc
      refine soff rfl rfl rfl rfl ?_
      refine soff rfl rfl rfl rfl ?_
      refine sv rfl (opv_pick_f rfl rfl) ?_
      refine sv rfl (opv_mv rfl) ?_
      refine soff rfl rfl rfl rfl ?_
      refine soff rfl rfl rfl rfl ?_
      refine sv rfl (opv_pick_f rfl rfl) ?_
      refine sv rfl (opv_mv rfl) ?_
      refine soff rfl rfl rfl rfl ?_
      refine soff rfl rfl rfl rfl ?_
      refine sv rfl (opv_pick_f rfl rfl) ?_
      refine sv rfl (opv_mv rfl) ?_
      refine soff rfl rfl rfl rfl ?_
      refine soff rfl rfl rfl rfl ?_
      refine soff rfl rfl rfl rfl ?_
      refine sv rfl (opv_pick_f rfl rfl) ?_
      refine sv rfl (opv_mv rfl) ?_
      refine soff rfl rfl rfl rfl ?_
      refine soff rfl rfl rfl rfl ?_
      refine soff rfl rfl rfl rfl ?_
      refine soff rfl rfl rfl rfl ?_
      refine soff rfl rfl rfl rfl ?_
      refine soff rfl rfl rfl rfl ?_
      refine sv rfl (opv_pick_f rfl rfl) ?_
      refine sv rfl (opv_mv rfl) ?_
      refine soff rfl rfl rfl rfl ?_
      refine soff rfl rfl rfl rfl ?_
      refine soff rfl rfl rfl rfl ?_
      refine soff rfl rfl rfl rfl ?_
      refine sv rfl (opv_pick_f rfl rfl) ?_
      refine sv rfl (opv_mv rfl) ?_
      refine soff rfl rfl rfl rfl ?_
      refine soff rfl rfl rfl rfl ?_
      refine soff rfl rfl rfl rfl ?_
      refine soff rfl rfl rfl rfl ?_
      refine soff rfl rfl rfl rfl ?_
      refine soff rfl rfl rfl rfl ?_
      refine soff rfl rfl rfl rfl ?_
      refine sv rfl (opv_pick_f rfl rfl) ?_
      refine sv rfl (opv_as rfl) ?_
      refine snil ?_
      refine cret ?_
      obtain rfl := Option.some.inj h
      refine ⟨Or.inr rfl, _, _, _, (resVs_cons (ResV.tmp _ _ rfl) resVs_nil), (pubA_id rfl), ?_⟩
      rfl
  · replace h := ite_f hc h
    clear hc
    refine soff rfl rfl rfl rfl ?_
    refine soff rfl rfl rfl rfl ?_
    refine sv rfl (opv_pick_f rfl rfl) ?_
    refine sv rfl (opv_mv rfl) ?_
    refine soff rfl rfl rfl rfl ?_
    refine soff rfl rfl rfl rfl ?_
    refine sv rfl (opv_pick_f rfl rfl) ?_
    refine sv rfl (opv_mv rfl) ?_
    refine soff rfl rfl rfl rfl ?_
    refine soff rfl rfl rfl rfl ?_
    refine sv rfl (opv_pick_f rfl rfl) ?_
    refine sv rfl (opv_mv rfl) ?_
    refine soff rfl rfl rfl rfl ?_
    refine soff rfl rfl rfl rfl ?_
    refine sv rfl (opv_pick_f rfl rfl) ?_
    refine sv rfl (opv_mv rfl) ?_
    refine soff rfl rfl rfl rfl ?_
    refine soff rfl rfl rfl rfl ?_
    refine soff rfl rfl rfl rfl ?_
    refine sv rfl (opv_pick_f rfl rfl) ?_
    refine sv rfl (opv_mv rfl) ?_
    refine soff rfl rfl rfl rfl ?_
    refine soff rfl rfl rfl rfl ?_
    refine soff rfl rfl rfl rfl ?_
    refine soff rfl rfl rfl rfl ?_
    refine soff rfl rfl rfl rfl ?_
    refine soff rfl rfl rfl rfl ?_
    refine sv rfl (opv_pick_f rfl rfl) ?_
    refine sv rfl (opv_mv rfl) ?_
    refine soff rfl rfl rfl rfl ?_
    refine soff rfl rfl rfl rfl ?_
    refine soff rfl rfl rfl rfl ?_
    refine soff rfl rfl rfl rfl ?_
    refine sv rfl (opv_pick_f rfl rfl) ?_
    refine sv rfl (opv_mv rfl) ?_
    refine soff rfl rfl rfl rfl ?_
    refine soff rfl rfl rfl rfl ?_
    refine soff rfl rfl rfl rfl ?_
    refine soff rfl rfl rfl rfl ?_
    refine soff rfl rfl rfl rfl ?_
    refine soff rfl rfl rfl rfl ?_
    refine soff rfl rfl rfl rfl ?_
    refine sv rfl (opv_pick_f rfl rfl) ?_
    refine sv rfl (opv_as rfl) ?_
    refine snil ?_
    refine cret ?_
    obtain rfl := Option.some.inj h
    refine ⟨Or.inr rfl, _, _, _, (resVs_cons (ResV.tmp _ _ rfl) resVs_nil), (pubA_id rfl), ?_⟩
    rfl

def m43_r05_Few (a0 : GR05Req) : Option Bool :=
  if (decide ((a0.Key.length : Int) ≤ 100)) then (if (decide ((a0.Val.length : Int) ≤ 100)) then (if (decide ((a0.Rng.Lo.length : Int) ≤ 100)) then (some (decide ((a0.Rng.Hi.length : Int) ≤ 100))) else (some false)) else (some false)) else (some false)

set_option maxRecDepth 100000 in
theorem m43_r05_Few_c {a0 : GR05Req} {r : Bool} (h : m43_r05_Few a0 = some r) : CallsA Tryd.prog 43 [.agg a0] (· = .s (.one (.b r))) := by
  unfold m43_r05_Few at h
  refine callsA_of Tryd.func43 rfl (nt := 27) rfl (Nat.le_of_ble_eq_true rfl) ?_
  intro w0 S0
  refine cseq ?_
  refine cregion ?_
  refine sbox rfl rfl ?_
  refine sv rfl (opv_as rfl) ?_
  refine snil ?_
  refine cseq ?_
  refine cregion ?_
  refine sv rfl (opv_fieldAddr_lp fi89_5 rfl) ?_
  refine sv rfl (opv_load1 ti34 rfl (.lp _ _ _ rfl) rfl) ?_
  refine sv rfl (opv_len_sl si34 rfl) ?_
  refine sv rfl (opv_leq rfl rfl) ?_
  refine sv rfl (opv_mv rfl) ?_
  refine ssplit 7 rfl (fun hc => ?_) (fun hc => ?_)
  · replace h := ite_t hc h
    clear hc
    refine son rfl rfl rfl ?_
    refine sv rfl (opv_fieldAddr_lp fi89_6 rfl) ?_
    refine son rfl rfl rfl ?_
    refine sv rfl (opv_load1 ti34 rfl (.lp _ _ _ rfl) rfl) ?_
    refine son rfl rfl rfl ?_
    refine sv rfl (opv_len_sl si34 rfl) ?_
    refine son rfl rfl rfl ?_
    refine sv rfl (opv_leq rfl rfl) ?_
    refine sv rfl (opv_pick_t rfl rfl) ?_
    refine sv rfl (opv_mv rfl) ?_
    refine ssplit 13 rfl (fun hc => ?_) (fun hc => ?_)
    · replace h := ite_t hc h
      clear hc
      refine son rfl rfl rfl ?_
      refine sv rfl (opv_fieldAddr_lp fi89_7 rfl) ?_
      refine son rfl rfl rfl ?_
      refine sv rfl (opv_fieldAddr_lp fi85_0 rfl) ?_
      refine son rfl rfl rfl ?_
      refine sv rfl (opv_load1 ti34 rfl (.lp _ _ _ rfl) rfl) ?_
      refine son rfl rfl rfl ?_
      refine sv rfl (opv_len_sl si34 rfl) ?_
      refine son rfl rfl rfl ?_
      refine sv rfl (opv_leq rfl rfl) ?_
      refine sv rfl (opv_pick_t rfl rfl) ?_
      refine sv rfl (opv_mv rfl) ?_
      refine ssplit 20 rfl (fun hc => ?_) (fun hc => ?_)
      · replace h := ite_t hc h
        clear hc
        refine son rfl rfl rfl ?_
        refine sv rfl (opv_fieldAddr_lp fi89_7 rfl) ?_
        refine son rfl rfl rfl ?_
        refine sv rfl (opv_fieldAddr_lp fi85_1 rfl) ?_
        refine son rfl rfl rfl ?_
        refine sv rfl (opv_load1 ti34 rfl (.lp _ _ _ rfl) rfl) ?_
        refine son rfl rfl rfl ?_
        refine sv rfl (opv_len_sl si34 rfl) ?_
        refine son rfl rfl rfl ?_
        refine sv rfl (opv_leq rfl rfl) ?_
        refine sv rfl (opv_pick_t rfl rfl) ?_
        refine sv rfl (opv_as rfl) ?_
        refine snil ?_
        refine cret ?_
        obtain rfl := Option.some.inj h
        refine ⟨Or.inr rfl, _, _, _, (resVs_cons (ResV.tmp _ _ rfl) resVs_nil), (pubA_id rfl), ?_⟩
        rfl
      · replace h := ite_f hc h
        clear hc
        refine soff rfl rfl rfl rfl ?_
        refine soff rfl rfl rfl rfl ?_
        refine soff rfl rfl rfl rfl ?_
        refine soff rfl rfl rfl rfl ?_
        refine soff rfl rfl rfl rfl ?_
        refine sv rfl (opv_pick_f rfl rfl) ?_
        refine sv rfl (opv_as rfl) ?_
        refine snil ?_
        refine cret ?_
        obtain rfl := Option.some.inj h
        refine ⟨Or.inr rfl, _, _, _, (resVs_cons (ResV.tmp _ _ rfl) resVs_nil), (pubA_id rfl), ?_⟩
        rfl
    · replace h := ite_f hc h
      clear hc
      refine soff rfl rfl rfl rfl ?_
      refine soff rfl rfl rfl rfl ?_
      refine soff rfl rfl rfl rfl ?_
      refine soff rfl rfl rfl rfl ?_
      refine soff rfl rfl rfl rfl ?_
      refine sv rfl (opv_pick_f rfl rfl) ?_
      refine sv rfl (opv_mv rfl) ?_
      refine soff rfl rfl rfl rfl ?_
      refine soff rfl rfl rfl rfl ?_
      refine soff rfl rfl rfl rfl ?_
      refine soff rfl rfl rfl rfl ?_
      refine soff rfl rfl rfl rfl ?_
      refine sv rfl (opv_pick_f rfl rfl) ?_
      refine sv rfl (opv_as rfl) ?_
      refine snil ?_
      refine cret ?_
      obtain rfl := Option.some.inj h
      refine ⟨Or.inr rfl, _, _, _, (resVs_cons (ResV.tmp _ _ rfl) resVs_nil), (pubA_id rfl), ?_⟩
      rfl
  · replace h := ite_f hc h
    clear hc
    refine soff rfl rfl rfl rfl ?_
    refine soff rfl rfl rfl rfl ?_
    refine soff rfl rfl rfl rfl ?_
    refine soff rfl rfl rfl rfl ?_
    refine sv rfl (opv_pick_f rfl rfl) ?_
    refine sv rfl (opv_mv rfl) ?_
    refine soff rfl rfl rfl rfl ?_
    refine soff rfl rfl rfl rfl ?_
    refine soff rfl rfl rfl rfl ?_
    refine soff rfl rfl rfl rfl ?_
    refine soff rfl rfl rfl rfl ?_
    refine sv rfl (opv_pick_f rfl rfl) ?_
    refine sv rfl (opv_mv rfl) ?_
    refine soff rfl rfl rfl rfl ?_
    refine soff rfl rfl rfl rfl ?_
    refine soff rfl rfl rfl rfl ?_
    refine soff rfl rfl rfl rfl ?_
    refine soff rfl rfl rfl rfl ?_
    refine sv rfl (opv_pick_f rfl rfl) ?_
    refine sv rfl (opv_as rfl) ?_
    refine snil ?_
    refine cret ?_
    obtain rfl := Option.some.inj h
    refine ⟨Or.inr rfl, _, _, _, (resVs_cons (ResV.tmp _ _ rfl) resVs_nil), (pubA_id rfl), ?_⟩
    rfl

def m44_r05_FewReply_k2 (b2 : Unit) : Option Bool :=
  some true

def m44_r05_FewReply_s3 (a0 : GR05Reply) (s3 : Int) : Option (LR (Int) (Unit) (Bool)) :=
  if (decide (s3 < (a0.List.length : Int))) then ((idx a0.List s3).bind fun u4 => if (decide (100 < (u4.Key.length : Int))) then (some (.ret false)) else ((idx a0.List s3).bind fun u5 => if (decide (100 < (u5.Val.length : Int))) then (some (.ret false)) else (some (.cont (wI (s3 + 1)))))) else (some (.brk ()))

def m44_r05_FewReply_k1 (a0 : GR05Reply) (b1 : Unit) : Option Bool :=
  (iter (m44_r05_FewReply_s3 a0) fuel 0).bind fun x => match x with | .inl r => some r | .inr e6 => m44_r05_FewReply_k2 e6
def m44_r05_FewReply (a0 : GR05Reply) : Option Bool :=
  if (decide (100 < (a0.Val.length : Int))) then (some false) else (if (decide (20 < (a0.List.length : Int))) then (some false) else (m44_r05_FewReply_k1 a0 ()))

set_option maxRecDepth 100000 in
theorem m44_r05_FewReply_c {a0 : GR05Reply} {r : Bool} (h : m44_r05_FewReply a0 = some r) : CallsA Tryd.prog 44 [.agg a0] (· = .s (.one (.b r))) := by
  unfold m44_r05_FewReply at h
  refine callsA_of Tryd.func44 rfl (nt := 39) rfl (Nat.le_of_ble_eq_true rfl) ?_
  intro w0 S0
  refine cseq ?_
  refine cregion ?_
  refine sbox rfl rfl ?_
  refine sv rfl (opv_as rfl) ?_
  refine snil ?_
  refine cseq ?_
  refine cseq ?_
  refine cjoin3 (Unit) (fun b1 => [(1, .s (.one (.lp 0 0)))]) (fun b1 => [.box a0]) (fun b1 => m44_r05_FewReply_k1 a0 b1 = some r) (fun _ _ => inbL_of rfl) (fun _ _ => blkinb_of rfl) (fun _ _ => Nat.le_of_ble_eq_true rfl) (fun b1 h => ?_) ?_
  · unfold m44_r05_FewReply_k1 at h
    refine cseq ?_
    refine cseq ?_
    refine cregion ?_
    refine sv rfl (opv_as rfl) ?_
    refine snil ?_
    refine cjoin (Unit) (fun b2 => []) (fun b2 => [.box a0]) (fun b2 => m44_r05_FewReply_k2 b2 = some r) (fun _ _ => inbL_of rfl) (fun _ _ => blkinb_of rfl) (fun _ _ => Nat.le_of_ble_eq_true rfl) (fun b2 h => ?_) ?_
    · unfold m44_r05_FewReply_k2 at h
      refine cseq ?_
      refine cregion ?_
      refine sv rfl (opv_as rfl) ?_
      refine snil ?_
      refine cret ?_
      obtain rfl := Option.some.inj h
      refine ⟨Or.inr rfl, _, _, _, (resVs_cons (ResV.tmp _ _ rfl) resVs_nil), (pubA_id rfl), ?_⟩
      rfl
    · skip
      refine cblock ?_
      obtain ⟨x3, hx3, ho3⟩ := bind_eq h
      refine awc_loop (G := Nat × (Int)) (fun g => [(1, .s (.one (.lp 0 0))), (3, .s (.one (.i .i64 g.2)))]) (fun g => [.box a0]) (fun g => iter (m44_r05_FewReply_s3 a0) g.1 g.2 = some x3) (fun g => g.1) (fuel, 0) hx3 ⟨rfl, rfl, trivial⟩ [] rfl (fun _ _ => inbL_of rfl) (fun _ _ => blkinb_of rfl) (fun _ _ => Nat.le_of_ble_eq_true rfl) ?_
      clear hx3 h
      rintro ⟨n3, s3⟩ h
      obtain ⟨n3, y3, rfl, h, hk3⟩ := iter_eq h
      unfold m44_r05_FewReply_s3 at h
      refine cseq ?_
      refine cseq ?_
      refine cregion ?_
      refine sv rfl (opv_mv rfl) ?_
      refine sv rfl (opv_fieldAddr_lp fi94_6 rfl) ?_
      refine sv rfl (opv_load1 ti90 rfl (.lp _ _ _ rfl) rfl) ?_
      refine sv rfl (opv_len_sl si90 rfl) ?_
      refine sv rfl (opv_lss rfl rfl) ?_
      refine snil ?_
      refine ccond rfl (fun hc => ?_) (fun hc => ?_)
      · replace h := ite_t hc h
        clear hc
        refine cskip ?_
        refine then_normal ?_
        refine cseq ?_
        refine cblock ?_
        refine cseq ?_
        refine cregion ?_
        refine sv rfl (opv_fieldAddr_lp fi94_6 rfl) ?_
        refine sv rfl (opv_load1 ti90 rfl (.lp _ _ _ rfl) rfl) ?_
        refine sv rfl (opv_mv rfl) ?_
        obtain ⟨u4, hu4, h⟩ := bind_eq h
        refine sv rfl (opv_ix (f := eGApiKV) si90 (fun _ => rfl) rfl rfl rfl rfl hu4) ?_
        refine sv rfl (opv_fieldAddr_cp fi114_0 rfl) ?_
        refine sv rfl (opv_load1 ti34 rfl (.cp _) rfl) ?_
        refine sv rfl (opv_len_sl si34 rfl) ?_
        refine sv rfl (opv_gtr rfl rfl) ?_
        refine sv rfl (opv_mv rfl) ?_
        refine ssplit 29 rfl (fun hc => ?_) (fun hc => ?_)
        · replace h := ite_t hc h
          clear hc
          refine soff rfl rfl rfl rfl ?_
          refine soff rfl rfl rfl rfl ?_
          refine soff rfl rfl rfl rfl ?_
          refine soff rfl rfl rfl rfl ?_
          refine soff rfl rfl rfl rfl ?_
          refine soff rfl rfl rfl rfl ?_
          refine soff rfl rfl rfl rfl ?_
          refine soff rfl rfl rfl rfl ?_
          refine sv rfl (opv_pick_t rfl rfl) ?_
          refine snil ?_
          refine ccond rfl (fun _ => ?_) (fun hx => Bool.noConfusion hx)
          refine cseq ?_
          refine cregion ?_
          refine sv rfl (opv_as rfl) ?_
          refine snil ?_
          refine cret ?_
          refine block_ret ?_
          refine then_ret ?_
          refine then_ret ?_
          refine block_ret ?_
          refine then_ret ?_
          obtain rfl := Option.some.inj h
          obtain rfl : Sum.inl _ = x3 := hk3
          replace ho3 : some _ = some _ := ho3
          obtain rfl := Option.some.inj ho3
          refine ⟨Or.inr rfl, _, _, _, (resVs_cons (ResV.tmp _ _ rfl) resVs_nil), (pubA_id rfl), ?_⟩
          rfl
        · replace h := ite_f hc h
          clear hc
          refine son rfl rfl rfl ?_
          refine sv rfl (opv_fieldAddr_lp fi94_6 rfl) ?_
          refine son rfl rfl rfl ?_
          refine sv rfl (opv_load1 ti90 rfl (.lp _ _ _ rfl) rfl) ?_
          refine son rfl rfl rfl ?_
          refine sv rfl (opv_mv rfl) ?_
          refine son rfl rfl rfl ?_
          obtain ⟨u5, hu5, h⟩ := bind_eq h
          refine sv rfl (opv_ix (f := eGApiKV) si90 (fun _ => rfl) rfl rfl rfl rfl hu5) ?_
          refine son rfl rfl rfl ?_
          refine sv rfl (opv_fieldAddr_cp fi114_1 rfl) ?_
          refine son rfl rfl rfl ?_
          refine sv rfl (opv_load1 ti34 rfl (.cp _) rfl) ?_
          refine son rfl rfl rfl ?_
          refine sv rfl (opv_len_sl si34 rfl) ?_
          refine son rfl rfl rfl ?_
          refine sv rfl (opv_gtr rfl rfl) ?_
          refine sv rfl (opv_pick_f rfl rfl) ?_
          refine snil ?_
          refine ccond rfl (fun hc => ?_) (fun hc => ?_)
          · replace h := ite_t hc h
            clear hc
            refine cseq ?_
            refine cregion ?_
            refine sv rfl (opv_as rfl) ?_
            refine snil ?_
            refine cret ?_
            refine block_ret ?_
            refine then_ret ?_
            refine then_ret ?_
            refine block_ret ?_
            refine then_ret ?_
            obtain rfl := Option.some.inj h
            obtain rfl : Sum.inl _ = x3 := hk3
            replace ho3 : some _ = some _ := ho3
            obtain rfl := Option.some.inj ho3
            refine ⟨Or.inr rfl, _, _, _, (resVs_cons (ResV.tmp _ _ rfl) resVs_nil), (pubA_id rfl), ?_⟩
            rfl
          · replace h := ite_f hc h
            clear hc
            refine cskip ?_
            refine block_normal ?_
            refine then_normal ?_
            refine cregion ?_
            refine sv rfl (opv_mv rfl) ?_
            refine sv rfl (opv_add rfl rfl) ?_
            refine sv rfl (opv_as rfl) ?_
            refine snil ?_
            obtain rfl := Option.some.inj h
            exact ⟨(n3, (wI (s3 + 1))), _, hk3, ⟨rfl, rfl, trivial⟩, rfl, Nat.lt_succ_self _⟩
      · replace h := ite_f hc h
        clear hc
        refine cexit ?_
        refine then_exit ?_
        refine then_exit ?_
        refine block_hit ?_
        refine then_normal ?_
        obtain rfl := Option.some.inj h
        obtain rfl : _ = x3 := hk3
        exact ⟨(), _, ho3, trivial, rfl⟩
  · skip
    refine cregion ?_
    refine sv rfl (opv_fieldAddr_lp fi94_5 rfl) ?_
    refine sv rfl (opv_load1 ti34 rfl (.lp _ _ _ rfl) rfl) ?_
    refine sv rfl (opv_len_sl si34 rfl) ?_
    refine sv rfl (opv_gtr rfl rfl) ?_
    refine sv rfl (opv_mv rfl) ?_
    refine ssplit 8 rfl (fun hc => ?_) (fun hc => ?_)
    · replace h := ite_t hc h
      clear hc
      refine soff rfl rfl rfl rfl ?_
      refine soff rfl rfl rfl rfl ?_
      refine soff rfl rfl rfl rfl ?_
      refine soff rfl rfl rfl rfl ?_
      refine sv rfl (opv_pick_t rfl rfl) ?_
      refine snil ?_
      refine ccond rfl (fun _ => ?_) (fun hx => Bool.noConfusion hx)
      refine cseq ?_
      refine cregion ?_
      refine sv rfl (opv_as rfl) ?_
      refine snil ?_
      refine cret ?_
      refine then_ret ?_
      obtain rfl := Option.some.inj h
      refine ⟨Or.inr rfl, _, _, _, (resVs_cons (ResV.tmp _ _ rfl) resVs_nil), (pubA_id rfl), ?_⟩
      rfl
    · replace h := ite_f hc h
      clear hc
      refine son rfl rfl rfl ?_
      refine sv rfl (opv_fieldAddr_lp fi94_6 rfl) ?_
      refine son rfl rfl rfl ?_
      refine sv rfl (opv_load1 ti90 rfl (.lp _ _ _ rfl) rfl) ?_
      refine son rfl rfl rfl ?_
      refine sv rfl (opv_len_sl si90 rfl) ?_
      refine son rfl rfl rfl ?_
      refine sv rfl (opv_gtr rfl rfl) ?_
      refine sv rfl (opv_pick_f rfl rfl) ?_
      refine snil ?_
      refine ccond rfl (fun hc => ?_) (fun hc => ?_)
      · replace h := ite_t hc h
        clear hc
        refine cseq ?_
        refine cregion ?_
        refine sv rfl (opv_as rfl) ?_
        refine snil ?_
        refine cret ?_
        refine then_ret ?_
        obtain rfl := Option.some.inj h
        refine ⟨Or.inr rfl, _, _, _, (resVs_cons (ResV.tmp _ _ rfl) resVs_nil), (pubA_id rfl), ?_⟩
        rfl
      · replace h := ite_f hc h
        clear hc
        refine cskip ?_
        refine then_normal ?_
        exact ⟨(), _, h, ⟨rfl, trivial⟩, rfl⟩

def m28_r16_Few_k3 (b3 : Unit) : Option Bool :=
  some true

def m28_r16_Few_s4 (a0 : GR16Pipe) (s4 : Int) : Option (LR (Int) (Unit) (Bool)) :=
  if (decide (s4 < (a0.Past.length : Int))) then ((idx a0.Past s4).bind fun u5 => (m44_r05_FewReply u5).bind fun v6 => if (!v6) then (some (.ret false)) else (some (.cont (wI (s4 + 1))))) else (some (.brk ()))

def m28_r16_Few_k2 (a0 : GR16Pipe) (b2 : Unit) : Option Bool :=
  (iter (m28_r16_Few_s4 a0) fuel 0).bind fun x => match x with | .inl r => some r | .inr e7 => m28_r16_Few_k3 e7

def m28_r16_Few_s8 (a0 : GR16Pipe) (s8 : Int) : Option (LR (Int) (Unit) (Bool)) :=
  if (decide (s8 < (a0.Wait.length : Int))) then ((idx a0.Wait s8).bind fun u9 => (m43_r05_Few (GR05Req.mk u9.Kind u9.Seq u9.Token u9.Attempt u9.RO u9.Key u9.Val (GApiRange.mk u9.Rng.Lo u9.Rng.Hi u9.Rng.Open))).bind fun v10 => if (!v10) then (some (.ret false)) else (some (.cont (wI (s8 + 1))))) else (some (.brk ()))

def m28_r16_Few_k1 (a0 : GR16Pipe) (b1 : Unit) : Option Bool :=
  (iter (m28_r16_Few_s8 a0) fuel 0).bind fun x => match x with | .inl r => some r | .inr e11 => m28_r16_Few_k2 a0 e11
def m28_r16_Few (a0 : GR16Pipe) : Option Bool :=
  if (decide (12 < (a0.Wait.length : Int))) then (some false) else (if (decide (12 < (a0.Past.length : Int))) then (some false) else (m28_r16_Few_k1 a0 ()))

set_option maxRecDepth 100000 in
theorem m28_r16_Few_c {a0 : GR16Pipe} {r : Bool} (h : m28_r16_Few a0 = some r) : CallsA Tryd.prog 28 [.agg a0] (· = .s (.one (.b r))) := by
  unfold m28_r16_Few at h
  refine callsA_of Tryd.func28 rfl (nt := 43) rfl (Nat.le_of_ble_eq_true rfl) ?_
  intro w0 S0
  refine cseq ?_
  refine cregion ?_
  refine sbox rfl rfl ?_
  refine sv rfl (opv_as rfl) ?_
  refine snil ?_
  refine cseq ?_
  refine cseq ?_
  refine cjoin3 (Unit) (fun b1 => [(1, .s (.one (.lp 0 0)))]) (fun b1 => [.box a0]) (fun b1 => m28_r16_Few_k1 a0 b1 = some r) (fun _ _ => inbL_of rfl) (fun _ _ => blkinb_of rfl) (fun _ _ => Nat.le_of_ble_eq_true rfl) (fun b1 h => ?_) ?_
  · unfold m28_r16_Few_k1 at h
    refine cseq ?_
    refine cseq ?_
    refine cregion ?_
    refine sv rfl (opv_as rfl) ?_
    refine snil ?_
    refine cjoin (Unit) (fun b2 => [(1, .s (.one (.lp 0 0)))]) (fun b2 => [.box a0]) (fun b2 => m28_r16_Few_k2 a0 b2 = some r) (fun _ _ => inbL_of rfl) (fun _ _ => blkinb_of rfl) (fun _ _ => Nat.le_of_ble_eq_true rfl) (fun b2 h => ?_) ?_
    · unfold m28_r16_Few_k2 at h
      refine cseq ?_
      refine cseq ?_
      refine cregion ?_
      refine sv rfl (opv_as rfl) ?_
      refine snil ?_
      refine cjoin (Unit) (fun b3 => []) (fun b3 => [.box a0]) (fun b3 => m28_r16_Few_k3 b3 = some r) (fun _ _ => inbL_of rfl) (fun _ _ => blkinb_of rfl) (fun _ _ => Nat.le_of_ble_eq_true rfl) (fun b3 h => ?_) ?_
      · unfold m28_r16_Few_k3 at h
        refine cseq ?_
        refine cregion ?_
        refine sv rfl (opv_as rfl) ?_
        refine snil ?_
        refine cret ?_
        obtain rfl := Option.some.inj h
        refine ⟨Or.inr rfl, _, _, _, (resVs_cons (ResV.tmp _ _ rfl) resVs_nil), (pubA_id rfl), ?_⟩
        rfl
      · skip
        refine cblock ?_
        obtain ⟨x4, hx4, ho4⟩ := bind_eq h
        refine awc_loop (G := Nat × (Int)) (fun g => [(1, .s (.one (.lp 0 0))), (4, .s (.one (.i .i64 g.2)))]) (fun g => [.box a0]) (fun g => iter (m28_r16_Few_s4 a0) g.1 g.2 = some x4) (fun g => g.1) (fuel, 0) hx4 ⟨rfl, rfl, trivial⟩ [] rfl (fun _ _ => inbL_of rfl) (fun _ _ => blkinb_of rfl) (fun _ _ => Nat.le_of_ble_eq_true rfl) ?_
        clear hx4 h
        rintro ⟨n4, s4⟩ h
        obtain ⟨n4, y4, rfl, h, hk4⟩ := iter_eq h
        unfold m28_r16_Few_s4 at h
        refine cseq ?_
        refine cseq ?_
        refine cregion ?_
        refine sv rfl (opv_mv rfl) ?_
        refine sv rfl (opv_fieldAddr_lp fi61_3 rfl) ?_
        refine sv rfl (opv_load1 ti59 rfl (.lp _ _ _ rfl) rfl) ?_
        refine sv rfl (opv_len_sl si59 rfl) ?_
        refine sv rfl (opv_lss rfl rfl) ?_
        refine snil ?_
        refine ccond rfl (fun hc => ?_) (fun hc => ?_)
        · replace h := ite_t hc h
          clear hc
          refine cskip ?_
          refine then_normal ?_
          refine cseq ?_
          refine cblock ?_
          refine cseq ?_
          refine cregion ?_
          refine sv rfl (opv_fieldAddr_lp fi61_3 rfl) ?_
          refine sv rfl (opv_load1 ti59 rfl (.lp _ _ _ rfl) rfl) ?_
          refine sv rfl (opv_mv rfl) ?_
          obtain ⟨u5, hu5, h⟩ := bind_eq h
          refine sv rfl (opv_ix (f := eGR05Reply) si59 (fun _ => rfl) rfl rfl rfl rfl hu5) ?_
          refine sv rfl (opv_loadNe (ys := [.i .i64 u5.Kind, .i .i64 u5.Seq, .i .i64 u5.Code, .i .i64 u5.N, .b u5.Found, .sl u5.Val.length (u5.Val.flatMap eU8), .sl u5.List.length (u5.List.flatMap eGApiKV)]) ti94 rfl (.cp _) rfl rfl) ?_
          obtain ⟨v6, hv6, h⟩ := bind_eq h
          refine scall1 rfl fn44 (opnds_cons rfl opnds_nil) (pubA_id rfl) (m44_r05_FewReply_c hv6) ?_
          refine sv rfl (opv_not rfl) ?_
          refine snil ?_
          refine ccond rfl (fun hc => ?_) (fun hc => ?_)
          · replace h := ite_t hc h
            clear hc
            refine cseq ?_
            refine cregion ?_
            refine sv rfl (opv_as rfl) ?_
            refine snil ?_
            refine cret ?_
            refine block_ret ?_
            refine then_ret ?_
            refine then_ret ?_
            refine block_ret ?_
            refine then_ret ?_
            obtain rfl := Option.some.inj h
            obtain rfl : Sum.inl _ = x4 := hk4
            replace ho4 : some _ = some _ := ho4
            obtain rfl := Option.some.inj ho4
            refine ⟨Or.inr rfl, _, _, _, (resVs_cons (ResV.tmp _ _ rfl) resVs_nil), (pubA_id rfl), ?_⟩
            rfl
          · replace h := ite_f hc h
            clear hc
            refine cskip ?_
            refine block_normal ?_
            refine then_normal ?_
            refine cregion ?_
            refine sv rfl (opv_mv rfl) ?_
            refine sv rfl (opv_add rfl rfl) ?_
            refine sv rfl (opv_as rfl) ?_
            refine snil ?_
            obtain rfl := Option.some.inj h
            exact ⟨(n4, (wI (s4 + 1))), _, hk4, ⟨rfl, rfl, trivial⟩, rfl, Nat.lt_succ_self _⟩
        · replace h := ite_f hc h
          clear hc
          refine cexit ?_
          refine then_exit ?_
          refine then_exit ?_
          refine block_hit ?_
          refine then_normal ?_
          obtain rfl := Option.some.inj h
          obtain rfl : _ = x4 := hk4
          exact ⟨(), _, ho4, trivial, rfl⟩
    · skip
      refine cblock ?_
      obtain ⟨x8, hx8, ho8⟩ := bind_eq h
      refine awc_loop (G := Nat × (Int)) (fun g => [(1, .s (.one (.lp 0 0))), (3, .s (.one (.i .i64 g.2)))]) (fun g => [.box a0]) (fun g => iter (m28_r16_Few_s8 a0) g.1 g.2 = some x8) (fun g => g.1) (fuel, 0) hx8 ⟨rfl, rfl, trivial⟩ [] rfl (fun _ _ => inbL_of rfl) (fun _ _ => blkinb_of rfl) (fun _ _ => Nat.le_of_ble_eq_true rfl) ?_
      clear hx8 h
      rintro ⟨n8, s8⟩ h
      obtain ⟨n8, y8, rfl, h, hk8⟩ := iter_eq h
      unfold m28_r16_Few_s8 at h
      refine cseq ?_
      refine cseq ?_
      refine cregion ?_
      refine sv rfl (opv_mv rfl) ?_
      refine sv rfl (opv_fieldAddr_lp fi61_2 rfl) ?_
      refine sv rfl (opv_load1 ti58 rfl (.lp _ _ _ rfl) rfl) ?_
      refine sv rfl (opv_len_sl si58 rfl) ?_
      refine sv rfl (opv_lss rfl rfl) ?_
      refine snil ?_
      refine ccond rfl (fun hc => ?_) (fun hc => ?_)
      · replace h := ite_t hc h
        clear hc
        refine cskip ?_
        refine then_normal ?_
        refine cseq ?_
        refine cblock ?_
        refine cseq ?_
        refine cregion ?_
        refine sv rfl (opv_fieldAddr_lp fi61_2 rfl) ?_
        refine sv rfl (opv_load1 ti58 rfl (.lp _ _ _ rfl) rfl) ?_
        refine sv rfl (opv_mv rfl) ?_
        obtain ⟨u9, hu9, h⟩ := bind_eq h
        refine sv rfl (opv_ix (f := eGR05Req) si58 (fun _ => rfl) rfl rfl rfl rfl hu9) ?_
        refine sv rfl (opv_loadNe (ys := [.i .i64 u9.Kind, .i .i64 u9.Seq, .i .i64 u9.Token, .i .i64 u9.Attempt, .b u9.RO, .sl u9.Key.length (u9.Key.flatMap eU8), .sl u9.Val.length (u9.Val.flatMap eU8), .sl u9.Rng.Lo.length (u9.Rng.Lo.flatMap eU8), .sl u9.Rng.Hi.length (u9.Rng.Hi.flatMap eU8), .b u9.Rng.Open]) ti89 rfl (.cp _) rfl rfl) ?_
        obtain ⟨v10, hv10, h⟩ := bind_eq h
        refine scall1 rfl fn43 (opnds_cons rfl opnds_nil) (pubA_id rfl) (m43_r05_Few_c hv10) ?_
        refine sv rfl (opv_not rfl) ?_
        refine snil ?_
        refine ccond rfl (fun hc => ?_) (fun hc => ?_)
        · replace h := ite_t hc h
          clear hc
          refine cseq ?_
          refine cregion ?_
          refine sv rfl (opv_as rfl) ?_
          refine snil ?_
          refine cret ?_
          refine block_ret ?_
          refine then_ret ?_
          refine then_ret ?_
          refine block_ret ?_
          refine then_ret ?_
          obtain rfl := Option.some.inj h
          obtain rfl : Sum.inl _ = x8 := hk8
          replace ho8 : some _ = some _ := ho8
          obtain rfl := Option.some.inj ho8
          refine ⟨Or.inr rfl, _, _, _, (resVs_cons (ResV.tmp _ _ rfl) resVs_nil), (pubA_id rfl), ?_⟩
          rfl
        · replace h := ite_f hc h
          clear hc
          refine cskip ?_
          refine block_normal ?_
          refine then_normal ?_
          refine cregion ?_
          refine sv rfl (opv_mv rfl) ?_
          refine sv rfl (opv_add rfl rfl) ?_
          refine sv rfl (opv_as rfl) ?_
          refine snil ?_
          obtain rfl := Option.some.inj h
          exact ⟨(n8, (wI (s8 + 1))), _, hk8, ⟨rfl, rfl, trivial⟩, rfl, Nat.lt_succ_self _⟩
      · replace h := ite_f hc h
        clear hc
        refine cexit ?_
        refine then_exit ?_
        refine then_exit ?_
        refine block_hit ?_
        refine then_normal ?_
        obtain rfl := Option.some.inj h
        obtain rfl : _ = x8 := hk8
        exact ⟨(), _, ho8, ⟨rfl, trivial⟩, rfl⟩
  · skip
    refine cregion ?_
    refine sv rfl (opv_fieldAddr_lp fi61_2 rfl) ?_
    refine sv rfl (opv_load1 ti58 rfl (.lp _ _ _ rfl) rfl) ?_
    refine sv rfl (opv_len_sl si58 rfl) ?_
    refine sv rfl (opv_gtr rfl rfl) ?_
    refine sv rfl (opv_mv rfl) ?_
    refine ssplit 9 rfl (fun hc => ?_) (fun hc => ?_)
    · replace h := ite_t hc h
      clear hc
      refine soff rfl rfl rfl rfl ?_
      refine soff rfl rfl rfl rfl ?_
      refine soff rfl rfl rfl rfl ?_
      refine soff rfl rfl rfl rfl ?_
      refine sv rfl (opv_pick_t rfl rfl) ?_
      refine snil ?_
      refine ccond rfl (fun _ => ?_) (fun hx => Bool.noConfusion hx)
      refine cseq ?_
      refine cregion ?_
      refine sv rfl (opv_as rfl) ?_
      refine snil ?_
      refine cret ?_
      refine then_ret ?_
      obtain rfl := Option.some.inj h
      refine ⟨Or.inr rfl, _, _, _, (resVs_cons (ResV.tmp _ _ rfl) resVs_nil), (pubA_id rfl), ?_⟩
      rfl
    · replace h := ite_f hc h
      clear hc
      refine son rfl rfl rfl ?_
      refine sv rfl (opv_fieldAddr_lp fi61_3 rfl) ?_
      refine son rfl rfl rfl ?_
      refine sv rfl (opv_load1 ti59 rfl (.lp _ _ _ rfl) rfl) ?_
      refine son rfl rfl rfl ?_
      refine sv rfl (opv_len_sl si59 rfl) ?_
      refine son rfl rfl rfl ?_
      refine sv rfl (opv_gtr rfl rfl) ?_
      refine sv rfl (opv_pick_f rfl rfl) ?_
      refine snil ?_
      refine ccond rfl (fun hc => ?_) (fun hc => ?_)
      · replace h := ite_t hc h
        clear hc
        refine cseq ?_
        refine cregion ?_
        refine sv rfl (opv_as rfl) ?_
        refine snil ?_
        refine cret ?_
        refine then_ret ?_
        obtain rfl := Option.some.inj h
        refine ⟨Or.inr rfl, _, _, _, (resVs_cons (ResV.tmp _ _ rfl) resVs_nil), (pubA_id rfl), ?_⟩
        rfl
      · replace h := ite_f hc h
        clear hc
        refine cskip ?_
        refine then_normal ?_
        exact ⟨(), _, h, ⟨rfl, trivial⟩, rfl⟩

def m12_r17_Few_k1 (b1 : Unit) : Option Bool :=
  some true

def m12_r17_Few_s2 (a0 : GR17Table) (s2 : Int) : Option (LR (Int) (Unit) (Bool)) :=
  if (decide (s2 < (a0.L.length : Int))) then ((idx a0.L s2).bind fun u3 => if (decide (700 < (u3.Stream.Buf.length : Int))) then (some (.ret false)) else ((idx a0.L s2).bind fun u4 => (m28_r16_Few (GR16Pipe.mk (GR15Window.mk u4.Pipe.Win.Base u4.Pipe.Win.Bits) u4.Pipe.Next u4.Pipe.Wait u4.Pipe.Past)).bind fun v5 => if (!v5) then (some (.ret false)) else (some (.cont (wI (s2 + 1)))))) else (some (.brk ()))
def m12_r17_Few (a0 : GR17Table) : Option Bool :=
  if (decide (12 < (a0.L.length : Int))) then (some false) else ((iter (m12_r17_Few_s2 a0) fuel 0).bind fun x => match x with | .inl r => some r | .inr e6 => m12_r17_Few_k1 e6)

set_option maxRecDepth 100000 in
theorem m12_r17_Few_c {a0 : GR17Table} {r : Bool} (h : m12_r17_Few a0 = some r) : CallsA Tryd.prog 12 [.agg a0] (· = .s (.one (.b r))) := by
  unfold m12_r17_Few at h
  refine callsA_of Tryd.func12 rfl (nt := 34) rfl (Nat.le_of_ble_eq_true rfl) ?_
  intro w0 S0
  refine cseq ?_
  refine cregion ?_
  refine sbox rfl rfl ?_
  refine sv rfl (opv_as rfl) ?_
  refine snil ?_
  refine cseq ?_
  refine cseq ?_
  refine cregion ?_
  refine sv rfl (opv_fieldAddr_lp fi55_0 rfl) ?_
  refine sv rfl (opv_load1 ti53 rfl (.lp _ _ _ rfl) rfl) ?_
  refine sv rfl (opv_len_sl si53 rfl) ?_
  refine sv rfl (opv_gtr rfl rfl) ?_
  refine snil ?_
  refine ccond rfl (fun hc => ?_) (fun hc => ?_)
  · replace h := ite_t hc h
    clear hc
    refine cseq ?_
    refine cregion ?_
    refine sv rfl (opv_as rfl) ?_
    refine snil ?_
    refine cret ?_
    refine then_ret ?_
    obtain rfl := Option.some.inj h
    refine ⟨Or.inr rfl, _, _, _, (resVs_cons (ResV.tmp _ _ rfl) resVs_nil), (pubA_id rfl), ?_⟩
    rfl
  · replace h := ite_f hc h
    clear hc
    refine cskip ?_
    refine then_normal ?_
    refine cseq ?_
    refine cseq ?_
    refine cregion ?_
    refine sv rfl (opv_as rfl) ?_
    refine snil ?_
    refine cjoin (Unit) (fun b1 => []) (fun b1 => [.box a0]) (fun b1 => m12_r17_Few_k1 b1 = some r) (fun _ _ => inbL_of rfl) (fun _ _ => blkinb_of rfl) (fun _ _ => Nat.le_of_ble_eq_true rfl) (fun b1 h => ?_) ?_
    · unfold m12_r17_Few_k1 at h
      refine cseq ?_
      refine cregion ?_
      refine sv rfl (opv_as rfl) ?_
      refine snil ?_
      refine cret ?_
      obtain rfl := Option.some.inj h
      refine ⟨Or.inr rfl, _, _, _, (resVs_cons (ResV.tmp _ _ rfl) resVs_nil), (pubA_id rfl), ?_⟩
      rfl
    · skip
      refine cblock ?_
      obtain ⟨x2, hx2, ho2⟩ := bind_eq h
      refine awc_loop (G := Nat × (Int)) (fun g => [(1, .s (.one (.lp 0 0))), (3, .s (.one (.i .i64 g.2)))]) (fun g => [.box a0]) (fun g => iter (m12_r17_Few_s2 a0) g.1 g.2 = some x2) (fun g => g.1) (fuel, 0) hx2 ⟨rfl, rfl, trivial⟩ [] rfl (fun _ _ => inbL_of rfl) (fun _ _ => blkinb_of rfl) (fun _ _ => Nat.le_of_ble_eq_true rfl) ?_
      clear hx2 h
      rintro ⟨n2, s2⟩ h
      obtain ⟨n2, y2, rfl, h, hk2⟩ := iter_eq h
      unfold m12_r17_Few_s2 at h
      refine cseq ?_
      refine cseq ?_
      refine cregion ?_
      refine sv rfl (opv_mv rfl) ?_
      refine sv rfl (opv_fieldAddr_lp fi55_0 rfl) ?_
      refine sv rfl (opv_load1 ti53 rfl (.lp _ _ _ rfl) rfl) ?_
      refine sv rfl (opv_len_sl si53 rfl) ?_
      refine sv rfl (opv_lss rfl rfl) ?_
      refine snil ?_
      refine ccond rfl (fun hc => ?_) (fun hc => ?_)
      · replace h := ite_t hc h
        clear hc
        refine cskip ?_
        refine then_normal ?_
        refine cseq ?_
        refine cblock ?_
        refine cseq ?_
        refine cregion ?_
        refine sv rfl (opv_fieldAddr_lp fi55_0 rfl) ?_
        refine sv rfl (opv_load1 ti53 rfl (.lp _ _ _ rfl) rfl) ?_
        refine sv rfl (opv_mv rfl) ?_
        obtain ⟨u3, hu3, h⟩ := bind_eq h
        refine sv rfl (opv_ix (f := eGR17Conn) si53 (fun _ => rfl) rfl rfl rfl rfl hu3) ?_
        refine sv rfl (opv_fieldAddr_cp fi63_4 rfl) ?_
        refine sv rfl (opv_fieldAddr_cp fi56_0 rfl) ?_
        refine sv rfl (opv_load1 ti34 rfl (.cp _) rfl) ?_
        refine sv rfl (opv_len_sl si34 rfl) ?_
        refine sv rfl (opv_gtr rfl rfl) ?_
        refine sv rfl (opv_mv rfl) ?_
        refine ssplit 24 rfl (fun hc => ?_) (fun hc => ?_)
        · replace h := ite_t hc h
          clear hc
          refine soff rfl rfl rfl rfl ?_
          refine soff rfl rfl rfl rfl ?_
          refine soff rfl rfl rfl rfl ?_
          refine soff rfl rfl rfl rfl ?_
          refine soff rfl rfl rfl rfl ?_
          refine soff rfl rfl rfl rfl ?_
          refine soff rfl rfl rfl rfl ?_
          refine soff rfl rfl rfl rfl ?_
          refine sv rfl (opv_pick_t rfl rfl) ?_
          refine snil ?_
          refine ccond rfl (fun _ => ?_) (fun hx => Bool.noConfusion hx)
          refine cseq ?_
          refine cregion ?_
          refine sv rfl (opv_as rfl) ?_
          refine snil ?_
          refine cret ?_
          refine block_ret ?_
          refine then_ret ?_
          refine then_ret ?_
          refine block_ret ?_
          refine then_ret ?_
          obtain rfl := Option.some.inj h
          obtain rfl : Sum.inl _ = x2 := hk2
          replace ho2 : some _ = some _ := ho2
          obtain rfl := Option.some.inj ho2
          refine ⟨Or.inr rfl, _, _, _, (resVs_cons (ResV.tmp _ _ rfl) resVs_nil), (pubA_id rfl), ?_⟩
          rfl
        · replace h := ite_f hc h
          clear hc
          refine son rfl rfl rfl ?_
          refine sv rfl (opv_fieldAddr_lp fi55_0 rfl) ?_
          refine son rfl rfl rfl ?_
          refine sv rfl (opv_load1 ti53 rfl (.lp _ _ _ rfl) rfl) ?_
          refine son rfl rfl rfl ?_
          refine sv rfl (opv_mv rfl) ?_
          refine son rfl rfl rfl ?_
          obtain ⟨u4, hu4, h⟩ := bind_eq h
          refine sv rfl (opv_ix (f := eGR17Conn) si53 (fun _ => rfl) rfl rfl rfl rfl hu4) ?_
          refine son rfl rfl rfl ?_
          refine sv rfl (opv_fieldAddr_cp fi63_5 rfl) ?_
          refine son rfl rfl rfl ?_
          refine sv rfl (opv_loadNe (ys := [.i .i64 u4.Pipe.Win.Base, .i .u64 (u4.Pipe.Win.Bits.toNat : Int), .i .i64 u4.Pipe.Next, .sl u4.Pipe.Wait.length (u4.Pipe.Wait.flatMap eGR05Req), .sl u4.Pipe.Past.length (u4.Pipe.Past.flatMap eGR05Reply)]) ti61 rfl (.cp _) rfl rfl) ?_
          refine son rfl rfl rfl ?_
          obtain ⟨v5, hv5, h⟩ := bind_eq h
          refine scall1 rfl fn28 (opnds_cons rfl opnds_nil) (pubA_id rfl) (m28_r16_Few_c hv5) ?_
          refine son rfl rfl rfl ?_
          refine sv rfl (opv_not rfl) ?_
          refine sv rfl (opv_pick_f rfl rfl) ?_
          refine snil ?_
          refine ccond rfl (fun hc => ?_) (fun hc => ?_)
          · replace h := ite_t hc h
            clear hc
            refine cseq ?_
            refine cregion ?_
            refine sv rfl (opv_as rfl) ?_
            refine snil ?_
            refine cret ?_
            refine block_ret ?_
            refine then_ret ?_
            refine then_ret ?_
            refine block_ret ?_
            refine then_ret ?_
            obtain rfl := Option.some.inj h
            obtain rfl : Sum.inl _ = x2 := hk2
            replace ho2 : some _ = some _ := ho2
            obtain rfl := Option.some.inj ho2
            refine ⟨Or.inr rfl, _, _, _, (resVs_cons (ResV.tmp _ _ rfl) resVs_nil), (pubA_id rfl), ?_⟩
            rfl
          · replace h := ite_f hc h
            clear hc
            refine cskip ?_
            refine block_normal ?_
            refine then_normal ?_
            refine cregion ?_
            refine sv rfl (opv_mv rfl) ?_
            refine sv rfl (opv_add rfl rfl) ?_
            refine sv rfl (opv_as rfl) ?_
            refine snil ?_
            obtain rfl := Option.some.inj h
            exact ⟨(n2, (wI (s2 + 1))), _, hk2, ⟨rfl, rfl, trivial⟩, rfl, Nat.lt_succ_self _⟩
      · replace h := ite_f hc h
        clear hc
        refine cexit ?_
        refine then_exit ?_
        refine then_exit ?_
        refine block_hit ?_
        refine then_normal ?_
        obtain rfl := Option.some.inj h
        obtain rfl : _ = x2 := hk2
        exact ⟨(), _, ho2, trivial, rfl⟩

def m30_l17_req (a0 : GR05Req) : Option GMsgReq :=
  some (GMsgReq.mk a0.Kind a0.Seq a0.Token a0.Attempt a0.RO a0.Key a0.Val (GApiRange.mk a0.Rng.Lo a0.Rng.Hi a0.Rng.Open))

set_option maxRecDepth 100000 in
theorem m30_l17_req_c {a0 : GR05Req} {r : GMsgReq} (h : m30_l17_req a0 = some r) : CallsA Tryd.prog 30 [.agg a0] (· = .s (.agg r)) := by
  unfold m30_l17_req at h
  refine callsA_of Tryd.func30 rfl (nt := 20) rfl (Nat.le_of_ble_eq_true rfl) ?_
  intro w0 S0
  refine cseq ?_
  refine cregion ?_
  refine sbox rfl rfl ?_
  refine salloc rfl zi87 ?_
  refine snil ?_
  refine cseq ?_
  refine cregion ?_
  refine sv rfl (opv_fieldAddr_lp fi89_0 rfl) ?_
  refine sv rfl (opv_load1 ti3 rfl (.lp _ _ _ rfl) rfl) ?_
  refine sv rfl (opv_fieldAddr_lp fi89_1 rfl) ?_
  refine sv rfl (opv_load1 ti3 rfl (.lp _ _ _ rfl) rfl) ?_
  refine sv rfl (opv_fieldAddr_lp fi89_2 rfl) ?_
  refine sv rfl (opv_load1 ti3 rfl (.lp _ _ _ rfl) rfl) ?_
  refine sv rfl (opv_fieldAddr_lp fi89_3 rfl) ?_
  refine sv rfl (opv_load1 ti3 rfl (.lp _ _ _ rfl) rfl) ?_
  refine sv rfl (opv_fieldAddr_lp fi89_4 rfl) ?_
  refine sv rfl (opv_load1 ti4 rfl (.lp _ _ _ rfl) rfl) ?_
  refine sv rfl (opv_fieldAddr_lp fi89_5 rfl) ?_
  refine sv rfl (opv_load1 ti34 rfl (.lp _ _ _ rfl) rfl) ?_
  refine sv rfl (opv_fieldAddr_lp fi89_6 rfl) ?_
  refine sv rfl (opv_load1 ti34 rfl (.lp _ _ _ rfl) rfl) ?_
  refine sv rfl (opv_fieldAddr_lp fi89_7 rfl) ?_
  refine sv rfl (opv_loadN ti85 rfl (.lp _ _ _ rfl) (Nat.le_of_ble_eq_true rfl)) ?_
  refine sv rfl (opv_build zi87 pi87 (parts_cons rfl (parts_cons rfl (parts_cons rfl (parts_cons rfl (parts_cons rfl (parts_cons rfl (parts_cons rfl (parts_cons rfl parts_nil)))))))) (bcons [.i .i64 a0.Kind, .i .i64 0, .i .i64 0, .i .i64 0, .b false, .raw (.slice none 0 0), .raw (.slice none 0 0), .raw (.slice none 0 0), .raw (.slice none 0 0), .b false] rfl rfl (Nat.le_of_ble_eq_true rfl) rfl (bcons [.i .i64 a0.Kind, .i .i64 a0.Seq, .i .i64 0, .i .i64 0, .b false, .raw (.slice none 0 0), .raw (.slice none 0 0), .raw (.slice none 0 0), .raw (.slice none 0 0), .b false] rfl rfl (Nat.le_of_ble_eq_true rfl) rfl (bcons [.i .i64 a0.Kind, .i .i64 a0.Seq, .i .i64 a0.Token, .i .i64 0, .b false, .raw (.slice none 0 0), .raw (.slice none 0 0), .raw (.slice none 0 0), .raw (.slice none 0 0), .b false] rfl rfl (Nat.le_of_ble_eq_true rfl) rfl (bcons [.i .i64 a0.Kind, .i .i64 a0.Seq, .i .i64 a0.Token, .i .i64 a0.Attempt, .b false, .raw (.slice none 0 0), .raw (.slice none 0 0), .raw (.slice none 0 0), .raw (.slice none 0 0), .b false] rfl rfl (Nat.le_of_ble_eq_true rfl) rfl (bcons [.i .i64 a0.Kind, .i .i64 a0.Seq, .i .i64 a0.Token, .i .i64 a0.Attempt, .b a0.RO, .raw (.slice none 0 0), .raw (.slice none 0 0), .raw (.slice none 0 0), .raw (.slice none 0 0), .b false] rfl rfl (Nat.le_of_ble_eq_true rfl) rfl (bcons [.i .i64 a0.Kind, .i .i64 a0.Seq, .i .i64 a0.Token, .i .i64 a0.Attempt, .b a0.RO, .sl a0.Key.length (a0.Key.flatMap eU8), .raw (.slice none 0 0), .raw (.slice none 0 0), .raw (.slice none 0 0), .b false] rfl rfl (Nat.le_of_ble_eq_true rfl) rfl (bcons [.i .i64 a0.Kind, .i .i64 a0.Seq, .i .i64 a0.Token, .i .i64 a0.Attempt, .b a0.RO, .sl a0.Key.length (a0.Key.flatMap eU8), .sl a0.Val.length (a0.Val.flatMap eU8), .raw (.slice none 0 0), .raw (.slice none 0 0), .b false] rfl rfl (Nat.le_of_ble_eq_true rfl) rfl (bcons [.i .i64 a0.Kind, .i .i64 a0.Seq, .i .i64 a0.Token, .i .i64 a0.Attempt, .b a0.RO, .sl a0.Key.length (a0.Key.flatMap eU8), .sl a0.Val.length (a0.Val.flatMap eU8), .sl a0.Rng.Lo.length (a0.Rng.Lo.flatMap eU8), .sl a0.Rng.Hi.length (a0.Rng.Hi.flatMap eU8), .b a0.Rng.Open] rfl rfl (Nat.le_of_ble_eq_true rfl) rfl (.nil _)))))))))) ?_
  refine sstore sz87 rfl rfl rfl rfl (Nat.le_of_ble_eq_true rfl) ?_
  refine smem [.box a0, .box a0] rfl ?_
  refine snil ?_
  refine cret ?_
  obtain rfl := Option.some.inj h
  refine ⟨Or.inr rfl, _, _, _, (resVs_cons (ResV.agg _ _ _ _ _ ti87 rfl (.lp _ _ _ rfl) (Nat.le_of_ble_eq_true rfl)) resVs_nil), (pubA_id rfl), ?_⟩
  rfl

def m31_l17_reply (a0 : GR05Reply) : Option GMsgReply :=
  some (GMsgReply.mk a0.Kind a0.Seq a0.Code a0.N a0.Found a0.Val a0.List)

set_option maxRecDepth 100000 in
theorem m31_l17_reply_c {a0 : GR05Reply} {r : GMsgReply} (h : m31_l17_reply a0 = some r) : CallsA Tryd.prog 31 [.agg a0] (· = .s (.agg r)) := by
  unfold m31_l17_reply at h
  refine callsA_of Tryd.func31 rfl (nt := 18) rfl (Nat.le_of_ble_eq_true rfl) ?_
  intro w0 S0
  refine cseq ?_
  refine cregion ?_
  refine sbox rfl rfl ?_
  refine salloc rfl zi92 ?_
  refine snil ?_
  refine cseq ?_
  refine cregion ?_
  refine sv rfl (opv_fieldAddr_lp fi94_0 rfl) ?_
  refine sv rfl (opv_load1 ti3 rfl (.lp _ _ _ rfl) rfl) ?_
  refine sv rfl (opv_fieldAddr_lp fi94_1 rfl) ?_
  refine sv rfl (opv_load1 ti3 rfl (.lp _ _ _ rfl) rfl) ?_
  refine sv rfl (opv_fieldAddr_lp fi94_2 rfl) ?_
  refine sv rfl (opv_load1 ti29 rfl (.lp _ _ _ rfl) rfl) ?_
  refine sv rfl (opv_fieldAddr_lp fi94_3 rfl) ?_
  refine sv rfl (opv_load1 ti3 rfl (.lp _ _ _ rfl) rfl) ?_
  refine sv rfl (opv_fieldAddr_lp fi94_4 rfl) ?_
  refine sv rfl (opv_load1 ti4 rfl (.lp _ _ _ rfl) rfl) ?_
  refine sv rfl (opv_fieldAddr_lp fi94_5 rfl) ?_
  refine sv rfl (opv_load1 ti34 rfl (.lp _ _ _ rfl) rfl) ?_
  refine sv rfl (opv_fieldAddr_lp fi94_6 rfl) ?_
  refine sv rfl (opv_load1 ti90 rfl (.lp _ _ _ rfl) rfl) ?_
  refine sv rfl (opv_build zi92 pi92 (parts_cons rfl (parts_cons rfl (parts_cons rfl (parts_cons rfl (parts_cons rfl (parts_cons rfl (parts_cons rfl parts_nil))))))) (bcons [.i .i64 a0.Kind, .i .i64 0, .i .i64 0, .i .i64 0, .b false, .raw (.slice none 0 0), .raw (.slice none 0 0)] rfl rfl (Nat.le_of_ble_eq_true rfl) rfl (bcons [.i .i64 a0.Kind, .i .i64 a0.Seq, .i .i64 0, .i .i64 0, .b false, .raw (.slice none 0 0), .raw (.slice none 0 0)] rfl rfl (Nat.le_of_ble_eq_true rfl) rfl (bcons [.i .i64 a0.Kind, .i .i64 a0.Seq, .i .i64 a0.Code, .i .i64 0, .b false, .raw (.slice none 0 0), .raw (.slice none 0 0)] rfl rfl (Nat.le_of_ble_eq_true rfl) rfl (bcons [.i .i64 a0.Kind, .i .i64 a0.Seq, .i .i64 a0.Code, .i .i64 a0.N, .b false, .raw (.slice none 0 0), .raw (.slice none 0 0)] rfl rfl (Nat.le_of_ble_eq_true rfl) rfl (bcons [.i .i64 a0.Kind, .i .i64 a0.Seq, .i .i64 a0.Code, .i .i64 a0.N, .b a0.Found, .raw (.slice none 0 0), .raw (.slice none 0 0)] rfl rfl (Nat.le_of_ble_eq_true rfl) rfl (bcons [.i .i64 a0.Kind, .i .i64 a0.Seq, .i .i64 a0.Code, .i .i64 a0.N, .b a0.Found, .sl a0.Val.length (a0.Val.flatMap eU8), .raw (.slice none 0 0)] rfl rfl (Nat.le_of_ble_eq_true rfl) rfl (bcons [.i .i64 a0.Kind, .i .i64 a0.Seq, .i .i64 a0.Code, .i .i64 a0.N, .b a0.Found, .sl a0.Val.length (a0.Val.flatMap eU8), .sl a0.List.length (a0.List.flatMap eGApiKV)] rfl rfl (Nat.le_of_ble_eq_true rfl) rfl (.nil _))))))))) ?_
  refine sstore sz92 rfl rfl rfl rfl (Nat.le_of_ble_eq_true rfl) ?_
  refine smem [.box a0, .box a0] rfl ?_
  refine snil ?_
  refine cret ?_
  obtain rfl := Option.some.inj h
  refine ⟨Or.inr rfl, _, _, _, (resVs_cons (ResV.agg _ _ _ _ _ ti92 rfl (.lp _ _ _ rfl) (Nat.le_of_ble_eq_true rfl)) resVs_nil), (pubA_id rfl), ?_⟩
  rfl

def m15_l17_conn_k2 (a0 : GR17Conn) (b1 : (List GMsgReq)) (b2 : (List GMsgReply)) : Option GConnsConn :=
  some (GConnsConn.mk a0.ID a0.Who a0.Epoch a0.Tx (GStreamStream.mk a0.Stream.Buf a0.Stream.Dead) (GPipePipe.mk (GSeqsWindow.mk a0.Pipe.Win.Base a0.Pipe.Win.Bits) a0.Pipe.Next b1 b2))

def m15_l17_conn_s3 (a0 : GR17Conn) (s3 : Int × (List GMsgReply)) : Option (LB (Int × (List GMsgReply)) ((List GMsgReply))) :=
  if (decide (s3.1 < (a0.Pipe.Past.length : Int))) then ((idx a0.Pipe.Past s3.1).bind fun u4 => (m31_l17_reply u4).bind fun v5 => if (s3.2.length + ([v5] : List GMsgReply).length) * 88 ≤ 140737488355328 then (some (.cont ((wI (s3.1 + 1)), (s3.2 ++ ([v5] : List GMsgReply))))) else none) else (some (.brk s3.2))

def m15_l17_conn_k1 (a0 : GR17Conn) (b1 : (List GMsgReq)) : Option GConnsConn :=
  (iterB (m15_l17_conn_s3 a0) fuel (0, ([] : List GMsgReply))).bind fun e7 => m15_l17_conn_k2 a0 b1 e7

def m15_l17_conn_s8 (a0 : GR17Conn) (s8 : Int × (List GMsgReq)) : Option (LB (Int × (List GMsgReq)) ((List GMsgReq))) :=
  if (decide (s8.1 < (a0.Pipe.Wait.length : Int))) then ((idx a0.Pipe.Wait s8.1).bind fun u9 => (m30_l17_req (GR05Req.mk u9.Kind u9.Seq u9.Token u9.Attempt u9.RO u9.Key u9.Val (GApiRange.mk u9.Rng.Lo u9.Rng.Hi u9.Rng.Open))).bind fun v10 => if (s8.2.length + ([(GMsgReq.mk v10.Kind v10.Seq v10.Token v10.Attempt v10.RO v10.Key v10.Val (GApiRange.mk v10.Rng.Lo v10.Rng.Hi v10.Rng.Open))] : List GMsgReq).length) * 144 ≤ 140737488355328 then (some (.cont ((wI (s8.1 + 1)), (s8.2 ++ ([(GMsgReq.mk v10.Kind v10.Seq v10.Token v10.Attempt v10.RO v10.Key v10.Val (GApiRange.mk v10.Rng.Lo v10.Rng.Hi v10.Rng.Open))] : List GMsgReq))))) else none) else (some (.brk s8.2))
def m15_l17_conn (a0 : GR17Conn) : Option GConnsConn :=
  (iterB (m15_l17_conn_s8 a0) fuel (0, ([] : List GMsgReq))).bind fun e12 => m15_l17_conn_k1 a0 e12

set_option maxRecDepth 100000 in
theorem m15_l17_conn_c {a0 : GR17Conn} {r : GConnsConn} (h : m15_l17_conn a0 = some r) : CallsA Tryd.prog 15 [.agg a0] (· = .s (.agg r)) := by
  unfold m15_l17_conn at h
  refine callsA_of Tryd.func15 rfl (nt := 81) rfl (Nat.le_of_ble_eq_true rfl) ?_
  intro w0 S0
  refine cseq ?_
  refine cregion ?_
  refine sbox rfl rfl ?_
  refine salloc rfl zi45 ?_
  refine snil ?_
  refine cseq ?_
  refine cregion ?_
  refine sv rfl (opv_fieldAddr_lp fi63_0 rfl) ?_
  refine sv rfl (opv_load1 ti3 rfl (.lp _ _ _ rfl) rfl) ?_
  refine sv rfl (opv_fieldAddr_lp fi63_1 rfl) ?_
  refine sv rfl (opv_load1 ti3 rfl (.lp _ _ _ rfl) rfl) ?_
  refine sv rfl (opv_fieldAddr_lp fi63_2 rfl) ?_
  refine sv rfl (opv_load1 ti3 rfl (.lp _ _ _ rfl) rfl) ?_
  refine sv rfl (opv_fieldAddr_lp fi63_3 rfl) ?_
  refine sv rfl (opv_load1 ti3 rfl (.lp _ _ _ rfl) rfl) ?_
  refine sv rfl (opv_fieldAddr_lp fi63_4 rfl) ?_
  refine sv rfl (opv_fieldAddr_lp fi56_0 rfl) ?_
  refine sv rfl (opv_load1 ti34 rfl (.lp _ _ _ rfl) rfl) ?_
  refine sv rfl (opv_fieldAddr_lp fi63_4 rfl) ?_
  refine sv rfl (opv_fieldAddr_lp fi56_1 rfl) ?_
  refine sv rfl (opv_load1 ti29 rfl (.lp _ _ _ rfl) rfl) ?_
  refine sv rfl (opv_build zi36 pi36 (parts_cons rfl (parts_cons rfl parts_nil)) (.cons _ _ _ _ _ _ _ rfl rfl (Nat.le_of_ble_eq_true rfl) (.cons _ _ _ _ _ _ _ rfl rfl (Nat.le_of_ble_eq_true rfl) (.nil _)))) ?_
  refine sv rfl (opv_build zi45 pi45 (parts_cons rfl (parts_cons rfl (parts_cons rfl (parts_cons rfl (parts_cons rfl parts_nil))))) (bcons [.i .i64 a0.ID, .i .i64 0, .i .i64 0, .i .i64 0, .raw (.slice none 0 0), .i .i64 0, .i .i64 0, .i .u64 ((0#64).toNat : Int), .i .i64 0, .raw (.slice none 0 0), .raw (.slice none 0 0)] rfl rfl (Nat.le_of_ble_eq_true rfl) rfl (bcons [.i .i64 a0.ID, .i .i64 a0.Who, .i .i64 0, .i .i64 0, .raw (.slice none 0 0), .i .i64 0, .i .i64 0, .i .u64 ((0#64).toNat : Int), .i .i64 0, .raw (.slice none 0 0), .raw (.slice none 0 0)] rfl rfl (Nat.le_of_ble_eq_true rfl) rfl (bcons [.i .i64 a0.ID, .i .i64 a0.Who, .i .i64 a0.Epoch, .i .i64 0, .raw (.slice none 0 0), .i .i64 0, .i .i64 0, .i .u64 ((0#64).toNat : Int), .i .i64 0, .raw (.slice none 0 0), .raw (.slice none 0 0)] rfl rfl (Nat.le_of_ble_eq_true rfl) rfl (bcons [.i .i64 a0.ID, .i .i64 a0.Who, .i .i64 a0.Epoch, .i .i64 a0.Tx, .raw (.slice none 0 0), .i .i64 0, .i .i64 0, .i .u64 ((0#64).toNat : Int), .i .i64 0, .raw (.slice none 0 0), .raw (.slice none 0 0)] rfl rfl (Nat.le_of_ble_eq_true rfl) rfl (bcons [.i .i64 a0.ID, .i .i64 a0.Who, .i .i64 a0.Epoch, .i .i64 a0.Tx, .sl a0.Stream.Buf.length (a0.Stream.Buf.flatMap eU8), .i .i64 a0.Stream.Dead, .i .i64 0, .i .u64 ((0#64).toNat : Int), .i .i64 0, .raw (.slice none 0 0), .raw (.slice none 0 0)] rfl rfl (Nat.le_of_ble_eq_true rfl) rfl (.nil _))))))) ?_
  refine salloc rfl zi45 ?_
  refine sstore sz45 rfl rfl rfl rfl (Nat.le_of_ble_eq_true rfl) ?_
  refine smem [.box a0, .box [.i .i64 0, .i .i64 0, .i .i64 0, .i .i64 0, .raw (.slice none 0 0), .i .i64 0, .i .i64 0, .i .u64 ((0#64).toNat : Int), .i .i64 0, .raw (.slice none 0 0), .raw (.slice none 0 0)], .box [.i .i64 a0.ID, .i .i64 a0.Who, .i .i64 a0.Epoch, .i .i64 a0.Tx, .sl a0.Stream.Buf.length (a0.Stream.Buf.flatMap eU8), .i .i64 a0.Stream.Dead, .i .i64 0, .i .u64 ((0#64).toNat : Int), .i .i64 0, .raw (.slice none 0 0), .raw (.slice none 0 0)]] rfl ?_
  refine snil ?_
  refine cseq ?_
  refine cregion ?_
  refine sv rfl (opv_fieldAddr_lp fi63_5 rfl) ?_
  refine sv rfl (opv_fieldAddr_lp fi61_0 rfl) ?_
  refine sv rfl (opv_fieldAddr_lp fi57_0 rfl) ?_
  refine sv rfl (opv_load1 ti3 rfl (.lp _ _ _ rfl) rfl) ?_
  refine sv rfl (opv_fieldAddr_lp fi63_5 rfl) ?_
  refine sv rfl (opv_fieldAddr_lp fi61_0 rfl) ?_
  refine sv rfl (opv_fieldAddr_lp fi57_1 rfl) ?_
  refine sv rfl (opv_load1 ti37 rfl (.lp _ _ _ rfl) rfl) ?_
  refine sv rfl (opv_build zi39 pi39 (parts_cons rfl (parts_cons rfl parts_nil)) (.cons _ _ _ _ _ _ _ rfl rfl (Nat.le_of_ble_eq_true rfl) (.cons _ _ _ _ _ _ _ rfl rfl (Nat.le_of_ble_eq_true rfl) (.nil _)))) ?_
  refine sv rfl (opv_fieldAddr_lp fi63_5 rfl) ?_
  refine sv rfl (opv_fieldAddr_lp fi61_1 rfl) ?_
  refine sv rfl (opv_load1 ti3 rfl (.lp _ _ _ rfl) rfl) ?_
  refine sv rfl (opv_build zi43 pi43 (parts_cons rfl (parts_cons rfl parts_nil)) (.cons _ _ _ _ _ _ _ rfl rfl (Nat.le_of_ble_eq_true rfl) (.cons _ _ _ _ _ _ _ rfl rfl (Nat.le_of_ble_eq_true rfl) (.nil _)))) ?_
  refine sv rfl (opv_fieldAddr_lp fi45_5 rfl) ?_
  refine sstore sz43 rfl rfl rfl rfl (Nat.le_of_ble_eq_true rfl) ?_
  refine smem [.box a0, .box [.i .i64 0, .i .i64 0, .i .i64 0, .i .i64 0, .raw (.slice none 0 0), .i .i64 0, .i .i64 0, .i .u64 ((0#64).toNat : Int), .i .i64 0, .raw (.slice none 0 0), .raw (.slice none 0 0)], .box [.i .i64 a0.ID, .i .i64 a0.Who, .i .i64 a0.Epoch, .i .i64 a0.Tx, .sl a0.Stream.Buf.length (a0.Stream.Buf.flatMap eU8), .i .i64 a0.Stream.Dead, .i .i64 a0.Pipe.Win.Base, .i .u64 (a0.Pipe.Win.Bits.toNat : Int), .i .i64 a0.Pipe.Next, .raw (.slice none 0 0), .raw (.slice none 0 0)]] rfl ?_
  refine snil ?_
  refine cseq ?_
  refine cseq ?_
  refine cregion ?_
  refine sv rfl (opv_as rfl) ?_
  refine snil ?_
  refine sadopt_box_c 87 10 2 9 (by decide) rfl rfl ?_
  refine cjoin ((List GMsgReq)) (fun b1 => [(1, .s (.one (.lp 0 0))), (2, .s (.one (.lp 1 0))), (3, .s (.one (.lp 2 0)))]) (fun b1 => [.box a0, .box [.i .i64 0, .i .i64 0, .i .i64 0, .i .i64 0, .raw (.slice none 0 0), .i .i64 0, .i .i64 0, .i .u64 ((0#64).toNat : Int), .i .i64 0, .raw (.slice none 0 0), .raw (.slice none 0 0)], .box [.i .i64 a0.ID, .i .i64 a0.Who, .i .i64 a0.Epoch, .i .i64 a0.Tx, .sl a0.Stream.Buf.length (a0.Stream.Buf.flatMap eU8), .i .i64 a0.Stream.Dead, .i .i64 a0.Pipe.Win.Base, .i .u64 (a0.Pipe.Win.Bits.toNat : Int), .i .i64 a0.Pipe.Next, .ls 3 b1.length, .raw (.slice none 0 0)], .arr 87 10 0 (b1.flatMap eGMsgReq)]) (fun b1 => m15_l17_conn_k1 a0 b1 = some r) (fun _ _ => inbL_of rfl) (fun _ _ => blkinb_of rfl) (fun _ _ => Nat.le_of_ble_eq_true rfl) (fun b1 h => ?_) ?_
  · unfold m15_l17_conn_k1 at h
    refine cseq ?_
    refine cseq ?_
    refine cregion ?_
    refine sv rfl (opv_as rfl) ?_
    refine snil ?_
    refine sadopt_box_c 92 7 2 10 (by decide) rfl rfl ?_
    refine cjoin ((List GMsgReply)) (fun b2 => [(2, .s (.one (.lp 1 0))), (3, .s (.one (.lp 2 0)))]) (fun b2 => [.box a0, .box [.i .i64 0, .i .i64 0, .i .i64 0, .i .i64 0, .raw (.slice none 0 0), .i .i64 0, .i .i64 0, .i .u64 ((0#64).toNat : Int), .i .i64 0, .raw (.slice none 0 0), .raw (.slice none 0 0)], .box [.i .i64 a0.ID, .i .i64 a0.Who, .i .i64 a0.Epoch, .i .i64 a0.Tx, .sl a0.Stream.Buf.length (a0.Stream.Buf.flatMap eU8), .i .i64 a0.Stream.Dead, .i .i64 a0.Pipe.Win.Base, .i .u64 (a0.Pipe.Win.Bits.toNat : Int), .i .i64 a0.Pipe.Next, .ls 3 b1.length, .ls 4 b2.length], .arr 87 10 0 (b1.flatMap eGMsgReq), .arr 92 7 0 (b2.flatMap eGMsgReply)]) (fun b2 => m15_l17_conn_k2 a0 b1 b2 = some r) (fun _ _ => inbL_of rfl) (fun _ _ => blkinb_of rfl) (fun _ _ => Nat.le_of_ble_eq_true rfl) (fun b2 h => ?_) ?_
    · unfold m15_l17_conn_k2 at h
      refine cseq ?_
      refine cregion ?_
      refine sv rfl (opv_loadN ti45 rfl (.lp _ _ _ rfl) (Nat.le_of_ble_eq_true rfl)) ?_
      refine sstore sz45 rfl rfl rfl rfl (Nat.le_of_ble_eq_true rfl) ?_
      refine smem [.box a0, .box [.i .i64 a0.ID, .i .i64 a0.Who, .i .i64 a0.Epoch, .i .i64 a0.Tx, .sl a0.Stream.Buf.length (a0.Stream.Buf.flatMap eU8), .i .i64 a0.Stream.Dead, .i .i64 a0.Pipe.Win.Base, .i .u64 (a0.Pipe.Win.Bits.toNat : Int), .i .i64 a0.Pipe.Next, .ls 3 b1.length, .ls 4 b2.length], .box [.i .i64 a0.ID, .i .i64 a0.Who, .i .i64 a0.Epoch, .i .i64 a0.Tx, .sl a0.Stream.Buf.length (a0.Stream.Buf.flatMap eU8), .i .i64 a0.Stream.Dead, .i .i64 a0.Pipe.Win.Base, .i .u64 (a0.Pipe.Win.Bits.toNat : Int), .i .i64 a0.Pipe.Next, .ls 3 b1.length, .ls 4 b2.length], .arr 87 10 0 (b1.flatMap eGMsgReq), .arr 92 7 0 (b2.flatMap eGMsgReply)] rfl ?_
      refine snil ?_
      refine cret ?_
      obtain rfl := Option.some.inj h
      refine ⟨Or.inr rfl, _, _, _, (resVs_cons (ResV.agg _ _ _ _ _ ti45 rfl (.lp _ _ _ rfl) (Nat.le_of_ble_eq_true rfl)) resVs_nil), (by (repeat' first | exact PubA.nil _ | apply PubA.cons | apply PubV.one | apply PubV.agg | exact PubL.nil | exact PubL.ls _ _ _ _ _ _ rfl (flat_len (f := eGMsgReply) (fun _ => rfl) _).symm | exact PubL.ls _ _ _ _ _ _ rfl (flat_len (f := eGMsgReq) (fun _ => rfl) _).symm | exact PubL.id _ rfl | exact PubLs.nil _ | apply PubLs.cons)), ?_⟩
      rfl
    · skip
      refine cblock ?_
      obtain ⟨x3, hx3, ho3⟩ := bind_eq h
      refine awc_loop (G := Nat × (Int × (List GMsgReply))) (fun g => [(1, .s (.one (.lp 0 0))), (2, .s (.one (.lp 1 0))), (3, .s (.one (.lp 2 0))), (5, .s (.one (.i .i64 g.2.1)))]) (fun g => [.box a0, .box [.i .i64 0, .i .i64 0, .i .i64 0, .i .i64 0, .raw (.slice none 0 0), .i .i64 0, .i .i64 0, .i .u64 ((0#64).toNat : Int), .i .i64 0, .raw (.slice none 0 0), .raw (.slice none 0 0)], .box [.i .i64 a0.ID, .i .i64 a0.Who, .i .i64 a0.Epoch, .i .i64 a0.Tx, .sl a0.Stream.Buf.length (a0.Stream.Buf.flatMap eU8), .i .i64 a0.Stream.Dead, .i .i64 a0.Pipe.Win.Base, .i .u64 (a0.Pipe.Win.Bits.toNat : Int), .i .i64 a0.Pipe.Next, .ls 3 b1.length, .ls 4 g.2.2.length], .arr 87 10 0 (b1.flatMap eGMsgReq), .arr 92 7 0 (g.2.2.flatMap eGMsgReply)]) (fun g => iterB (m15_l17_conn_s3 a0) g.1 g.2 = some x3) (fun g => g.1) (fuel, (0, ([] : List GMsgReply))) hx3 ⟨rfl, rfl, rfl, rfl, trivial⟩ [] rfl (fun _ _ => inbL_of rfl) (fun _ _ => blkinb_of rfl) (fun _ _ => Nat.le_of_ble_eq_true rfl) ?_
      clear hx3 h
      rintro ⟨n3, s3⟩ h
      obtain ⟨n3, y3, rfl, h, hk3⟩ := iterB_eq h
      unfold m15_l17_conn_s3 at h
      refine cseq ?_
      refine cseq ?_
      refine cregion ?_
      refine sv rfl (opv_mv rfl) ?_
      refine sv rfl (opv_fieldAddr_lp fi63_5 rfl) ?_
      refine sv rfl (opv_fieldAddr_lp fi61_3 rfl) ?_
      refine sv rfl (opv_load1 ti59 rfl (.lp _ _ _ rfl) rfl) ?_
      refine sv rfl (opv_len_sl si59 rfl) ?_
      refine sv rfl (opv_lss rfl rfl) ?_
      refine snil ?_
      refine ccond rfl (fun hc => ?_) (fun hc => ?_)
      · replace h := ite_t hc h
        clear hc
        refine cskip ?_
        refine then_normal ?_
        refine cseq ?_
        refine cblock ?_
        obtain ⟨u4, hu4, h⟩ := bind_eq h
        obtain ⟨v5, hv5, h⟩ := bind_eq h
        obtain ⟨hb6, h⟩ := chk_eq h
        refine cdraw_e [11, 14] [0, 1, 3, 0, 8, 24, 0, 120, 248, 504, 1016, 2047, 4095, 8191, 16383] [[.box a0, .box [.i .i64 0, .i .i64 0, .i .i64 0, .i .i64 0, .raw (.slice none 0 0), .i .i64 0, .i .i64 0, .i .u64 ((0#64).toNat : Int), .i .i64 0, .raw (.slice none 0 0), .raw (.slice none 0 0)], .box [.i .i64 a0.ID, .i .i64 a0.Who, .i .i64 a0.Epoch, .i .i64 a0.Tx, .sl a0.Stream.Buf.length (a0.Stream.Buf.flatMap eU8), .i .i64 a0.Stream.Dead, .i .i64 a0.Pipe.Win.Base, .i .u64 (a0.Pipe.Win.Bits.toNat : Int), .i .i64 a0.Pipe.Next, .ls 3 b1.length, .ls 4 s3.2.length], .arr 87 10 0 (b1.flatMap eGMsgReq), .arr 92 7 0 (s3.2.flatMap eGMsgReply)], [.box a0, .box [.i .i64 0, .i .i64 0, .i .i64 0, .i .i64 0, .raw (.slice none 0 0), .i .i64 0, .i .i64 0, .i .u64 ((0#64).toNat : Int), .i .i64 0, .raw (.slice none 0 0), .raw (.slice none 0 0)], .box [.i .i64 a0.ID, .i .i64 a0.Who, .i .i64 a0.Epoch, .i .i64 a0.Tx, .sl a0.Stream.Buf.length (a0.Stream.Buf.flatMap eU8), .i .i64 a0.Stream.Dead, .i .i64 a0.Pipe.Win.Base, .i .u64 (a0.Pipe.Win.Bits.toNat : Int), .i .i64 a0.Pipe.Next, .ls 3 b1.length, .ls 4 s3.2.length], .arr 87 10 0 (b1.flatMap eGMsgReq), .arr 92 7 0 ((s3.2 ++ ([v5] : List GMsgReply)).flatMap eGMsgReply)], [.box a0, .box [.i .i64 0, .i .i64 0, .i .i64 0, .i .i64 0, .raw (.slice none 0 0), .i .i64 0, .i .i64 0, .i .u64 ((0#64).toNat : Int), .i .i64 0, .raw (.slice none 0 0), .raw (.slice none 0 0)], .box [.i .i64 a0.ID, .i .i64 a0.Who, .i .i64 a0.Epoch, .i .i64 a0.Tx, .sl a0.Stream.Buf.length (a0.Stream.Buf.flatMap eU8), .i .i64 a0.Stream.Dead, .i .i64 a0.Pipe.Win.Base, .i .u64 (a0.Pipe.Win.Bits.toNat : Int), .i .i64 a0.Pipe.Next, .ls 3 b1.length, .ls 4 (s3.2 ++ ([v5] : List GMsgReply)).length], .arr 87 10 0 (b1.flatMap eGMsgReq), .arr 92 7 0 ((s3.2 ++ ([v5] : List GMsgReply)).flatMap eGMsgReply)]] (by kernel_rfl) mixed (by kernel_rfl) (by decide) rfl rfl rfl rfl ?_
        refine ev (sees_at 0 rfl rfl) rfl rfl (opv_fieldAddr_lp fi45_5 rfl) ?_
        refine ev (sees_at 0 rfl rfl) rfl rfl (opv_fieldAddr_lp fi43_3 rfl) ?_
        refine ev (sees_at 0 rfl rfl) rfl rfl (opv_load1 ti41 rfl (.lp _ _ _ rfl) rfl) ?_
        refine ev (sees_at 0 rfl rfl) rfl rfl (opv_fieldAddr_lp fi63_5 rfl) ?_
        refine ev (sees_at 0 rfl rfl) rfl rfl (opv_fieldAddr_lp fi61_3 rfl) ?_
        refine ev (sees_at 0 rfl rfl) rfl rfl (opv_load1 ti59 rfl (.lp _ _ _ rfl) rfl) ?_
        refine ev (sees_at 0 rfl rfl) rfl rfl (opv_mv rfl) ?_
        refine ev (sees_at 0 rfl rfl) rfl rfl (opv_ix (f := eGR05Reply) si59 (fun _ => rfl) rfl rfl rfl rfl hu4) ?_
        refine ev (sees_at 0 rfl rfl) rfl rfl (opv_loadNe (ys := [.i .i64 u4.Kind, .i .i64 u4.Seq, .i .i64 u4.Code, .i .i64 u4.N, .b u4.Found, .sl u4.Val.length (u4.Val.flatMap eU8), .sl u4.List.length (u4.List.flatMap eGApiKV)]) ti94 rfl (.cp _) rfl rfl) ?_
        refine ed (sees_at 0 rfl rfl) rfl rfl (opD_call fn31 (opnds_cons rfl opnds_nil) rfl (m31_l17_reply_c hv5)) ?_
        refine ed (sees_at 0 rfl rfl) rfl rfl (opD_bld (out := ([v5] : List GMsgReply).flatMap eGMsgReply) Tryd.underlying41 ei92 (parts_cons rfl parts_nil) (.cons _ _ _ _ _ _ _ rfl rfl (Nat.le_of_ble_eq_true rfl) (.nil _)) rfl (by decide)) ?_
        refine ee (x := .s (.one (.ls 4 (s3.2 ++ ([v5] : List GMsgReply)).length))) 0 rfl rfl rfl rfl rfl (fun ζ => ?_) ?_
        · refine sapp (f := eGMsgReply) (xs := s3.2) (us := ([v5] : List GMsgReply)) rfl Tryd.underlying41 ei92 ni41 (fun _ => rfl) rfl rfl (.one _ _ _ _ (.id _ rfl)) rfl rfl rfl (.sl _ _ _ (flat_len (f := eGMsgReply) (fun _ => rfl) _)) rfl rfl hb6 (by decide) ?_
          exact eend
        refine ev (sees_at 1 rfl rfl) rfl rfl (opv_fieldAddr_lp fi45_5 rfl) ?_
        refine ev (sees_at 1 rfl rfl) rfl rfl (opv_fieldAddr_lp fi43_3 rfl) ?_
        refine ee0 1 rfl rfl rfl rfl (fun ζ => ?_) ?_
        · refine sstore sz41 rfl rfl rfl rfl (Nat.le_of_ble_eq_true rfl) ?_
          refine smem [.box a0, .box [.i .i64 0, .i .i64 0, .i .i64 0, .i .i64 0, .raw (.slice none 0 0), .i .i64 0, .i .i64 0, .i .u64 ((0#64).toNat : Int), .i .i64 0, .raw (.slice none 0 0), .raw (.slice none 0 0)], .box [.i .i64 a0.ID, .i .i64 a0.Who, .i .i64 a0.Epoch, .i .i64 a0.Tx, .sl a0.Stream.Buf.length (a0.Stream.Buf.flatMap eU8), .i .i64 a0.Stream.Dead, .i .i64 a0.Pipe.Win.Base, .i .u64 (a0.Pipe.Win.Bits.toNat : Int), .i .i64 a0.Pipe.Next, .ls 3 b1.length, .ls 4 (s3.2 ++ ([v5] : List GMsgReply)).length], .arr 87 10 0 (b1.flatMap eGMsgReq), .arr 92 7 0 ((s3.2 ++ ([v5] : List GMsgReply)).flatMap eGMsgReply)] rfl ?_
          exact eend
        refine enil ?_
        refine block_normal ?_
        refine then_normal ?_
        refine cregion ?_
        refine sv rfl (opv_mv rfl) ?_
        refine sv rfl (opv_add rfl rfl) ?_
        refine sv rfl (opv_as rfl) ?_
        refine snil ?_
        obtain rfl := Option.some.inj h
        exact ⟨(n3, ((wI (s3.1 + 1)), (s3.2 ++ ([v5] : List GMsgReply)))), _, hk3, ⟨rfl, rfl, rfl, rfl, trivial⟩, rfl, Nat.lt_succ_self _⟩
      · replace h := ite_f hc h
        clear hc
        refine cexit ?_
        refine then_exit ?_
        refine then_exit ?_
        refine block_hit ?_
        refine then_normal ?_
        obtain rfl := Option.some.inj h
        obtain rfl : _ = x3 := hk3
        exact ⟨s3.2, _, ho3, ⟨rfl, rfl, trivial⟩, rfl⟩
  · skip
    refine cblock ?_
    obtain ⟨x8, hx8, ho8⟩ := bind_eq h
    refine awc_loop (G := Nat × (Int × (List GMsgReq))) (fun g => [(1, .s (.one (.lp 0 0))), (2, .s (.one (.lp 1 0))), (3, .s (.one (.lp 2 0))), (4, .s (.one (.i .i64 g.2.1)))]) (fun g => [.box a0, .box [.i .i64 0, .i .i64 0, .i .i64 0, .i .i64 0, .raw (.slice none 0 0), .i .i64 0, .i .i64 0, .i .u64 ((0#64).toNat : Int), .i .i64 0, .raw (.slice none 0 0), .raw (.slice none 0 0)], .box [.i .i64 a0.ID, .i .i64 a0.Who, .i .i64 a0.Epoch, .i .i64 a0.Tx, .sl a0.Stream.Buf.length (a0.Stream.Buf.flatMap eU8), .i .i64 a0.Stream.Dead, .i .i64 a0.Pipe.Win.Base, .i .u64 (a0.Pipe.Win.Bits.toNat : Int), .i .i64 a0.Pipe.Next, .ls 3 g.2.2.length, .raw (.slice none 0 0)], .arr 87 10 0 (g.2.2.flatMap eGMsgReq)]) (fun g => iterB (m15_l17_conn_s8 a0) g.1 g.2 = some x8) (fun g => g.1) (fuel, (0, ([] : List GMsgReq))) hx8 ⟨rfl, rfl, rfl, rfl, trivial⟩ [] rfl (fun _ _ => inbL_of rfl) (fun _ _ => blkinb_of rfl) (fun _ _ => Nat.le_of_ble_eq_true rfl) ?_
    clear hx8 h
    rintro ⟨n8, s8⟩ h
    obtain ⟨n8, y8, rfl, h, hk8⟩ := iterB_eq h
    unfold m15_l17_conn_s8 at h
    refine cseq ?_
    refine cseq ?_
    refine cregion ?_
    refine sv rfl (opv_mv rfl) ?_
    refine sv rfl (opv_fieldAddr_lp fi63_5 rfl) ?_
    refine sv rfl (opv_fieldAddr_lp fi61_2 rfl) ?_
    refine sv rfl (opv_load1 ti58 rfl (.lp _ _ _ rfl) rfl) ?_
    refine sv rfl (opv_len_sl si58 rfl) ?_
    refine sv rfl (opv_lss rfl rfl) ?_
    refine snil ?_
    refine ccond rfl (fun hc => ?_) (fun hc => ?_)
    · replace h := ite_t hc h
      clear hc
      refine cskip ?_
      refine then_normal ?_
      refine cseq ?_
      refine cblock ?_
      obtain ⟨u9, hu9, h⟩ := bind_eq h
      obtain ⟨v10, hv10, h⟩ := bind_eq h
      obtain ⟨hb11, h⟩ := chk_eq h
      refine cdraw_e [11, 14] [0, 1, 3, 0, 8, 24, 0, 120, 248, 504, 1016, 2047, 4095, 8191, 16383] [[.box a0, .box [.i .i64 0, .i .i64 0, .i .i64 0, .i .i64 0, .raw (.slice none 0 0), .i .i64 0, .i .i64 0, .i .u64 ((0#64).toNat : Int), .i .i64 0, .raw (.slice none 0 0), .raw (.slice none 0 0)], .box [.i .i64 a0.ID, .i .i64 a0.Who, .i .i64 a0.Epoch, .i .i64 a0.Tx, .sl a0.Stream.Buf.length (a0.Stream.Buf.flatMap eU8), .i .i64 a0.Stream.Dead, .i .i64 a0.Pipe.Win.Base, .i .u64 (a0.Pipe.Win.Bits.toNat : Int), .i .i64 a0.Pipe.Next, .ls 3 s8.2.length, .raw (.slice none 0 0)], .arr 87 10 0 (s8.2.flatMap eGMsgReq)], [.box a0, .box [.i .i64 0, .i .i64 0, .i .i64 0, .i .i64 0, .raw (.slice none 0 0), .i .i64 0, .i .i64 0, .i .u64 ((0#64).toNat : Int), .i .i64 0, .raw (.slice none 0 0), .raw (.slice none 0 0)], .box [.i .i64 a0.ID, .i .i64 a0.Who, .i .i64 a0.Epoch, .i .i64 a0.Tx, .sl a0.Stream.Buf.length (a0.Stream.Buf.flatMap eU8), .i .i64 a0.Stream.Dead, .i .i64 a0.Pipe.Win.Base, .i .u64 (a0.Pipe.Win.Bits.toNat : Int), .i .i64 a0.Pipe.Next, .ls 3 s8.2.length, .raw (.slice none 0 0)], .arr 87 10 0 ((s8.2 ++ ([(GMsgReq.mk v10.Kind v10.Seq v10.Token v10.Attempt v10.RO v10.Key v10.Val (GApiRange.mk v10.Rng.Lo v10.Rng.Hi v10.Rng.Open))] : List GMsgReq)).flatMap eGMsgReq)], [.box a0, .box [.i .i64 0, .i .i64 0, .i .i64 0, .i .i64 0, .raw (.slice none 0 0), .i .i64 0, .i .i64 0, .i .u64 ((0#64).toNat : Int), .i .i64 0, .raw (.slice none 0 0), .raw (.slice none 0 0)], .box [.i .i64 a0.ID, .i .i64 a0.Who, .i .i64 a0.Epoch, .i .i64 a0.Tx, .sl a0.Stream.Buf.length (a0.Stream.Buf.flatMap eU8), .i .i64 a0.Stream.Dead, .i .i64 a0.Pipe.Win.Base, .i .u64 (a0.Pipe.Win.Bits.toNat : Int), .i .i64 a0.Pipe.Next, .ls 3 (s8.2 ++ ([(GMsgReq.mk v10.Kind v10.Seq v10.Token v10.Attempt v10.RO v10.Key v10.Val (GApiRange.mk v10.Rng.Lo v10.Rng.Hi v10.Rng.Open))] : List GMsgReq)).length, .raw (.slice none 0 0)], .arr 87 10 0 ((s8.2 ++ ([(GMsgReq.mk v10.Kind v10.Seq v10.Token v10.Attempt v10.RO v10.Key v10.Val (GApiRange.mk v10.Rng.Lo v10.Rng.Hi v10.Rng.Open))] : List GMsgReq)).flatMap eGMsgReq)]] (by kernel_rfl) mixed (by kernel_rfl) (by decide) rfl rfl rfl rfl ?_
      refine ev (sees_at 0 rfl rfl) rfl rfl (opv_fieldAddr_lp fi45_5 rfl) ?_
      refine ev (sees_at 0 rfl rfl) rfl rfl (opv_fieldAddr_lp fi43_2 rfl) ?_
      refine ev (sees_at 0 rfl rfl) rfl rfl (opv_load1 ti40 rfl (.lp _ _ _ rfl) rfl) ?_
      refine ev (sees_at 0 rfl rfl) rfl rfl (opv_fieldAddr_lp fi63_5 rfl) ?_
      refine ev (sees_at 0 rfl rfl) rfl rfl (opv_fieldAddr_lp fi61_2 rfl) ?_
      refine ev (sees_at 0 rfl rfl) rfl rfl (opv_load1 ti58 rfl (.lp _ _ _ rfl) rfl) ?_
      refine ev (sees_at 0 rfl rfl) rfl rfl (opv_mv rfl) ?_
      refine ev (sees_at 0 rfl rfl) rfl rfl (opv_ix (f := eGR05Req) si58 (fun _ => rfl) rfl rfl rfl rfl hu9) ?_
      refine ev (sees_at 0 rfl rfl) rfl rfl (opv_loadNe (ys := [.i .i64 u9.Kind, .i .i64 u9.Seq, .i .i64 u9.Token, .i .i64 u9.Attempt, .b u9.RO, .sl u9.Key.length (u9.Key.flatMap eU8), .sl u9.Val.length (u9.Val.flatMap eU8), .sl u9.Rng.Lo.length (u9.Rng.Lo.flatMap eU8), .sl u9.Rng.Hi.length (u9.Rng.Hi.flatMap eU8), .b u9.Rng.Open]) ti89 rfl (.cp _) rfl rfl) ?_
      refine ed (sees_at 0 rfl rfl) rfl rfl (opD_call fn30 (opnds_cons rfl opnds_nil) rfl (m30_l17_req_c hv10)) ?_
      refine ed (sees_at 0 rfl rfl) rfl rfl (opD_bld (out := ([(GMsgReq.mk v10.Kind v10.Seq v10.Token v10.Attempt v10.RO v10.Key v10.Val (GApiRange.mk v10.Rng.Lo v10.Rng.Hi v10.Rng.Open))] : List GMsgReq).flatMap eGMsgReq) Tryd.underlying40 ei87 (parts_cons rfl parts_nil) (.cons _ _ _ _ _ _ _ rfl rfl (Nat.le_of_ble_eq_true rfl) (.nil _)) rfl (by decide)) ?_
      refine ee (x := .s (.one (.ls 3 (s8.2 ++ ([(GMsgReq.mk v10.Kind v10.Seq v10.Token v10.Attempt v10.RO v10.Key v10.Val (GApiRange.mk v10.Rng.Lo v10.Rng.Hi v10.Rng.Open))] : List GMsgReq)).length))) 0 rfl rfl rfl rfl rfl (fun ζ => ?_) ?_
      · refine sapp (f := eGMsgReq) (xs := s8.2) (us := ([(GMsgReq.mk v10.Kind v10.Seq v10.Token v10.Attempt v10.RO v10.Key v10.Val (GApiRange.mk v10.Rng.Lo v10.Rng.Hi v10.Rng.Open))] : List GMsgReq)) rfl Tryd.underlying40 ei87 ni40 (fun _ => rfl) rfl rfl (.one _ _ _ _ (.id _ rfl)) rfl rfl rfl (.sl _ _ _ (flat_len (f := eGMsgReq) (fun _ => rfl) _)) rfl rfl hb11 (by decide) ?_
        exact eend
      refine ev (sees_at 1 rfl rfl) rfl rfl (opv_fieldAddr_lp fi45_5 rfl) ?_
      refine ev (sees_at 1 rfl rfl) rfl rfl (opv_fieldAddr_lp fi43_2 rfl) ?_
      refine ee0 1 rfl rfl rfl rfl (fun ζ => ?_) ?_
      · refine sstore sz40 rfl rfl rfl rfl (Nat.le_of_ble_eq_true rfl) ?_
        refine smem [.box a0, .box [.i .i64 0, .i .i64 0, .i .i64 0, .i .i64 0, .raw (.slice none 0 0), .i .i64 0, .i .i64 0, .i .u64 ((0#64).toNat : Int), .i .i64 0, .raw (.slice none 0 0), .raw (.slice none 0 0)], .box [.i .i64 a0.ID, .i .i64 a0.Who, .i .i64 a0.Epoch, .i .i64 a0.Tx, .sl a0.Stream.Buf.length (a0.Stream.Buf.flatMap eU8), .i .i64 a0.Stream.Dead, .i .i64 a0.Pipe.Win.Base, .i .u64 (a0.Pipe.Win.Bits.toNat : Int), .i .i64 a0.Pipe.Next, .ls 3 (s8.2 ++ ([(GMsgReq.mk v10.Kind v10.Seq v10.Token v10.Attempt v10.RO v10.Key v10.Val (GApiRange.mk v10.Rng.Lo v10.Rng.Hi v10.Rng.Open))] : List GMsgReq)).length, .raw (.slice none 0 0)], .arr 87 10 0 ((s8.2 ++ ([(GMsgReq.mk v10.Kind v10.Seq v10.Token v10.Attempt v10.RO v10.Key v10.Val (GApiRange.mk v10.Rng.Lo v10.Rng.Hi v10.Rng.Open))] : List GMsgReq)).flatMap eGMsgReq)] rfl ?_
        exact eend
      refine enil ?_
      refine block_normal ?_
      refine then_normal ?_
      refine cregion ?_
      refine sv rfl (opv_mv rfl) ?_
      refine sv rfl (opv_add rfl rfl) ?_
      refine sv rfl (opv_as rfl) ?_
      refine snil ?_
      obtain rfl := Option.some.inj h
      exact ⟨(n8, ((wI (s8.1 + 1)), (s8.2 ++ ([(GMsgReq.mk v10.Kind v10.Seq v10.Token v10.Attempt v10.RO v10.Key v10.Val (GApiRange.mk v10.Rng.Lo v10.Rng.Hi v10.Rng.Open))] : List GMsgReq)))), _, hk8, ⟨rfl, rfl, rfl, rfl, trivial⟩, rfl, Nat.lt_succ_self _⟩
    · replace h := ite_f hc h
      clear hc
      refine cexit ?_
      refine then_exit ?_
      refine then_exit ?_
      refine block_hit ?_
      refine then_normal ?_
      obtain rfl := Option.some.inj h
      obtain rfl : _ = x8 := hk8
      exact ⟨s8.2, _, ho8, ⟨rfl, rfl, rfl, trivial⟩, rfl⟩

end Go.Proofs.YtlnpkincpgbmcaaDoor.Abs
