/-
  t
-/
import Derived.Test.YtlpanhfojeaamaaDoorT16b
namespace Go.Proofs.YtlpanhfojeaamaaDoor.Abs
open Go.RowKit Go.Proofs
def m47_r15_Seen (a0 : GR15Window) (a1 : Int) : Option Bool :=
  (m46_r15_Sane a0).bind fun v3 => if (!v3) then (some false) else (if (decide (a1 < 0)) then (some false) else (if (decide (4294967296 ≤ a1)) then (some false) else (m47_r15_Seen_k1 a0 a1 ())))

set_option maxRecDepth 100000 in
theorem m47_r15_Seen_c {a0 : GR15Window} {a1 : Int} {r : Bool} (h : m47_r15_Seen a0 a1 = some r) : CallsA Tryd.prog 47 [.agg a0, .one (.i .i64 a1)] (· = .s (.one (.b r))) := by
  unfold m47_r15_Seen at h
  refine callsA_of Tryd.func47 rfl (nt := 36) rfl (Nat.le_of_ble_eq_true rfl) ?_
  intro w0 S0
  refine cseq ?_
  refine cregion ?_
  refine sbox rfl rfl ?_
  refine sv rfl (opv_as rfl) ?_
  refine snil ?_
  refine cseq ?_
  refine cseq ?_
  refine cjoin3 (Unit) (fun b1 => [(1, .s (.one (.i .i64 a1))), (2, .s (.one (.lp 0 0)))]) (fun b1 => [.box a0]) (fun b1 => m47_r15_Seen_k1 a0 a1 b1 = some r) (fun _ _ => inbL_of rfl) (fun _ _ => blkinb_of rfl) (fun _ _ => Nat.le_of_ble_eq_true rfl) (fun b1 h => ?_) ?_
  · unfold m47_r15_Seen_k1 at h
    refine cseq ?_
    refine cregion ?_
    refine sv rfl (opv_mv rfl) ?_
    refine sv rfl (opv_fieldAddr_lp fi24_0 rfl) ?_
    refine sv rfl (opv_load1 ti3 rfl (.lp _ _ _ rfl) rfl) ?_
    refine sv rfl (opv_lss rfl rfl) ?_
    refine sv rfl (opv_mv rfl) ?_
    refine ssplit 20 rfl (fun hc => ?_) (fun hc => ?_)
    · replace h := ite_t hc h
      clear hc
      refine soff rfl rfl rfl rfl ?_
      refine soff rfl rfl rfl rfl ?_
      refine soff rfl rfl rfl rfl ?_
      refine soff rfl rfl rfl rfl ?_
      refine soff rfl rfl rfl rfl ?_
      refine soff rfl rfl rfl rfl ?_
      refine soffu rfl rfl rfl ?_
      refine soffu rfl rfl rfl ?_
      refine soffu rfl rfl rfl ?_
      refine soffu rfl rfl rfl ?_
      refine soffu rfl rfl rfl ?_
      refine soffu rfl rfl rfl ?_
      refine soffu rfl rfl rfl ?_
      refine soff rfl rfl rfl rfl ?_
      refine sv rfl (opv_pick_t rfl rfl) ?_
      refine sv rfl (opv_as rfl) ?_
      refine snil ?_
      refine cret ?_
      obtain rfl := Option.some.inj h
      refine ⟨Or.inr rfl, _, _, _, (resVs_cons (ResV.tmp _ _ rfl) resVs_nil), (pubA_id rfl), ?_⟩
      rfl
    · replace h := ite_f hc h
      clear hc
      refine son rfl rfl rfl ?_
      refine sv rfl (opv_mv rfl) ?_
      refine son rfl rfl rfl ?_
      refine sv rfl (opv_fieldAddr_lp fi24_0 rfl) ?_
      refine son rfl rfl rfl ?_
      refine sv rfl (opv_load1 ti3 rfl (.lp _ _ _ rfl) rfl) ?_
      refine son rfl rfl rfl ?_
      refine sv rfl (opv_add rfl rfl) ?_
      refine son rfl rfl rfl ?_
      refine sv rfl (opv_lss rfl rfl) ?_
      refine son rfl rfl rfl ?_
      refine sv rfl (opv_mv rfl) ?_
      refine ssplit 26 rfl (fun hc => ?_) (fun hc => ?_)
      · replace h := ite_t hc h
        clear hc
        refine son rfl rfl rfl ?_
        refine sv rfl (opv_fieldAddr_lp fi24_1 rfl) ?_
        refine son rfl rfl rfl ?_
        refine sv rfl (opv_load1 ti22 rfl (.lp _ _ _ rfl) rfl) ?_
        refine son rfl rfl rfl ?_
        refine sv rfl (opv_mv rfl) ?_
        refine son rfl rfl rfl ?_
        refine sv rfl (opv_fieldAddr_lp fi24_0 rfl) ?_
        refine son rfl rfl rfl ?_
        refine sv rfl (opv_load1 ti3 rfl (.lp _ _ _ rfl) rfl) ?_
        refine son rfl rfl rfl ?_
        refine sv rfl (opv_sub rfl rfl) ?_
        refine son rfl rfl rfl ?_
        obtain ⟨v2, hv2, h⟩ := bind_eq h
        refine scall1 rfl fn67 (opnds_cons rfl (opnds_cons rfl opnds_nil)) (pubA_id rfl) (m67_r15_digit_c hv2) ?_
        refine son rfl rfl rfl ?_
        refine sv rfl (opv_pick_t rfl rfl) ?_
        refine sv rfl (opv_pick_f rfl rfl) ?_
        refine sv rfl (opv_as rfl) ?_
        refine snil ?_
        refine cret ?_
        obtain rfl := Option.some.inj h
        refine ⟨Or.inr rfl, _, _, _, (resVs_cons (ResV.tmp _ _ rfl) resVs_nil), (pubA_id rfl), ?_⟩
        rfl
      · replace h := ite_f hc h
        clear hc
        refine soff rfl rfl rfl rfl ?_
        refine soff rfl rfl rfl rfl ?_
        refine soff rfl rfl rfl rfl ?_
        refine soff rfl rfl rfl rfl ?_
        refine soff rfl rfl rfl rfl ?_
        refine soff rfl rfl rfl rfl ?_
        refine soff rfl rfl rfl rfl ?_
        refine son rfl rfl rfl ?_
        refine sv rfl (opv_pick_f rfl rfl) ?_
        refine sv rfl (opv_pick_f rfl rfl) ?_
        refine sv rfl (opv_as rfl) ?_
        refine snil ?_
        refine cret ?_
        obtain rfl := Option.some.inj h
        refine ⟨Or.inr rfl, _, _, _, (resVs_cons (ResV.tmp _ _ rfl) resVs_nil), (pubA_id rfl), ?_⟩
        rfl
  · skip
    refine cregion ?_
    refine sv rfl (opv_loadN ti24 rfl (.lp _ _ _ rfl) (Nat.le_of_ble_eq_true rfl)) ?_
    obtain ⟨v3, hv3, h⟩ := bind_eq h
    refine scall1 rfl fn46 (opnds_cons rfl opnds_nil) (pubA_id rfl) (m46_r15_Sane_c hv3) ?_
    refine sv rfl (opv_not rfl) ?_
    refine sv rfl (opv_mv rfl) ?_
    refine ssplit 8 rfl (fun hc => ?_) (fun hc => ?_)
    · replace h := ite_t hc h
      clear hc
      refine soff rfl rfl rfl rfl ?_
      refine soff rfl rfl rfl rfl ?_
      refine sv rfl (opv_pick_t rfl rfl) ?_
      refine sv rfl (opv_mv rfl) ?_
      refine soff rfl rfl rfl rfl ?_
      refine soff rfl rfl rfl rfl ?_
      refine sv rfl (opv_pick_t rfl rfl) ?_
      refine snil ?_
      refine ccond rfl (fun _ => ?_) (fun hx => Bool.noConfusion hx)
      refine cseq ?_
      refine cregion ?_
      refine sv rfl (opv_as rfl) ?_
      refine snil ?_
      refine cret ?_
      refine then_ret ?_
      obtain rfl := Option.some.inj h
      refine ⟨Or.inr rfl, _, _, _, (resVs_cons (ResV.tmp _ _ rfl) resVs_nil), (pubA_id rfl), ?_⟩
      rfl
    · replace h := ite_f hc h
      clear hc
      refine son rfl rfl rfl ?_
      refine sv rfl (opv_mv rfl) ?_
      refine son rfl rfl rfl ?_
      refine sv rfl (opv_lss rfl rfl) ?_
      refine sv rfl (opv_pick_f rfl rfl) ?_
      refine sv rfl (opv_mv rfl) ?_
      refine ssplit 12 rfl (fun hc => ?_) (fun hc => ?_)
      · replace h := ite_t hc h
        clear hc
        refine soff rfl rfl rfl rfl ?_
        refine soff rfl rfl rfl rfl ?_
        refine sv rfl (opv_pick_t rfl rfl) ?_
        refine snil ?_
        refine ccond rfl (fun _ => ?_) (fun hx => Bool.noConfusion hx)
        refine cseq ?_
        refine cregion ?_
        refine sv rfl (opv_as rfl) ?_
        refine snil ?_
        refine cret ?_
        refine then_ret ?_
        obtain rfl := Option.some.inj h
        refine ⟨Or.inr rfl, _, _, _, (resVs_cons (ResV.tmp _ _ rfl) resVs_nil), (pubA_id rfl), ?_⟩
        rfl
      · replace h := ite_f hc h
        clear hc
        refine son rfl rfl rfl ?_
        refine sv rfl (opv_mv rfl) ?_
        refine son rfl rfl rfl ?_
        refine sv rfl (opv_geq rfl rfl) ?_
        refine sv rfl (opv_pick_f rfl rfl) ?_
        refine snil ?_
        refine ccond rfl (fun hc => ?_) (fun hc => ?_)
        · replace h := ite_t hc h
          clear hc
          refine cseq ?_
          refine cregion ?_
          refine sv rfl (opv_as rfl) ?_
          refine snil ?_
          refine cret ?_
          refine then_ret ?_
          obtain rfl := Option.some.inj h
          refine ⟨Or.inr rfl, _, _, _, (resVs_cons (ResV.tmp _ _ rfl) resVs_nil), (pubA_id rfl), ?_⟩
          rfl
        · replace h := ite_f hc h
          clear hc
          refine cskip ?_
          refine then_normal ?_
          exact ⟨(), _, h, ⟨rfl, rfl, trivial⟩, rfl⟩

def m36_r16_waits_k1 (b1 : Unit) : Option Int :=
  some (-1)

def m36_r16_waits_s2 (a0 : GR16Pipe) (a1 : Int) (s2 : Int) : Option (LR (Int) (Unit) (Int)) :=
  if (decide (s2 < (a0.Wait.length : Int))) then ((idx a0.Wait s2).bind fun u3 => if (decide (u3.Seq = a1)) then (some (.ret s2)) else (some (.cont (wI (s2 + 1))))) else (some (.brk ()))
def m36_r16_waits (a0 : GR16Pipe) (a1 : Int) : Option Int :=
  (iter (m36_r16_waits_s2 a0 a1) fuel 0).bind fun x => match x with | .inl r => some r | .inr e4 => m36_r16_waits_k1 e4

set_option maxRecDepth 100000 in
theorem m36_r16_waits_c {a0 : GR16Pipe} {a1 : Int} {r : Int} (h : m36_r16_waits a0 a1 = some r) : CallsA Tryd.prog 36 [.agg a0, .one (.i .i64 a1)] (· = .s (.one (.i .i64 r))) := by
  unfold m36_r16_waits at h
  refine callsA_of Tryd.func36 rfl (nt := 22) rfl (Nat.le_of_ble_eq_true rfl) ?_
  intro w0 S0
  refine cseq ?_
  refine cregion ?_
  refine sbox rfl rfl ?_
  refine sv rfl (opv_as rfl) ?_
  refine snil ?_
  refine cseq ?_
  refine cseq ?_
  refine cregion ?_
  refine sv rfl (opv_as rfl) ?_
  refine snil ?_
  refine cjoin (Unit) (fun b1 => []) (fun b1 => [.box a0]) (fun b1 => m36_r16_waits_k1 b1 = some r) (fun _ _ => inbL_of rfl) (fun _ _ => blkinb_of rfl) (fun _ _ => Nat.le_of_ble_eq_true rfl) (fun b1 h => ?_) ?_
  · unfold m36_r16_waits_k1 at h
    refine cseq ?_
    refine cregion ?_
    refine sv rfl (opv_as rfl) ?_
    refine snil ?_
    refine cret ?_
    obtain rfl := Option.some.inj h
    refine ⟨Or.inr rfl, _, _, _, (resVs_cons (ResV.tmp _ _ rfl) resVs_nil), (pubA_id rfl), ?_⟩
    rfl
  · skip
    refine cblock ?_
    obtain ⟨x2, hx2, ho2⟩ := bind_eq h
    refine awc_loop (G := Nat × (Int)) (fun g => [(1, .s (.one (.i .i64 a1))), (2, .s (.one (.lp 0 0))), (5, .s (.one (.i .i64 g.2)))]) (fun g => [.box a0]) (fun g => iter (m36_r16_waits_s2 a0 a1) g.1 g.2 = some x2) (fun g => g.1) (fuel, 0) hx2 ⟨rfl, rfl, rfl, trivial⟩ [] rfl (fun _ _ => inbL_of rfl) (fun _ _ => blkinb_of rfl) (fun _ _ => Nat.le_of_ble_eq_true rfl) ?_
    clear hx2 h
    rintro ⟨n2, s2⟩ h
    obtain ⟨n2, y2, rfl, h, hk2⟩ := iter_eq h
    unfold m36_r16_waits_s2 at h
    refine cseq ?_
    refine cseq ?_
    refine cregion ?_
    refine sv rfl (opv_mv rfl) ?_
    refine sv rfl (opv_fieldAddr_lp fi28_2 rfl) ?_
    refine sv rfl (opv_load1 ti25 rfl (.lp _ _ _ rfl) rfl) ?_
    refine sv rfl (opv_len_sl si25 rfl) ?_
    refine sv rfl (opv_lss rfl rfl) ?_
    refine snil ?_
    refine ccond rfl (fun hc => ?_) (fun hc => ?_)
    · replace h := ite_t hc h
      clear hc
      refine cskip ?_
      refine then_normal ?_
      refine cseq ?_
      refine cblock ?_
      refine cseq ?_
      refine cregion ?_
      refine sv rfl (opv_fieldAddr_lp fi28_2 rfl) ?_
      refine sv rfl (opv_load1 ti25 rfl (.lp _ _ _ rfl) rfl) ?_
      refine sv rfl (opv_mv rfl) ?_
      obtain ⟨u3, hu3, h⟩ := bind_eq h
      refine sv rfl (opv_ix (f := eGR05Req) si25 (fun _ => rfl) rfl rfl rfl rfl hu3) ?_
      refine sv rfl (opv_fieldAddr_cp fi33_1 rfl) ?_
      refine sv rfl (opv_load1 ti3 rfl (.cp _) rfl) ?_
      refine sv rfl (opv_mv rfl) ?_
      refine sv rfl (opv_ieql rfl rfl) ?_
      refine snil ?_
      refine ccond rfl (fun hc => ?_) (fun hc => ?_)
      · replace h := ite_t hc h
        clear hc
        refine cseq ?_
        refine cregion ?_
        refine sv rfl (opv_mv rfl) ?_
        refine sv rfl (opv_as rfl) ?_
        refine snil ?_
        refine cret ?_
        refine block_ret ?_
        refine then_ret ?_
        refine then_ret ?_
        refine block_ret ?_
        refine then_ret ?_
        obtain rfl := Option.some.inj h
        obtain rfl : Sum.inl _ = x2 := hk2
        replace ho2 : some _ = some _ := ho2
        obtain rfl := Option.some.inj ho2
        refine ⟨Or.inr rfl, _, _, _, (resVs_cons (ResV.tmp _ _ rfl) resVs_nil), (pubA_id rfl), ?_⟩
        rfl
      · replace h := ite_f hc h
        clear hc
        refine cskip ?_
        refine block_normal ?_
        refine then_normal ?_
        refine cregion ?_
        refine sv rfl (opv_mv rfl) ?_
        refine sv rfl (opv_add rfl rfl) ?_
        refine sv rfl (opv_as rfl) ?_
        refine snil ?_
        obtain rfl := Option.some.inj h
        exact ⟨(n2, (wI (s2 + 1))), _, hk2, ⟨rfl, rfl, rfl, trivial⟩, rfl, Nat.lt_succ_self _⟩
    · replace h := ite_f hc h
      clear hc
      refine cexit ?_
      refine then_exit ?_
      refine then_exit ?_
      refine block_hit ?_
      refine then_normal ?_
      obtain rfl := Option.some.inj h
      obtain rfl : _ = x2 := hk2
      exact ⟨(), _, ho2, trivial, rfl⟩

def m28_r16_Sane_k4 (a0 : GR16Pipe) (b4 : Unit) : Option Bool :=
  if (decide (a0.Next ≤ a0.Win.Base)) then (some (decide (a0.Win.Base ≤ (wI (a0.Next + 8))))) else (some false)

def m28_r16_Sane_k6 (a0 : GR16Pipe) (s5 : Int) (b6 : Unit) : Option (LR (Int) (Unit) (Bool)) :=
  (m47_r15_Seen (GR15Window.mk a0.Win.Base a0.Win.Bits) s5).bind fun v7 => if (decide (s5 < a0.Next)) then (if (!(v7 == true)) then (some (.ret false)) else (some (.cont (wI (s5 + 1))))) else ((m36_r16_waits (GR16Pipe.mk (GR15Window.mk a0.Win.Base a0.Win.Bits) a0.Next a0.Wait a0.Past) s5).bind fun v8 => if (!(v7 == (decide (0 ≤ v8)))) then (some (.ret false)) else (some (.cont (wI (s5 + 1)))))

def m28_r16_Sane_s5 (a0 : GR16Pipe) (s5 : Int) : Option (LR (Int) (Unit) (Bool)) :=
  if (decide (s5 < (wI (a0.Next + 64)))) then (if (decide (s5 < 4294967296)) then (m28_r16_Sane_k6 a0 s5 ()) else (some (.brk ()))) else (some (.brk ()))

def m28_r16_Sane_k3 (a0 : GR16Pipe) (b3 : Unit) : Option Bool :=
  (iter (m28_r16_Sane_s5 a0) fuel (if (wI (a0.Next - 70)) > 0 then (wI (a0.Next - 70)) else 0)).bind fun x => match x with | .inl r => some r | .inr e9 => m28_r16_Sane_k4 a0 e9

def m28_r16_Sane_s10 (a0 : GR16Pipe) (s10 : Int) : Option (LR (Int) (Unit) (Bool)) :=
  if (decide (s10 < (a0.Past.length : Int))) then ((idx a0.Past s10).bind fun u11 => (m41_r05_SaneReply u11).bind fun v12 => if (!v12) then (some (.ret false)) else ((idx a0.Past s10).bind fun u13 => if (!decide (u13.Seq = (wI ((wI (a0.Next - (a0.Past.length : Int))) + s10)))) then (some (.ret false)) else (some (.cont (wI (s10 + 1)))))) else (some (.brk ()))

def m28_r16_Sane_k2 (a0 : GR16Pipe) (b2 : Unit) : Option Bool :=
  (iter (m28_r16_Sane_s10 a0) fuel 0).bind fun x => match x with | .inl r => some r | .inr e14 => m28_r16_Sane_k3 a0 e14

def m28_r16_Sane_s15 (a0 : GR16Pipe) (s15 : Int) : Option (LR (Int) (Unit) (Bool)) :=
  if (decide (s15 < (a0.Wait.length : Int))) then ((idx a0.Wait s15).bind fun u16 => (idx a0.Wait s15).bind fun u17 => (m31_r05_SaneReq (GR05Req.mk u17.Kind u17.Seq u17.Token u17.Attempt u17.RO u17.Key u17.Val (GApiRange.mk u17.Rng.Lo u17.Rng.Hi u17.Rng.Open))).bind fun v18 => if (!v18) then (some (.ret false)) else (if (decide (u16.Seq < a0.Next)) then (some (.ret false)) else (if (decide ((wI (a0.Next + 8)) ≤ u16.Seq)) then (some (.ret false)) else (if (decide (0 < s15)) then ((idx a0.Wait (wI (s15 - 1))).bind fun u19 => if (decide (u16.Seq ≤ u19.Seq)) then (some (.ret false)) else (some (.cont (wI (s15 + 1))))) else (some (.cont (wI (s15 + 1)))))))) else (some (.brk ()))

def m28_r16_Sane_k1 (a0 : GR16Pipe) (b1 : Unit) : Option Bool :=
  (iter (m28_r16_Sane_s15 a0) fuel 0).bind fun x => match x with | .inl r => some r | .inr e20 => m28_r16_Sane_k2 a0 e20
def m28_r16_Sane (a0 : GR16Pipe) : Option Bool :=
  (m46_r15_Sane (GR15Window.mk a0.Win.Base a0.Win.Bits)).bind fun v21 => if (!v21) then (some false) else (if (decide (a0.Next < 0)) then (some false) else (if (decide (4294967296 < a0.Next)) then (some false) else (if (decide (8 < (a0.Wait.length : Int))) then (some false) else (if (decide (8 < (a0.Past.length : Int))) then (some false) else (m28_r16_Sane_k1 a0 ())))))

set_option maxRecDepth 100000 in
theorem m28_r16_Sane_c {a0 : GR16Pipe} {r : Bool} (h : m28_r16_Sane a0 = some r) : CallsA Tryd.prog 28 [.agg a0] (· = .s (.one (.b r))) := by
  unfold m28_r16_Sane at h
  refine callsA_of Tryd.func28 rfl (nt := 157) rfl (Nat.le_of_ble_eq_true rfl) ?_
  intro w0 S0
  refine cseq ?_
  refine cregion ?_
  refine sbox rfl rfl ?_
  refine sv rfl (opv_as rfl) ?_
  refine snil ?_
  refine cseq ?_
  refine cseq ?_
  refine cjoin3 (Unit) (fun b1 => [(1, .s (.one (.lp 0 0)))]) (fun b1 => [.box a0]) (fun b1 => m28_r16_Sane_k1 a0 b1 = some r) (fun _ _ => inbL_of rfl) (fun _ _ => blkinb_of rfl) (fun _ _ => Nat.le_of_ble_eq_true rfl) (fun b1 h => ?_) ?_
  · unfold m28_r16_Sane_k1 at h
    refine cseq ?_
    refine cseq ?_
    refine cregion ?_
    refine sv rfl (opv_as rfl) ?_
    refine snil ?_
    refine cjoin (Unit) (fun b2 => [(1, .s (.one (.lp 0 0)))]) (fun b2 => [.box a0]) (fun b2 => m28_r16_Sane_k2 a0 b2 = some r) (fun _ _ => inbL_of rfl) (fun _ _ => blkinb_of rfl) (fun _ _ => Nat.le_of_ble_eq_true rfl) (fun b2 h => ?_) ?_
    · unfold m28_r16_Sane_k2 at h
      refine cseq ?_
      refine cseq ?_
      refine cregion ?_
      refine sv rfl (opv_as rfl) ?_
      refine snil ?_
      refine cjoin (Unit) (fun b3 => [(1, .s (.one (.lp 0 0)))]) (fun b3 => [.box a0]) (fun b3 => m28_r16_Sane_k3 a0 b3 = some r) (fun _ _ => inbL_of rfl) (fun _ _ => blkinb_of rfl) (fun _ _ => Nat.le_of_ble_eq_true rfl) (fun b3 h => ?_) ?_
      · unfold m28_r16_Sane_k3 at h
        refine cseq ?_
        refine cseq ?_
        refine cregion ?_
        refine sv rfl (opv_fieldAddr_lp fi28_1 rfl) ?_
        refine sv rfl (opv_load1 ti3 rfl (.lp _ _ _ rfl) rfl) ?_
        refine sv rfl (opv_sub rfl rfl) ?_
        refine sv rfl (opv_max rfl rfl) ?_
        refine sv rfl (opv_as rfl) ?_
        refine snil ?_
        refine cjoin (Unit) (fun b4 => [(1, .s (.one (.lp 0 0)))]) (fun b4 => [.box a0]) (fun b4 => m28_r16_Sane_k4 a0 b4 = some r) (fun _ _ => inbL_of rfl) (fun _ _ => blkinb_of rfl) (fun _ _ => Nat.le_of_ble_eq_true rfl) (fun b4 h => ?_) ?_
        · unfold m28_r16_Sane_k4 at h
          refine cseq ?_
          refine cregion ?_
          refine sv rfl (opv_fieldAddr_lp fi28_0 rfl) ?_
          refine sv rfl (opv_fieldAddr_lp fi24_0 rfl) ?_
          refine sv rfl (opv_load1 ti3 rfl (.lp _ _ _ rfl) rfl) ?_
          refine sv rfl (opv_fieldAddr_lp fi28_1 rfl) ?_
          refine sv rfl (opv_load1 ti3 rfl (.lp _ _ _ rfl) rfl) ?_
          refine sv rfl (opv_geq rfl rfl) ?_
          refine sv rfl (opv_mv rfl) ?_
          refine ssplit 148 rfl (fun hc => ?_) (fun hc => ?_)
          · replace h := ite_t hc h
            clear hc
            refine son rfl rfl rfl ?_
            refine sv rfl (opv_fieldAddr_lp fi28_0 rfl) ?_
            refine son rfl rfl rfl ?_
            refine sv rfl (opv_fieldAddr_lp fi24_0 rfl) ?_
            refine son rfl rfl rfl ?_
            refine sv rfl (opv_load1 ti3 rfl (.lp _ _ _ rfl) rfl) ?_
            refine son rfl rfl rfl ?_
            refine sv rfl (opv_fieldAddr_lp fi28_1 rfl) ?_
            refine son rfl rfl rfl ?_
            refine sv rfl (opv_load1 ti3 rfl (.lp _ _ _ rfl) rfl) ?_
            refine son rfl rfl rfl ?_
            refine sv rfl (opv_add rfl rfl) ?_
            refine son rfl rfl rfl ?_
            refine sv rfl (opv_leq rfl rfl) ?_
            refine sv rfl (opv_pick_t rfl rfl) ?_
            refine sv rfl (opv_as rfl) ?_
            refine snil ?_
            refine cret ?_
            obtain rfl := Option.some.inj h
            refine ⟨Or.inr rfl, _, _, _, (resVs_cons (ResV.tmp _ _ rfl) resVs_nil), (pubA_id rfl), ?_⟩
            rfl
          · replace h := ite_f hc h
            clear hc
            refine soff rfl rfl rfl rfl ?_
            refine soff rfl rfl rfl rfl ?_
            refine soff rfl rfl rfl rfl ?_
            refine soff rfl rfl rfl rfl ?_
            refine soff rfl rfl rfl rfl ?_
            refine soff rfl rfl rfl rfl ?_
            refine soff rfl rfl rfl rfl ?_
            refine sv rfl (opv_pick_f rfl rfl) ?_
            refine sv rfl (opv_as rfl) ?_
            refine snil ?_
            refine cret ?_
            obtain rfl := Option.some.inj h
            refine ⟨Or.inr rfl, _, _, _, (resVs_cons (ResV.tmp _ _ rfl) resVs_nil), (pubA_id rfl), ?_⟩
            rfl
        · skip
          refine cblock ?_
          obtain ⟨x5, hx5, ho5⟩ := bind_eq h
          refine awc_loop (G := Nat × (Int)) (fun g => [(1, .s (.one (.lp 0 0))), (6, .s (.one (.i .i64 g.2)))]) (fun g => [.box a0]) (fun g => iter (m28_r16_Sane_s5 a0) g.1 g.2 = some x5) (fun g => g.1) (fuel, (if (wI (a0.Next - 70)) > 0 then (wI (a0.Next - 70)) else 0)) hx5 ⟨rfl, rfl, trivial⟩ [] rfl (fun _ _ => inbL_of rfl) (fun _ _ => blkinb_of rfl) (fun _ _ => Nat.le_of_ble_eq_true rfl) ?_
          clear hx5 h
          rintro ⟨n5, s5⟩ h
          obtain ⟨n5, y5, rfl, h, hk5⟩ := iter_eq h
          unfold m28_r16_Sane_s5 at h
          refine cseq ?_
          refine cseq ?_
          refine cjoin3 (Unit) (fun b6 => [(1, .s (.one (.lp 0 0))), (6, .s (.one (.i .i64 s5)))]) (fun b6 => [.box a0]) (fun b6 => m28_r16_Sane_k6 a0 s5 b6 = some y5) (fun _ _ => inbL_of rfl) (fun _ _ => blkinb_of rfl) (fun _ _ => Nat.le_of_ble_eq_true rfl) (fun b6 h => ?_) ?_
          · unfold m28_r16_Sane_k6 at h
            refine cseq ?_
            refine cblock ?_
            refine cseq ?_
            refine cdraw mixed (by kernel_rfl) ?_
            refine dv rfl (opv_fieldAddr_lp fi28_0 rfl) ?_
            refine dv rfl (opv_loadN ti24 rfl (.lp _ _ _ rfl) (Nat.le_of_ble_eq_true rfl)) ?_
            refine dv rfl (opv_mv rfl) ?_
            obtain ⟨v7, hv7, h⟩ := bind_eq h
            refine dd rfl (opD_call fn47 (opnds_cons rfl (opnds_cons rfl opnds_nil)) rfl (m47_r15_Seen_c hv7)) ?_
            refine dv rfl (opv_mv rfl) ?_
            refine dv rfl (opv_fieldAddr_lp fi28_1 rfl) ?_
            refine dv rfl (opv_load1 ti3 rfl (.lp _ _ _ rfl) rfl) ?_
            refine dv rfl (opv_lss rfl rfl) ?_
            refine dv rfl (opv_mv rfl) ?_
            refine dsplit 135 rfl (fun hc => ?_) (fun hc => ?_)
            · replace h := ite_t hc h
              clear hc
              refine doff rfl rfl rfl rfl ?_
              refine doff rfl rfl rfl rfl ?_
              refine doff rfl rfl rfl rfl ?_
              refine doff rfl rfl rfl rfl ?_
              refine dv rfl (opv_pick_t rfl rfl) ?_
              refine dv rfl (opv_bneq Tryd.underlying4 rfl rfl) ?_
              refine dnil ?_
              refine then_normal ?_
              refine ccond rfl (fun hc => ?_) (fun hc => ?_)
              · replace h := ite_t hc h
                clear hc
                refine cseq ?_
                refine cregion ?_
                refine sv rfl (opv_as rfl) ?_
                refine snil ?_
                refine cret ?_
                refine block_ret ?_
                refine then_ret ?_
                refine then_ret ?_
                refine block_ret ?_
                refine then_ret ?_
                obtain rfl := Option.some.inj h
                obtain rfl : Sum.inl _ = x5 := hk5
                replace ho5 : some _ = some _ := ho5
                obtain rfl := Option.some.inj ho5
                refine ⟨Or.inr rfl, _, _, _, (resVs_cons (ResV.tmp _ _ rfl) resVs_nil), (pubA_id rfl), ?_⟩
                rfl
              · replace h := ite_f hc h
                clear hc
                refine cskip ?_
                refine block_normal ?_
                refine then_normal ?_
                refine cregion ?_
                refine sv rfl (opv_mv rfl) ?_
                refine sv rfl (opv_add rfl rfl) ?_
                refine sv rfl (opv_as rfl) ?_
                refine snil ?_
                obtain rfl := Option.some.inj h
                exact ⟨(n5, (wI (s5 + 1))), _, hk5, ⟨rfl, rfl, trivial⟩, rfl, Nat.lt_succ_self _⟩
            · replace h := ite_f hc h
              clear hc
              refine dvg rfl rfl rfl (opv_loadN ti28 rfl (.lp _ _ _ rfl) (Nat.le_of_ble_eq_true rfl)) ?_
              refine dvg rfl rfl rfl (opv_mv rfl) ?_
              obtain ⟨v8, hv8, h⟩ := bind_eq h
              refine ddg rfl rfl rfl (opD_call fn36 (opnds_cons rfl (opnds_cons rfl opnds_nil)) rfl (m36_r16_waits_c hv8)) ?_
              refine dvg rfl rfl rfl (opv_geq rfl rfl) ?_
              refine dv rfl (opv_pick_f rfl rfl) ?_
              refine dv rfl (opv_bneq Tryd.underlying4 rfl rfl) ?_
              refine dnil ?_
              refine then_normal ?_
              refine ccond rfl (fun hc => ?_) (fun hc => ?_)
              · replace h := ite_t hc h
                clear hc
                refine cseq ?_
                refine cregion ?_
                refine sv rfl (opv_as rfl) ?_
                refine snil ?_
                refine cret ?_
                refine block_ret ?_
                refine then_ret ?_
                refine then_ret ?_
                refine block_ret ?_
                refine then_ret ?_
                obtain rfl := Option.some.inj h
                obtain rfl : Sum.inl _ = x5 := hk5
                replace ho5 : some _ = some _ := ho5
                obtain rfl := Option.some.inj ho5
                refine ⟨Or.inr rfl, _, _, _, (resVs_cons (ResV.tmp _ _ rfl) resVs_nil), (pubA_id rfl), ?_⟩
                rfl
              · replace h := ite_f hc h
                clear hc
                refine cskip ?_
                refine block_normal ?_
                refine then_normal ?_
                refine cregion ?_
                refine sv rfl (opv_mv rfl) ?_
                refine sv rfl (opv_add rfl rfl) ?_
                refine sv rfl (opv_as rfl) ?_
                refine snil ?_
                obtain rfl := Option.some.inj h
                exact ⟨(n5, (wI (s5 + 1))), _, hk5, ⟨rfl, rfl, trivial⟩, rfl, Nat.lt_succ_self _⟩
          · skip
            refine cregion ?_
            refine sv rfl (opv_mv rfl) ?_
            refine sv rfl (opv_fieldAddr_lp fi28_1 rfl) ?_
            refine sv rfl (opv_load1 ti3 rfl (.lp _ _ _ rfl) rfl) ?_
            refine sv rfl (opv_add rfl rfl) ?_
            refine sv rfl (opv_lss rfl rfl) ?_
            refine sv rfl (opv_mv rfl) ?_
            refine ssplit 121 rfl (fun hc => ?_) (fun hc => ?_)
            · replace h := ite_t hc h
              clear hc
              refine son rfl rfl rfl ?_
              refine sv rfl (opv_mv rfl) ?_
              refine son rfl rfl rfl ?_
              refine sv rfl (opv_lss rfl rfl) ?_
              refine sv rfl (opv_pick_t rfl rfl) ?_
              refine snil ?_
              refine ccond rfl (fun hc => ?_) (fun hc => ?_)
              · replace h := ite_t hc h
                clear hc
                refine cskip ?_
                refine then_normal ?_
                exact ⟨(), _, h, ⟨rfl, rfl, trivial⟩, rfl⟩
              · replace h := ite_f hc h
                clear hc
                refine cexit ?_
                refine then_exit ?_
                refine then_exit ?_
                refine block_hit ?_
                refine then_normal ?_
                obtain rfl := Option.some.inj h
                obtain rfl : _ = x5 := hk5
                exact ⟨(), _, ho5, ⟨rfl, trivial⟩, rfl⟩
            · replace h := ite_f hc h
              clear hc
              refine soff rfl rfl rfl rfl ?_
              refine soff rfl rfl rfl rfl ?_
              refine sv rfl (opv_pick_f rfl rfl) ?_
              refine snil ?_
              refine ccond rfl (fun hx => Bool.noConfusion hx) (fun _ => ?_)
              refine cexit ?_
              refine then_exit ?_
              refine then_exit ?_
              refine block_hit ?_
              refine then_normal ?_
              obtain rfl := Option.some.inj h
              obtain rfl : _ = x5 := hk5
              exact ⟨(), _, ho5, ⟨rfl, trivial⟩, rfl⟩
      · skip
        refine cblock ?_
        obtain ⟨x10, hx10, ho10⟩ := bind_eq h
        refine awc_loop (G := Nat × (Int)) (fun g => [(1, .s (.one (.lp 0 0))), (5, .s (.one (.i .i64 g.2)))]) (fun g => [.box a0]) (fun g => iter (m28_r16_Sane_s10 a0) g.1 g.2 = some x10) (fun g => g.1) (fuel, 0) hx10 ⟨rfl, rfl, trivial⟩ [] rfl (fun _ _ => inbL_of rfl) (fun _ _ => blkinb_of rfl) (fun _ _ => Nat.le_of_ble_eq_true rfl) ?_
        clear hx10 h
        rintro ⟨n10, s10⟩ h
        obtain ⟨n10, y10, rfl, h, hk10⟩ := iter_eq h
        unfold m28_r16_Sane_s10 at h
        refine cseq ?_
        refine cseq ?_
        refine cregion ?_
        refine sv rfl (opv_mv rfl) ?_
        refine sv rfl (opv_fieldAddr_lp fi28_3 rfl) ?_
        refine sv rfl (opv_load1 ti26 rfl (.lp _ _ _ rfl) rfl) ?_
        refine sv rfl (opv_len_sl si26 rfl) ?_
        refine sv rfl (opv_lss rfl rfl) ?_
        refine snil ?_
        refine ccond rfl (fun hc => ?_) (fun hc => ?_)
        · replace h := ite_t hc h
          clear hc
          refine cskip ?_
          refine then_normal ?_
          refine cseq ?_
          refine cblock ?_
          refine cseq ?_
          refine cdraw mixed (by kernel_rfl) ?_
          refine dv rfl (opv_fieldAddr_lp fi28_3 rfl) ?_
          refine dv rfl (opv_load1 ti26 rfl (.lp _ _ _ rfl) rfl) ?_
          refine dv rfl (opv_mv rfl) ?_
          obtain ⟨u11, hu11, h⟩ := bind_eq h
          refine dv rfl (opv_ix (f := eGR05Reply) si26 (fun _ => rfl) rfl rfl rfl rfl hu11) ?_
          refine dv rfl (opv_loadNe (ys := [.i .i64 u11.Kind, .i .i64 u11.Seq, .i .i64 u11.Code, .i .i64 u11.N, .b u11.Found, .sl u11.Val.length (u11.Val.flatMap eU8), .sl u11.List.length (u11.List.flatMap eGApiKV)]) ti37 rfl (.cp _) rfl rfl) ?_
          obtain ⟨v12, hv12, h⟩ := bind_eq h
          refine dd rfl (opD_call fn41 (opnds_cons rfl opnds_nil) rfl (m41_r05_SaneReply_c hv12)) ?_
          refine dv rfl (opv_not rfl) ?_
          refine dv rfl (opv_mv rfl) ?_
          refine dsplit 95 rfl (fun hc => ?_) (fun hc => ?_)
          · replace h := ite_t hc h
            clear hc
            refine doff rfl rfl rfl rfl ?_
            refine doff rfl rfl rfl rfl ?_
            refine doff rfl rfl rfl rfl ?_
            refine doff rfl rfl rfl rfl ?_
            refine doff rfl rfl rfl rfl ?_
            refine doff rfl rfl rfl rfl ?_
            refine doff rfl rfl rfl rfl ?_
            refine doff rfl rfl rfl rfl ?_
            refine doff rfl rfl rfl rfl ?_
            refine doff rfl rfl rfl rfl ?_
            refine doff rfl rfl rfl rfl ?_
            refine doff rfl rfl rfl rfl ?_
            refine doff rfl rfl rfl rfl ?_
            refine doff rfl rfl rfl rfl ?_
            refine doff rfl rfl rfl rfl ?_
            refine dv rfl (opv_pick_t rfl rfl) ?_
            refine dnil ?_
            refine then_normal ?_
            refine ccond rfl (fun _ => ?_) (fun hx => Bool.noConfusion hx)
            refine cseq ?_
            refine cregion ?_
            refine sv rfl (opv_as rfl) ?_
            refine snil ?_
            refine cret ?_
            refine block_ret ?_
            refine then_ret ?_
            refine then_ret ?_
            refine block_ret ?_
            refine then_ret ?_
            obtain rfl := Option.some.inj h
            obtain rfl : Sum.inl _ = x10 := hk10
            replace ho10 : some _ = some _ := ho10
            obtain rfl := Option.some.inj ho10
            refine ⟨Or.inr rfl, _, _, _, (resVs_cons (ResV.tmp _ _ rfl) resVs_nil), (pubA_id rfl), ?_⟩
            rfl
          · replace h := ite_f hc h
            clear hc
            refine dvg rfl rfl rfl (opv_fieldAddr_lp fi28_3 rfl) ?_
            refine dvg rfl rfl rfl (opv_load1 ti26 rfl (.lp _ _ _ rfl) rfl) ?_
            refine dvg rfl rfl rfl (opv_mv rfl) ?_
            obtain ⟨u13, hu13, h⟩ := bind_eq h
            refine dvg rfl rfl rfl (opv_ix (f := eGR05Reply) si26 (fun _ => rfl) rfl rfl rfl rfl hu13) ?_
            refine dvg rfl rfl rfl (opv_fieldAddr_cp fi37_1 rfl) ?_
            refine dvg rfl rfl rfl (opv_load1 ti3 rfl (.cp _) rfl) ?_
            refine dvg rfl rfl rfl (opv_fieldAddr_lp fi28_1 rfl) ?_
            refine dvg rfl rfl rfl (opv_load1 ti3 rfl (.lp _ _ _ rfl) rfl) ?_
            refine dvg rfl rfl rfl (opv_fieldAddr_lp fi28_3 rfl) ?_
            refine dvg rfl rfl rfl (opv_load1 ti26 rfl (.lp _ _ _ rfl) rfl) ?_
            refine dvg rfl rfl rfl (opv_len_sl si26 rfl) ?_
            refine dvg rfl rfl rfl (opv_sub rfl rfl) ?_
            refine dvg rfl rfl rfl (opv_mv rfl) ?_
            refine dvg rfl rfl rfl (opv_add rfl rfl) ?_
            refine dvg rfl rfl rfl (opv_ineq rfl rfl) ?_
            refine dv rfl (opv_pick_f rfl rfl) ?_
            refine dnil ?_
            refine then_normal ?_
            refine ccond rfl (fun hc => ?_) (fun hc => ?_)
            · replace h := ite_t hc h
              clear hc
              refine cseq ?_
              refine cregion ?_
              refine sv rfl (opv_as rfl) ?_
              refine snil ?_
              refine cret ?_
              refine block_ret ?_
              refine then_ret ?_
              refine then_ret ?_
              refine block_ret ?_
              refine then_ret ?_
              obtain rfl := Option.some.inj h
              obtain rfl : Sum.inl _ = x10 := hk10
              replace ho10 : some _ = some _ := ho10
              obtain rfl := Option.some.inj ho10
              refine ⟨Or.inr rfl, _, _, _, (resVs_cons (ResV.tmp _ _ rfl) resVs_nil), (pubA_id rfl), ?_⟩
              rfl
            · replace h := ite_f hc h
              clear hc
              refine cskip ?_
              refine block_normal ?_
              refine then_normal ?_
              refine cregion ?_
              refine sv rfl (opv_mv rfl) ?_
              refine sv rfl (opv_add rfl rfl) ?_
              refine sv rfl (opv_as rfl) ?_
              refine snil ?_
              obtain rfl := Option.some.inj h
              exact ⟨(n10, (wI (s10 + 1))), _, hk10, ⟨rfl, rfl, trivial⟩, rfl, Nat.lt_succ_self _⟩
        · replace h := ite_f hc h
          clear hc
          refine cexit ?_
          refine then_exit ?_
          refine then_exit ?_
          refine block_hit ?_
          refine then_normal ?_
          obtain rfl := Option.some.inj h
          obtain rfl : _ = x10 := hk10
          exact ⟨(), _, ho10, ⟨rfl, trivial⟩, rfl⟩
    · skip
      refine cblock ?_
      obtain ⟨x15, hx15, ho15⟩ := bind_eq h
      refine awc_loop (G := Nat × (Int)) (fun g => [(1, .s (.one (.lp 0 0))), (3, .s (.one (.i .i64 g.2)))]) (fun g => [.box a0]) (fun g => iter (m28_r16_Sane_s15 a0) g.1 g.2 = some x15) (fun g => g.1) (fuel, 0) hx15 ⟨rfl, rfl, trivial⟩ [] rfl (fun _ _ => inbL_of rfl) (fun _ _ => blkinb_of rfl) (fun _ _ => Nat.le_of_ble_eq_true rfl) ?_
      clear hx15 h
      rintro ⟨n15, s15⟩ h
      obtain ⟨n15, y15, rfl, h, hk15⟩ := iter_eq h
      unfold m28_r16_Sane_s15 at h
      refine cseq ?_
      refine cseq ?_
      refine cregion ?_
      refine sv rfl (opv_mv rfl) ?_
      refine sv rfl (opv_fieldAddr_lp fi28_2 rfl) ?_
      refine sv rfl (opv_load1 ti25 rfl (.lp _ _ _ rfl) rfl) ?_
      refine sv rfl (opv_len_sl si25 rfl) ?_
      refine sv rfl (opv_lss rfl rfl) ?_
      refine snil ?_
      refine ccond rfl (fun hc => ?_) (fun hc => ?_)
      · replace h := ite_t hc h
        clear hc
        refine cskip ?_
        refine then_normal ?_
        refine cseq ?_
        refine cblock ?_
        refine cseq ?_
        refine cregion ?_
        refine sv rfl (opv_fieldAddr_lp fi28_2 rfl) ?_
        refine sv rfl (opv_load1 ti25 rfl (.lp _ _ _ rfl) rfl) ?_
        refine sv rfl (opv_mv rfl) ?_
        obtain ⟨u16, hu16, h⟩ := bind_eq h
        refine sv rfl (opv_ix (f := eGR05Req) si25 (fun _ => rfl) rfl rfl rfl rfl hu16) ?_
        refine sv rfl (opv_fieldAddr_cp fi33_1 rfl) ?_
        refine sv rfl (opv_load1 ti3 rfl (.cp _) rfl) ?_
        refine sv rfl (opv_as rfl) ?_
        refine snil ?_
        refine cseq ?_
        refine cregion ?_
        refine sv rfl (opv_fieldAddr_lp fi28_2 rfl) ?_
        refine sv rfl (opv_load1 ti25 rfl (.lp _ _ _ rfl) rfl) ?_
        refine sv rfl (opv_mv rfl) ?_
        obtain ⟨u17, hu17, h⟩ := bind_eq h
        refine sv rfl (opv_ix (f := eGR05Req) si25 (fun _ => rfl) rfl rfl rfl rfl hu17) ?_
        refine sv rfl (opv_loadNe (ys := [.i .i64 u17.Kind, .i .i64 u17.Seq, .i .i64 u17.Token, .i .i64 u17.Attempt, .b u17.RO, .sl u17.Key.length (u17.Key.flatMap eU8), .sl u17.Val.length (u17.Val.flatMap eU8), .sl u17.Rng.Lo.length (u17.Rng.Lo.flatMap eU8), .sl u17.Rng.Hi.length (u17.Rng.Hi.flatMap eU8), .b u17.Rng.Open]) ti33 rfl (.cp _) rfl rfl) ?_
        obtain ⟨v18, hv18, h⟩ := bind_eq h
        refine scall1 rfl fn31 (opnds_cons rfl opnds_nil) (pubA_id rfl) (m31_r05_SaneReq_c hv18) ?_
        refine sv rfl (opv_not rfl) ?_
        refine sv rfl (opv_mv rfl) ?_
        refine ssplit 53 rfl (fun hc => ?_) (fun hc => ?_)
        · replace h := ite_t hc h
          clear hc
          refine soff rfl rfl rfl rfl ?_
          refine soff rfl rfl rfl rfl ?_
          refine soff rfl rfl rfl rfl ?_
          refine soff rfl rfl rfl rfl ?_
          refine sv rfl (opv_pick_t rfl rfl) ?_
          refine sv rfl (opv_mv rfl) ?_
          refine soff rfl rfl rfl rfl ?_
          refine soff rfl rfl rfl rfl ?_
          refine soff rfl rfl rfl rfl ?_
          refine soff rfl rfl rfl rfl ?_
          refine soff rfl rfl rfl rfl ?_
          refine sv rfl (opv_pick_t rfl rfl) ?_
          refine sv rfl (opv_mv rfl) ?_
          refine soff rfl rfl rfl rfl ?_
          refine soff rfl rfl rfl rfl ?_
          refine soff rfl rfl rfl rfl ?_
          refine soffu rfl rfl rfl ?_
          refine soffu rfl rfl rfl ?_
          refine soffu rfl rfl rfl ?_
          refine soffu rfl rfl rfl ?_
          refine soffu rfl rfl rfl ?_
          refine soffu rfl rfl rfl ?_
          refine soffu rfl rfl rfl ?_
          refine soffu rfl rfl rfl ?_
          refine soffu rfl rfl rfl ?_
          refine soff rfl rfl rfl rfl ?_
          refine sv rfl (opv_pick_t rfl rfl) ?_
          refine snil ?_
          refine ccond rfl (fun _ => ?_) (fun hx => Bool.noConfusion hx)
          refine cseq ?_
          refine cregion ?_
          refine sv rfl (opv_as rfl) ?_
          refine snil ?_
          refine cret ?_
          refine block_ret ?_
          refine then_ret ?_
          refine then_ret ?_
          refine block_ret ?_
          refine then_ret ?_
          obtain rfl := Option.some.inj h
          obtain rfl : Sum.inl _ = x15 := hk15
          replace ho15 : some _ = some _ := ho15
          obtain rfl := Option.some.inj ho15
          refine ⟨Or.inr rfl, _, _, _, (resVs_cons (ResV.tmp _ _ rfl) resVs_nil), (pubA_id rfl), ?_⟩
          rfl
        · replace h := ite_f hc h
          clear hc
          refine son rfl rfl rfl ?_
          refine sv rfl (opv_mv rfl) ?_
          refine son rfl rfl rfl ?_
          refine sv rfl (opv_fieldAddr_lp fi28_1 rfl) ?_
          refine son rfl rfl rfl ?_
          refine sv rfl (opv_load1 ti3 rfl (.lp _ _ _ rfl) rfl) ?_
          refine son rfl rfl rfl ?_
          refine sv rfl (opv_lss rfl rfl) ?_
          refine sv rfl (opv_pick_f rfl rfl) ?_
          refine sv rfl (opv_mv rfl) ?_
          refine ssplit 59 rfl (fun hc => ?_) (fun hc => ?_)
          · replace h := ite_t hc h
            clear hc
            refine soff rfl rfl rfl rfl ?_
            refine soff rfl rfl rfl rfl ?_
            refine soff rfl rfl rfl rfl ?_
            refine soff rfl rfl rfl rfl ?_
            refine soff rfl rfl rfl rfl ?_
            refine sv rfl (opv_pick_t rfl rfl) ?_
            refine sv rfl (opv_mv rfl) ?_
            refine soff rfl rfl rfl rfl ?_
            refine soff rfl rfl rfl rfl ?_
            refine soff rfl rfl rfl rfl ?_
            refine soffu rfl rfl rfl ?_
            refine soffu rfl rfl rfl ?_
            refine soffu rfl rfl rfl ?_
            refine soffu rfl rfl rfl ?_
            refine soffu rfl rfl rfl ?_
            refine soffu rfl rfl rfl ?_
            refine soffu rfl rfl rfl ?_
            refine soffu rfl rfl rfl ?_
            refine soffu rfl rfl rfl ?_
            refine soff rfl rfl rfl rfl ?_
            refine sv rfl (opv_pick_t rfl rfl) ?_
            refine snil ?_
            refine ccond rfl (fun _ => ?_) (fun hx => Bool.noConfusion hx)
            refine cseq ?_
            refine cregion ?_
            refine sv rfl (opv_as rfl) ?_
            refine snil ?_
            refine cret ?_
            refine block_ret ?_
            refine then_ret ?_
            refine then_ret ?_
            refine block_ret ?_
            refine then_ret ?_
            obtain rfl := Option.some.inj h
            obtain rfl : Sum.inl _ = x15 := hk15
            replace ho15 : some _ = some _ := ho15
            obtain rfl := Option.some.inj ho15
            refine ⟨Or.inr rfl, _, _, _, (resVs_cons (ResV.tmp _ _ rfl) resVs_nil), (pubA_id rfl), ?_⟩
            rfl
          · replace h := ite_f hc h
            clear hc
            refine son rfl rfl rfl ?_
            refine sv rfl (opv_mv rfl) ?_
            refine son rfl rfl rfl ?_
            refine sv rfl (opv_fieldAddr_lp fi28_1 rfl) ?_
            refine son rfl rfl rfl ?_
            refine sv rfl (opv_load1 ti3 rfl (.lp _ _ _ rfl) rfl) ?_
            refine son rfl rfl rfl ?_
            refine sv rfl (opv_add rfl rfl) ?_
            refine son rfl rfl rfl ?_
            refine sv rfl (opv_geq rfl rfl) ?_
            refine sv rfl (opv_pick_f rfl rfl) ?_
            refine sv rfl (opv_mv rfl) ?_
            refine ssplit 66 rfl (fun hc => ?_) (fun hc => ?_)
            · replace h := ite_t hc h
              clear hc
              refine soff rfl rfl rfl rfl ?_
              refine soff rfl rfl rfl rfl ?_
              refine soff rfl rfl rfl rfl ?_
              refine soffu rfl rfl rfl ?_
              refine soffu rfl rfl rfl ?_
              refine soffu rfl rfl rfl ?_
              refine soffu rfl rfl rfl ?_
              refine soffu rfl rfl rfl ?_
              refine soffu rfl rfl rfl ?_
              refine soffu rfl rfl rfl ?_
              refine soffu rfl rfl rfl ?_
              refine soffu rfl rfl rfl ?_
              refine soff rfl rfl rfl rfl ?_
              refine sv rfl (opv_pick_t rfl rfl) ?_
              refine snil ?_
              refine ccond rfl (fun _ => ?_) (fun hx => Bool.noConfusion hx)
              refine cseq ?_
              refine cregion ?_
              refine sv rfl (opv_as rfl) ?_
              refine snil ?_
              refine cret ?_
              refine block_ret ?_
              refine then_ret ?_
              refine then_ret ?_
              refine block_ret ?_
              refine then_ret ?_
              obtain rfl := Option.some.inj h
              obtain rfl : Sum.inl _ = x15 := hk15
              replace ho15 : some _ = some _ := ho15
              obtain rfl := Option.some.inj ho15
              refine ⟨Or.inr rfl, _, _, _, (resVs_cons (ResV.tmp _ _ rfl) resVs_nil), (pubA_id rfl), ?_⟩
              rfl
            · replace h := ite_f hc h
              clear hc
              refine son rfl rfl rfl ?_
              refine sv rfl (opv_mv rfl) ?_
              refine son rfl rfl rfl ?_
              refine sv rfl (opv_gtr rfl rfl) ?_
              refine son rfl rfl rfl ?_
              refine sv rfl (opv_mv rfl) ?_
              refine ssplit 69 rfl (fun hc => ?_) (fun hc => ?_)
              · replace h := ite_t hc h
                clear hc
                refine son rfl rfl rfl ?_
                refine sv rfl (opv_mv rfl) ?_
                refine son rfl rfl rfl ?_
                refine sv rfl (opv_fieldAddr_lp fi28_2 rfl) ?_
                refine son rfl rfl rfl ?_
                refine sv rfl (opv_load1 ti25 rfl (.lp _ _ _ rfl) rfl) ?_
                refine son rfl rfl rfl ?_
                refine sv rfl (opv_mv rfl) ?_
                refine son rfl rfl rfl ?_
                refine sv rfl (opv_sub rfl rfl) ?_
                refine son rfl rfl rfl ?_
                obtain ⟨u19, hu19, h⟩ := bind_eq h
                refine sv rfl (opv_ix (f := eGR05Req) si25 (fun _ => rfl) rfl rfl rfl rfl hu19) ?_
                refine son rfl rfl rfl ?_
                refine sv rfl (opv_fieldAddr_cp fi33_1 rfl) ?_
                refine son rfl rfl rfl ?_
                refine sv rfl (opv_load1 ti3 rfl (.cp _) rfl) ?_
                refine son rfl rfl rfl ?_
                refine sv rfl (opv_leq rfl rfl) ?_
                refine son rfl rfl rfl ?_
                refine sv rfl (opv_pick_t rfl rfl) ?_
                refine sv rfl (opv_pick_f rfl rfl) ?_
                refine snil ?_
                refine ccond rfl (fun hc => ?_) (fun hc => ?_)
                · replace h := ite_t hc h
                  clear hc
                  refine cseq ?_
                  refine cregion ?_
                  refine sv rfl (opv_as rfl) ?_
                  refine snil ?_
                  refine cret ?_
                  refine block_ret ?_
                  refine then_ret ?_
                  refine then_ret ?_
                  refine block_ret ?_
                  refine then_ret ?_
                  obtain rfl := Option.some.inj h
                  obtain rfl : Sum.inl _ = x15 := hk15
                  replace ho15 : some _ = some _ := ho15
                  obtain rfl := Option.some.inj ho15
                  refine ⟨Or.inr rfl, _, _, _, (resVs_cons (ResV.tmp _ _ rfl) resVs_nil), (pubA_id rfl), ?_⟩
                  rfl
                · replace h := ite_f hc h
                  clear hc
                  refine cskip ?_
                  refine block_normal ?_
                  refine then_normal ?_
                  refine cregion ?_
                  refine sv rfl (opv_mv rfl) ?_
                  refine sv rfl (opv_add rfl rfl) ?_
                  refine sv rfl (opv_as rfl) ?_
                  refine snil ?_
                  obtain rfl := Option.some.inj h
                  exact ⟨(n15, (wI (s15 + 1))), _, hk15, ⟨rfl, rfl, trivial⟩, rfl, Nat.lt_succ_self _⟩
              · replace h := ite_f hc h
                clear hc
                refine soff rfl rfl rfl rfl ?_
                refine soff rfl rfl rfl rfl ?_
                refine soff rfl rfl rfl rfl ?_
                refine soff rfl rfl rfl rfl ?_
                refine soff rfl rfl rfl rfl ?_
                refine soff rfl rfl rfl rfl ?_
                refine soff rfl rfl rfl rfl ?_
                refine soff rfl rfl rfl rfl ?_
                refine soff rfl rfl rfl rfl ?_
                refine son rfl rfl rfl ?_
                refine sv rfl (opv_pick_f rfl rfl) ?_
                refine sv rfl (opv_pick_f rfl rfl) ?_
                refine snil ?_
                refine ccond rfl (fun hx => Bool.noConfusion hx) (fun _ => ?_)
                refine cskip ?_
                refine block_normal ?_
                refine then_normal ?_
                refine cregion ?_
                refine sv rfl (opv_mv rfl) ?_
                refine sv rfl (opv_add rfl rfl) ?_
                refine sv rfl (opv_as rfl) ?_
                refine snil ?_
                obtain rfl := Option.some.inj h
                exact ⟨(n15, (wI (s15 + 1))), _, hk15, ⟨rfl, rfl, trivial⟩, rfl, Nat.lt_succ_self _⟩
      · replace h := ite_f hc h
        clear hc
        refine cexit ?_
        refine then_exit ?_
        refine then_exit ?_
        refine block_hit ?_
        refine then_normal ?_
        obtain rfl := Option.some.inj h
        obtain rfl : _ = x15 := hk15
        exact ⟨(), _, ho15, ⟨rfl, trivial⟩, rfl⟩
  · skip
    refine cregion ?_
    refine sv rfl (opv_fieldAddr_lp fi28_0 rfl) ?_
    refine sv rfl (opv_loadN ti24 rfl (.lp _ _ _ rfl) (Nat.le_of_ble_eq_true rfl)) ?_
    obtain ⟨v21, hv21, h⟩ := bind_eq h
    refine scall1 rfl fn46 (opnds_cons rfl opnds_nil) (pubA_id rfl) (m46_r15_Sane_c hv21) ?_
    refine sv rfl (opv_not rfl) ?_
    refine sv rfl (opv_mv rfl) ?_
    refine ssplit 11 rfl (fun hc => ?_) (fun hc => ?_)
    · replace h := ite_t hc h
      clear hc
      refine soff rfl rfl rfl rfl ?_
      refine soff rfl rfl rfl rfl ?_
      refine soff rfl rfl rfl rfl ?_
      refine sv rfl (opv_pick_t rfl rfl) ?_
      refine sv rfl (opv_mv rfl) ?_
      refine soff rfl rfl rfl rfl ?_
      refine soff rfl rfl rfl rfl ?_
      refine soff rfl rfl rfl rfl ?_
      refine sv rfl (opv_pick_t rfl rfl) ?_
      refine sv rfl (opv_mv rfl) ?_
      refine soff rfl rfl rfl rfl ?_
      refine soff rfl rfl rfl rfl ?_
      refine soff rfl rfl rfl rfl ?_
      refine soff rfl rfl rfl rfl ?_
      refine sv rfl (opv_pick_t rfl rfl) ?_
      refine sv rfl (opv_mv rfl) ?_
      refine soff rfl rfl rfl rfl ?_
      refine soff rfl rfl rfl rfl ?_
      refine soff rfl rfl rfl rfl ?_
      refine soff rfl rfl rfl rfl ?_
      refine sv rfl (opv_pick_t rfl rfl) ?_
      refine snil ?_
      refine ccond rfl (fun _ => ?_) (fun hx => Bool.noConfusion hx)
      refine cseq ?_
      refine cregion ?_
      refine sv rfl (opv_as rfl) ?_
      refine snil ?_
      refine cret ?_
      refine then_ret ?_
      obtain rfl := Option.some.inj h
      refine ⟨Or.inr rfl, _, _, _, (resVs_cons (ResV.tmp _ _ rfl) resVs_nil), (pubA_id rfl), ?_⟩
      rfl
    · replace h := ite_f hc h
      clear hc
      refine son rfl rfl rfl ?_
      refine sv rfl (opv_fieldAddr_lp fi28_1 rfl) ?_
      refine son rfl rfl rfl ?_
      refine sv rfl (opv_load1 ti3 rfl (.lp _ _ _ rfl) rfl) ?_
      refine son rfl rfl rfl ?_
      refine sv rfl (opv_lss rfl rfl) ?_
      refine sv rfl (opv_pick_f rfl rfl) ?_
      refine sv rfl (opv_mv rfl) ?_
      refine ssplit 16 rfl (fun hc => ?_) (fun hc => ?_)
      · replace h := ite_t hc h
        clear hc
        refine soff rfl rfl rfl rfl ?_
        refine soff rfl rfl rfl rfl ?_
        refine soff rfl rfl rfl rfl ?_
        refine sv rfl (opv_pick_t rfl rfl) ?_
        refine sv rfl (opv_mv rfl) ?_
        refine soff rfl rfl rfl rfl ?_
        refine soff rfl rfl rfl rfl ?_
        refine soff rfl rfl rfl rfl ?_
        refine soff rfl rfl rfl rfl ?_
        refine sv rfl (opv_pick_t rfl rfl) ?_
        refine sv rfl (opv_mv rfl) ?_
        refine soff rfl rfl rfl rfl ?_
        refine soff rfl rfl rfl rfl ?_
        refine soff rfl rfl rfl rfl ?_
        refine soff rfl rfl rfl rfl ?_
        refine sv rfl (opv_pick_t rfl rfl) ?_
        refine snil ?_
        refine ccond rfl (fun _ => ?_) (fun hx => Bool.noConfusion hx)
        refine cseq ?_
        refine cregion ?_
        refine sv rfl (opv_as rfl) ?_
        refine snil ?_
        refine cret ?_
        refine then_ret ?_
        obtain rfl := Option.some.inj h
        refine ⟨Or.inr rfl, _, _, _, (resVs_cons (ResV.tmp _ _ rfl) resVs_nil), (pubA_id rfl), ?_⟩
        rfl
      · replace h := ite_f hc h
        clear hc
        refine son rfl rfl rfl ?_
        refine sv rfl (opv_fieldAddr_lp fi28_1 rfl) ?_
        refine son rfl rfl rfl ?_
        refine sv rfl (opv_load1 ti3 rfl (.lp _ _ _ rfl) rfl) ?_
        refine son rfl rfl rfl ?_
        refine sv rfl (opv_gtr rfl rfl) ?_
        refine sv rfl (opv_pick_f rfl rfl) ?_
        refine sv rfl (opv_mv rfl) ?_
        refine ssplit 21 rfl (fun hc => ?_) (fun hc => ?_)
        · replace h := ite_t hc h
          clear hc
          refine soff rfl rfl rfl rfl ?_
          refine soff rfl rfl rfl rfl ?_
          refine soff rfl rfl rfl rfl ?_
          refine soff rfl rfl rfl rfl ?_
          refine sv rfl (opv_pick_t rfl rfl) ?_
          refine sv rfl (opv_mv rfl) ?_
          refine soff rfl rfl rfl rfl ?_
          refine soff rfl rfl rfl rfl ?_
          refine soff rfl rfl rfl rfl ?_
          refine soff rfl rfl rfl rfl ?_
          refine sv rfl (opv_pick_t rfl rfl) ?_
          refine snil ?_
          refine ccond rfl (fun _ => ?_) (fun hx => Bool.noConfusion hx)
          refine cseq ?_
          refine cregion ?_
          refine sv rfl (opv_as rfl) ?_
          refine snil ?_
          refine cret ?_
          refine then_ret ?_
          obtain rfl := Option.some.inj h
          refine ⟨Or.inr rfl, _, _, _, (resVs_cons (ResV.tmp _ _ rfl) resVs_nil), (pubA_id rfl), ?_⟩
          rfl
        · replace h := ite_f hc h
          clear hc
          refine son rfl rfl rfl ?_
          refine sv rfl (opv_fieldAddr_lp fi28_2 rfl) ?_
          refine son rfl rfl rfl ?_
          refine sv rfl (opv_load1 ti25 rfl (.lp _ _ _ rfl) rfl) ?_
          refine son rfl rfl rfl ?_
          refine sv rfl (opv_len_sl si25 rfl) ?_
          refine son rfl rfl rfl ?_
          refine sv rfl (opv_gtr rfl rfl) ?_
          refine sv rfl (opv_pick_f rfl rfl) ?_
          refine sv rfl (opv_mv rfl) ?_
          refine ssplit 27 rfl (fun hc => ?_) (fun hc => ?_)
          · replace h := ite_t hc h
            clear hc
            refine soff rfl rfl rfl rfl ?_
            refine soff rfl rfl rfl rfl ?_
            refine soff rfl rfl rfl rfl ?_
            refine soff rfl rfl rfl rfl ?_
            refine sv rfl (opv_pick_t rfl rfl) ?_
            refine snil ?_
            refine ccond rfl (fun _ => ?_) (fun hx => Bool.noConfusion hx)
            refine cseq ?_
            refine cregion ?_
            refine sv rfl (opv_as rfl) ?_
            refine snil ?_
            refine cret ?_
            refine then_ret ?_
            obtain rfl := Option.some.inj h
            refine ⟨Or.inr rfl, _, _, _, (resVs_cons (ResV.tmp _ _ rfl) resVs_nil), (pubA_id rfl), ?_⟩
            rfl
          · replace h := ite_f hc h
            clear hc
            refine son rfl rfl rfl ?_
            refine sv rfl (opv_fieldAddr_lp fi28_3 rfl) ?_
            refine son rfl rfl rfl ?_
            refine sv rfl (opv_load1 ti26 rfl (.lp _ _ _ rfl) rfl) ?_
            refine son rfl rfl rfl ?_
            refine sv rfl (opv_len_sl si26 rfl) ?_
            refine son rfl rfl rfl ?_
            refine sv rfl (opv_gtr rfl rfl) ?_
            refine sv rfl (opv_pick_f rfl rfl) ?_
            refine snil ?_
            refine ccond rfl (fun hc => ?_) (fun hc => ?_)
            · replace h := ite_t hc h
              clear hc
              refine cseq ?_
              refine cregion ?_
              refine sv rfl (opv_as rfl) ?_
              refine snil ?_
              refine cret ?_
              refine then_ret ?_
              obtain rfl := Option.some.inj h
              refine ⟨Or.inr rfl, _, _, _, (resVs_cons (ResV.tmp _ _ rfl) resVs_nil), (pubA_id rfl), ?_⟩
              rfl
            · replace h := ite_f hc h
              clear hc
              refine cskip ?_
              refine then_normal ?_
              exact ⟨(), _, h, ⟨rfl, trivial⟩, rfl⟩

def m37_r15_Accept_k4 (b4 : Int × (BitVec 64)) : Option (GR15Window × Int) :=
  some ((GR15Window.mk b4.1 b4.2), 0)

def m37_r15_Accept_s5 (s5 : Int × (BitVec 64)) : Option (LB (Int × (BitVec 64)) (Int × (BitVec 64))) :=
  if (decide (((s5.2 % (2#64)).toNat : Int) = (1 : Int))) then (some (.cont ((wI (s5.1 + 1)), (s5.2 / (2#64))))) else (some (.brk (s5.1, s5.2)))

def m37_r15_Accept_k3 (a0 : GR15Window) (b3 : (BitVec 64)) : Option (GR15Window × Int) :=
  (iterB m37_r15_Accept_s5 fuel (a0.Base, (a0.Bits + b3))).bind fun e6 => m37_r15_Accept_k4 e6

def m37_r15_Accept_s7 (a1 : Int) (s7 : (BitVec 64) × Int) : Option (LB ((BitVec 64) × Int) ((BitVec 64))) :=
  if (decide (s7.2 < a1)) then (some (.cont ((s7.1 * (2#64)), (wI (s7.2 + 1))))) else (some (.brk s7.1))

def m37_r15_Accept_k1 (a0 : GR15Window) (a1 : Int) (b1 : Unit) : Option (GR15Window × Int) :=
  (m47_r15_Seen a0 a1).bind fun v2 => if v2 then (some ((GR15Window.mk 0 (0#64)), 7)) else (if (decide ((wI (a0.Base + 64)) ≤ a1)) then (some ((GR15Window.mk 0 (0#64)), 8)) else ((iterB (m37_r15_Accept_s7 a1) fuel (1#64, a0.Base)).bind fun e8 => m37_r15_Accept_k3 a0 e8))
def m37_r15_Accept (a0 : GR15Window) (a1 : Int) : Option (GR15Window × Int) :=
  (m46_r15_Sane a0).bind fun v9 => if (!v9) then (some ((GR15Window.mk 0 (0#64)), 1)) else (if (decide (a1 < 0)) then (some ((GR15Window.mk 0 (0#64)), 1)) else (if (decide (4294967296 ≤ a1)) then (some ((GR15Window.mk 0 (0#64)), 1)) else (m37_r15_Accept_k1 a0 a1 ())))

set_option maxRecDepth 100000 in
theorem m37_r15_Accept_c {a0 : GR15Window} {a1 : Int} {r : GR15Window × Int} (h : m37_r15_Accept a0 a1 = some r) : CallsA Tryd.prog 37 [.agg a0, .one (.i .i64 a1)] (· = .tup [.agg r.1, .one (.i .i64 r.2)]) := by
  unfold m37_r15_Accept at h
  refine callsA_of Tryd.func37 rfl (nt := 57) rfl (Nat.le_of_ble_eq_true rfl) ?_
  intro w0 S0
  refine cseq ?_
  refine cregion ?_
  refine sbox rfl rfl ?_
  refine salloc rfl zi24 ?_
  refine sv rfl (opv_as rfl) ?_
  refine snil ?_
  refine cseq ?_
  refine cseq ?_
  refine cjoin3 (Unit) (fun b1 => [(1, .s (.one (.i .i64 a1))), (2, .s (.one (.lp 0 0))), (4, .s (.one (.lp 1 0)))]) (fun b1 => [.box a0, .box [.i .i64 0, .i .u64 ((0#64).toNat : Int)]]) (fun b1 => m37_r15_Accept_k1 a0 a1 b1 = some r) (fun _ _ => inbL_of rfl) (fun _ _ => blkinb_of rfl) (fun _ _ => Nat.le_of_ble_eq_true rfl) (fun b1 h => ?_) ?_
  · unfold m37_r15_Accept_k1 at h
    refine cseq ?_
    refine cseq ?_
    refine cregion ?_
    refine sv rfl (opv_loadN ti24 rfl (.lp _ _ _ rfl) (Nat.le_of_ble_eq_true rfl)) ?_
    refine sv rfl (opv_mv rfl) ?_
    obtain ⟨v2, hv2, h⟩ := bind_eq h
    refine scall1 rfl fn47 (opnds_cons rfl (opnds_cons rfl opnds_nil)) (pubA_id rfl) (m47_r15_Seen_c hv2) ?_
    refine snil ?_
    refine ccond rfl (fun hc => ?_) (fun hc => ?_)
    · replace h := ite_t hc h
      clear hc
      refine cseq ?_
      refine cregion ?_
      refine sv rfl (opv_build zi24 pi24 parts_nil (.nil _)) ?_
      refine sstore sz24 rfl rfl rfl rfl (Nat.le_of_ble_eq_true rfl) ?_
      refine smem [.box a0, .box [.i .i64 0, .i .u64 ((0#64).toNat : Int)]] rfl ?_
      refine sv rfl (opv_as rfl) ?_
      refine snil ?_
      refine cret ?_
      refine then_ret ?_
      obtain rfl := Option.some.inj h
      refine ⟨Or.inr rfl, _, _, _, (resVs_cons (ResV.agg _ _ _ _ _ ti24 rfl (.lp _ _ _ rfl) (Nat.le_of_ble_eq_true rfl)) (resVs_cons (ResV.tmp _ _ rfl) resVs_nil)), (pubA_id rfl), ?_⟩
      rfl
    · replace h := ite_f hc h
      clear hc
      refine cskip ?_
      refine then_normal ?_
      refine cseq ?_
      refine cseq ?_
      refine cregion ?_
      refine sv rfl (opv_mv rfl) ?_
      refine sv rfl (opv_fieldAddr_lp fi24_0 rfl) ?_
      refine sv rfl (opv_load1 ti3 rfl (.lp _ _ _ rfl) rfl) ?_
      refine sv rfl (opv_add rfl rfl) ?_
      refine sv rfl (opv_geq rfl rfl) ?_
      refine snil ?_
      refine ccond rfl (fun hc => ?_) (fun hc => ?_)
      · replace h := ite_t hc h
        clear hc
        refine cseq ?_
        refine cregion ?_
        refine sv rfl (opv_build zi24 pi24 parts_nil (.nil _)) ?_
        refine sstore sz24 rfl rfl rfl rfl (Nat.le_of_ble_eq_true rfl) ?_
        refine smem [.box a0, .box [.i .i64 0, .i .u64 ((0#64).toNat : Int)]] rfl ?_
        refine sv rfl (opv_as rfl) ?_
        refine snil ?_
        refine cret ?_
        refine then_ret ?_
        obtain rfl := Option.some.inj h
        refine ⟨Or.inr rfl, _, _, _, (resVs_cons (ResV.agg _ _ _ _ _ ti24 rfl (.lp _ _ _ rfl) (Nat.le_of_ble_eq_true rfl)) (resVs_cons (ResV.tmp _ _ rfl) resVs_nil)), (pubA_id rfl), ?_⟩
        rfl
      · replace h := ite_f hc h
        clear hc
        refine cskip ?_
        refine then_normal ?_
        refine cseq ?_
        refine cregion ?_
        refine sv rfl (opv_as rfl) ?_
        refine snil ?_
        refine cseq ?_
        refine cseq ?_
        refine cregion ?_
        refine sv rfl (opv_fieldAddr_lp fi24_0 rfl) ?_
        refine sv rfl (opv_load1 ti3 rfl (.lp _ _ _ rfl) rfl) ?_
        refine sv rfl (opv_as rfl) ?_
        refine snil ?_
        refine cjoin ((BitVec 64)) (fun b3 => [(2, .s (.one (.lp 0 0))), (4, .s (.one (.lp 1 0))), (6, .s (.one (.i .u64 (b3.toNat : Int))))]) (fun b3 => [.box a0, .box [.i .i64 0, .i .u64 ((0#64).toNat : Int)]]) (fun b3 => m37_r15_Accept_k3 a0 b3 = some r) (fun _ _ => inbL_of rfl) (fun _ _ => blkinb_of rfl) (fun _ _ => Nat.le_of_ble_eq_true rfl) (fun b3 h => ?_) ?_
        · unfold m37_r15_Accept_k3 at h
          refine cseq ?_
          refine cregion ?_
          refine sv rfl (opv_fieldAddr_lp fi24_1 rfl) ?_
          refine sv rfl (opv_load1 ti22 rfl (.lp _ _ _ rfl) rfl) ?_
          refine sv rfl (opv_mv rfl) ?_
          refine sv rfl (opv_add_u64 (a := a0.Bits) (b := b3) rfl rfl rfl rfl) ?_
          refine sv rfl (opv_fieldAddr_lp fi24_1 rfl) ?_
          refine sstore sz22 rfl rfl rfl rfl (Nat.le_of_ble_eq_true rfl) ?_
          refine smem [.box [.i .i64 a0.Base, .i .u64 ((a0.Bits + b3).toNat : Int)], .box [.i .i64 0, .i .u64 ((0#64).toNat : Int)]] rfl ?_
          refine snil ?_
          refine cseq ?_
          refine cjoin (Int × (BitVec 64)) (fun b4 => [(2, .s (.one (.lp 0 0))), (4, .s (.one (.lp 1 0)))]) (fun b4 => [.box [.i .i64 b4.1, .i .u64 (b4.2.toNat : Int)], .box [.i .i64 0, .i .u64 ((0#64).toNat : Int)]]) (fun b4 => m37_r15_Accept_k4 b4 = some r) (fun _ _ => inbL_of rfl) (fun _ _ => blkinb_of rfl) (fun _ _ => Nat.le_of_ble_eq_true rfl) (fun b4 h => ?_) ?_
          · unfold m37_r15_Accept_k4 at h
            refine cseq ?_
            refine cregion ?_
            refine sv rfl (opv_loadN ti24 rfl (.lp _ _ _ rfl) (Nat.le_of_ble_eq_true rfl)) ?_
            refine sstore sz24 rfl rfl rfl rfl (Nat.le_of_ble_eq_true rfl) ?_
            refine smem [.box [.i .i64 b4.1, .i .u64 (b4.2.toNat : Int)], .box [.i .i64 b4.1, .i .u64 (b4.2.toNat : Int)]] rfl ?_
            refine sv rfl (opv_as rfl) ?_
            refine snil ?_
            refine cret ?_
            obtain rfl := Option.some.inj h
            refine ⟨Or.inr rfl, _, _, _, (resVs_cons (ResV.agg _ _ _ _ _ ti24 rfl (.lp _ _ _ rfl) (Nat.le_of_ble_eq_true rfl)) (resVs_cons (ResV.tmp _ _ rfl) resVs_nil)), (pubA_id rfl), ?_⟩
            rfl
          · skip
            refine cblock ?_
            obtain ⟨x5, hx5, ho5⟩ := bind_eq h
            refine awc_loop (G := Nat × (Int × (BitVec 64))) (fun g => [(2, .s (.one (.lp 0 0))), (4, .s (.one (.lp 1 0)))]) (fun g => [.box [.i .i64 g.2.1, .i .u64 (g.2.2.toNat : Int)], .box [.i .i64 0, .i .u64 ((0#64).toNat : Int)]]) (fun g => iterB m37_r15_Accept_s5 g.1 g.2 = some x5) (fun g => g.1) (fuel, (a0.Base, (a0.Bits + b3))) hx5 ⟨rfl, rfl, trivial⟩ [] rfl (fun _ _ => inbL_of rfl) (fun _ _ => blkinb_of rfl) (fun _ _ => Nat.le_of_ble_eq_true rfl) ?_
            clear hx5 h
            rintro ⟨n5, s5⟩ h
            obtain ⟨n5, y5, rfl, h, hk5⟩ := iterB_eq h
            unfold m37_r15_Accept_s5 at h
            refine cseq ?_
            refine cseq ?_
            refine cregion ?_
            refine sv rfl (opv_fieldAddr_lp fi24_1 rfl) ?_
            refine sv rfl (opv_load1 ti22 rfl (.lp _ _ _ rfl) rfl) ?_
            refine sv rfl (opv_rem_u64 (a := s5.2) (b := 2#64) rfl rfl rfl rfl (by decide)) ?_
            refine sv rfl (opv_ieql rfl rfl) ?_
            refine snil ?_
            refine ccond rfl (fun hc => ?_) (fun hc => ?_)
            · replace h := ite_t hc h
              clear hc
              refine cskip ?_
              refine then_normal ?_
              refine cblock ?_
              refine cseq ?_
              refine cregion ?_
              refine sv rfl (opv_fieldAddr_lp fi24_1 rfl) ?_
              refine sv rfl (opv_load1 ti22 rfl (.lp _ _ _ rfl) rfl) ?_
              refine sv rfl (opv_quo_u64 (a := s5.2) (b := 2#64) rfl rfl rfl rfl (by decide)) ?_
              refine sv rfl (opv_fieldAddr_lp fi24_1 rfl) ?_
              refine sstore sz22 rfl rfl rfl rfl (Nat.le_of_ble_eq_true rfl) ?_
              refine smem [.box [.i .i64 s5.1, .i .u64 ((s5.2 / (2#64)).toNat : Int)], .box [.i .i64 0, .i .u64 ((0#64).toNat : Int)]] rfl ?_
              refine snil ?_
              refine cregion ?_
              refine sv rfl (opv_fieldAddr_lp fi24_0 rfl) ?_
              refine sv rfl (opv_load1 ti3 rfl (.lp _ _ _ rfl) rfl) ?_
              refine sv rfl (opv_add rfl rfl) ?_
              refine sv rfl (opv_fieldAddr_lp fi24_0 rfl) ?_
              refine sstore sz3 rfl rfl rfl rfl (Nat.le_of_ble_eq_true rfl) ?_
              refine smem [.box [.i .i64 (wI (s5.1 + 1)), .i .u64 ((s5.2 / (2#64)).toNat : Int)], .box [.i .i64 0, .i .u64 ((0#64).toNat : Int)]] rfl ?_
              refine snil0 ?_
              refine block_normal ?_
              refine then_normal ?_
              obtain rfl := Option.some.inj h
              exact ⟨(n5, ((wI (s5.1 + 1)), (s5.2 / (2#64)))), _, hk5, ⟨rfl, rfl, trivial⟩, rfl, Nat.lt_succ_self _⟩
            · replace h := ite_f hc h
              clear hc
              refine cexit ?_
              refine then_exit ?_
              refine then_exit ?_
              refine block_hit ?_
              refine then_normal ?_
              obtain rfl := Option.some.inj h
              obtain rfl : _ = x5 := hk5
              exact ⟨(s5.1, s5.2), _, ho5, ⟨rfl, rfl, trivial⟩, rfl⟩
        · skip
          refine cblock ?_
          obtain ⟨x7, hx7, ho7⟩ := bind_eq h
          refine awc_loop (G := Nat × ((BitVec 64) × Int)) (fun g => [(1, .s (.one (.i .i64 a1))), (2, .s (.one (.lp 0 0))), (4, .s (.one (.lp 1 0))), (6, .s (.one (.i .u64 (g.2.1.toNat : Int)))), (7, .s (.one (.i .i64 g.2.2)))]) (fun g => [.box a0, .box [.i .i64 0, .i .u64 ((0#64).toNat : Int)]]) (fun g => iterB (m37_r15_Accept_s7 a1) g.1 g.2 = some x7) (fun g => g.1) (fuel, (1#64, a0.Base)) hx7 ⟨rfl, rfl, rfl, rfl, rfl, trivial⟩ [] rfl (fun _ _ => inbL_of rfl) (fun _ _ => blkinb_of rfl) (fun _ _ => Nat.le_of_ble_eq_true rfl) ?_
          clear hx7 h
          rintro ⟨n7, s7⟩ h
          obtain ⟨n7, y7, rfl, h, hk7⟩ := iterB_eq h
          unfold m37_r15_Accept_s7 at h
          refine cseq ?_
          refine cseq ?_
          refine cregion ?_
          refine sv rfl (opv_mv rfl) ?_
          refine sv rfl (opv_mv rfl) ?_
          refine sv rfl (opv_lss rfl rfl) ?_
          refine snil ?_
          refine ccond rfl (fun hc => ?_) (fun hc => ?_)
          · replace h := ite_t hc h
            clear hc
            refine cskip ?_
            refine then_normal ?_
            refine cseq ?_
            refine cblock ?_
            refine cregion ?_
            refine sv rfl (opv_mv rfl) ?_
            refine sv rfl (opv_mul_u64 (a := s7.1) (b := 2#64) rfl rfl rfl rfl) ?_
            refine sv rfl (opv_as rfl) ?_
            refine snil0 ?_
            refine block_normal ?_
            refine then_normal ?_
            refine cregion ?_
            refine sv rfl (opv_mv rfl) ?_
            refine sv rfl (opv_add rfl rfl) ?_
            refine sv rfl (opv_as rfl) ?_
            refine snil ?_
            obtain rfl := Option.some.inj h
            exact ⟨(n7, ((s7.1 * (2#64)), (wI (s7.2 + 1)))), _, hk7, ⟨rfl, rfl, rfl, rfl, rfl, trivial⟩, rfl, Nat.lt_succ_self _⟩
          · replace h := ite_f hc h
            clear hc
            refine cexit ?_
            refine then_exit ?_
            refine then_exit ?_
            refine block_hit ?_
            refine then_normal ?_
            obtain rfl := Option.some.inj h
            obtain rfl : _ = x7 := hk7
            exact ⟨s7.1, _, ho7, ⟨rfl, rfl, rfl, trivial⟩, rfl⟩
  · skip
    refine cregion ?_
    refine sv rfl (opv_loadN ti24 rfl (.lp _ _ _ rfl) (Nat.le_of_ble_eq_true rfl)) ?_
    obtain ⟨v9, hv9, h⟩ := bind_eq h
    refine scall1 rfl fn46 (opnds_cons rfl opnds_nil) (pubA_id rfl) (m46_r15_Sane_c hv9) ?_
    refine sv rfl (opv_not rfl) ?_
    refine sv rfl (opv_mv rfl) ?_
    refine ssplit 11 rfl (fun hc => ?_) (fun hc => ?_)
    · replace h := ite_t hc h
      clear hc
      refine soff rfl rfl rfl rfl ?_
      refine soff rfl rfl rfl rfl ?_
      refine sv rfl (opv_pick_t rfl rfl) ?_
      refine sv rfl (opv_mv rfl) ?_
      refine soff rfl rfl rfl rfl ?_
      refine soff rfl rfl rfl rfl ?_
      refine sv rfl (opv_pick_t rfl rfl) ?_
      refine snil ?_
      refine ccond rfl (fun _ => ?_) (fun hx => Bool.noConfusion hx)
      refine cseq ?_
      refine cregion ?_
      refine sv rfl (opv_build zi24 pi24 parts_nil (.nil _)) ?_
      refine sstore sz24 rfl rfl rfl rfl (Nat.le_of_ble_eq_true rfl) ?_
      refine smem [.box a0, .box [.i .i64 0, .i .u64 ((0#64).toNat : Int)]] rfl ?_
      refine sv rfl (opv_as rfl) ?_
      refine snil ?_
      refine cret ?_
      refine then_ret ?_
      obtain rfl := Option.some.inj h
      refine ⟨Or.inr rfl, _, _, _, (resVs_cons (ResV.agg _ _ _ _ _ ti24 rfl (.lp _ _ _ rfl) (Nat.le_of_ble_eq_true rfl)) (resVs_cons (ResV.tmp _ _ rfl) resVs_nil)), (pubA_id rfl), ?_⟩
      rfl
    · replace h := ite_f hc h
      clear hc
      refine son rfl rfl rfl ?_
      refine sv rfl (opv_mv rfl) ?_
      refine son rfl rfl rfl ?_
      refine sv rfl (opv_lss rfl rfl) ?_
      refine sv rfl (opv_pick_f rfl rfl) ?_
      refine sv rfl (opv_mv rfl) ?_
      refine ssplit 15 rfl (fun hc => ?_) (fun hc => ?_)
      · replace h := ite_t hc h
        clear hc
        refine soff rfl rfl rfl rfl ?_
        refine soff rfl rfl rfl rfl ?_
        refine sv rfl (opv_pick_t rfl rfl) ?_
        refine snil ?_
        refine ccond rfl (fun _ => ?_) (fun hx => Bool.noConfusion hx)
        refine cseq ?_
        refine cregion ?_
        refine sv rfl (opv_build zi24 pi24 parts_nil (.nil _)) ?_
        refine sstore sz24 rfl rfl rfl rfl (Nat.le_of_ble_eq_true rfl) ?_
        refine smem [.box a0, .box [.i .i64 0, .i .u64 ((0#64).toNat : Int)]] rfl ?_
        refine sv rfl (opv_as rfl) ?_
        refine snil ?_
        refine cret ?_
        refine then_ret ?_
        obtain rfl := Option.some.inj h
        refine ⟨Or.inr rfl, _, _, _, (resVs_cons (ResV.agg _ _ _ _ _ ti24 rfl (.lp _ _ _ rfl) (Nat.le_of_ble_eq_true rfl)) (resVs_cons (ResV.tmp _ _ rfl) resVs_nil)), (pubA_id rfl), ?_⟩
        rfl
      · replace h := ite_f hc h
        clear hc
        refine son rfl rfl rfl ?_
        refine sv rfl (opv_mv rfl) ?_
        refine son rfl rfl rfl ?_
        refine sv rfl (opv_geq rfl rfl) ?_
        refine sv rfl (opv_pick_f rfl rfl) ?_
        refine snil ?_
        refine ccond rfl (fun hc => ?_) (fun hc => ?_)
        · replace h := ite_t hc h
          clear hc
          refine cseq ?_
          refine cregion ?_
          refine sv rfl (opv_build zi24 pi24 parts_nil (.nil _)) ?_
          refine sstore sz24 rfl rfl rfl rfl (Nat.le_of_ble_eq_true rfl) ?_
          refine smem [.box a0, .box [.i .i64 0, .i .u64 ((0#64).toNat : Int)]] rfl ?_
          refine sv rfl (opv_as rfl) ?_
          refine snil ?_
          refine cret ?_
          refine then_ret ?_
          obtain rfl := Option.some.inj h
          refine ⟨Or.inr rfl, _, _, _, (resVs_cons (ResV.agg _ _ _ _ _ ti24 rfl (.lp _ _ _ rfl) (Nat.le_of_ble_eq_true rfl)) (resVs_cons (ResV.tmp _ _ rfl) resVs_nil)), (pubA_id rfl), ?_⟩
          rfl
        · replace h := ite_f hc h
          clear hc
          refine cskip ?_
          refine then_normal ?_
          exact ⟨(), _, h, ⟨rfl, rfl, rfl, trivial⟩, rfl⟩

def m15_r16_Offer_k6 (a0 : GR16Pipe) (v4 : GR15Window × Int) (b6 : (List GR05Req)) : Option (GR16Pipe × GR05Reply × Bool × Int) :=
  some ((GR16Pipe.mk v4.1 a0.Next b6 a0.Past), (GR05Reply.mk 0 0 0 0 false ([] : List UInt8) ([] : List GApiKV)), false, 0)

def m15_r16_Offer_k5 (a0 : GR16Pipe) (a1 : GR05Req) (v4 : GR15Window × Int) (b5 : Bool × (List GR05Req)) : Option (GR16Pipe × GR05Reply × Bool × Int) :=
  if (!b5.1) then (if (b5.2.length + [(GR05Req.mk a1.Kind a1.Seq a1.Token a1.Attempt a1.RO a1.Key a1.Val (GApiRange.mk a1.Rng.Lo a1.Rng.Hi a1.Rng.Open))].length) * 144 ≤ 140737488355328 then (m15_r16_Offer_k6 a0 v4 (b5.2 ++ [(GR05Req.mk a1.Kind a1.Seq a1.Token a1.Attempt a1.RO a1.Key a1.Val (GApiRange.mk a1.Rng.Lo a1.Rng.Hi a1.Rng.Open))])) else none) else (m15_r16_Offer_k6 a0 v4 b5.2)

def m15_r16_Offer_k9 (a0 : GR16Pipe) (s8 : Bool × Int × (List GR05Req)) (b9 : Bool × (List GR05Req)) : Option (LB (Bool × Int × (List GR05Req)) (Bool × (List GR05Req))) :=
  (idx a0.Wait s8.2.1).bind fun u10 => if (b9.2.length + ([(GR05Req.mk u10.Kind u10.Seq u10.Token u10.Attempt u10.RO u10.Key u10.Val (GApiRange.mk u10.Rng.Lo u10.Rng.Hi u10.Rng.Open))] : List GR05Req).length) * 144 ≤ 140737488355328 then (some (.cont (b9.1, (wI (s8.2.1 + 1)), (b9.2 ++ ([(GR05Req.mk u10.Kind u10.Seq u10.Token u10.Attempt u10.RO u10.Key u10.Val (GApiRange.mk u10.Rng.Lo u10.Rng.Hi u10.Rng.Open))] : List GR05Req))))) else none

def m15_r16_Offer_s8 (a0 : GR16Pipe) (a1 : GR05Req) (s8 : Bool × Int × (List GR05Req)) : Option (LB (Bool × Int × (List GR05Req)) (Bool × (List GR05Req))) :=
  if (decide (s8.2.1 < (a0.Wait.length : Int))) then ((idx a0.Wait s8.2.1).bind fun u12 => if (decide (a1.Seq < u12.Seq)) then (if (!s8.1) then (if (s8.2.2.length + [(GR05Req.mk a1.Kind a1.Seq a1.Token a1.Attempt a1.RO a1.Key a1.Val (GApiRange.mk a1.Rng.Lo a1.Rng.Hi a1.Rng.Open))].length) * 144 ≤ 140737488355328 then (m15_r16_Offer_k9 a0 s8 (true, (s8.2.2 ++ [(GR05Req.mk a1.Kind a1.Seq a1.Token a1.Attempt a1.RO a1.Key a1.Val (GApiRange.mk a1.Rng.Lo a1.Rng.Hi a1.Rng.Open))]))) else none) else (m15_r16_Offer_k9 a0 s8 (s8.1, s8.2.2))) else (m15_r16_Offer_k9 a0 s8 (s8.1, s8.2.2))) else (some (.brk (s8.1, s8.2.2)))

def m15_r16_Offer_k2 (a0 : GR16Pipe) (a1 : GR05Req) (b2 : Unit) : Option (GR16Pipe × GR05Reply × Bool × Int) :=
  if (decide (a1.Seq < a0.Next)) then (some ((GR16Pipe.mk (GR15Window.mk 0 (0#64)) 0 ([] : List GR05Req) ([] : List GR05Reply)), (GR05Reply.mk 0 0 0 0 false ([] : List UInt8) ([] : List GApiKV)), false, 7)) else ((m36_r16_waits (GR16Pipe.mk (GR15Window.mk a0.Win.Base a0.Win.Bits) a0.Next a0.Wait a0.Past) a1.Seq).bind fun v3 => if (decide (0 ≤ v3)) then (some ((GR16Pipe.mk (GR15Window.mk a0.Win.Base a0.Win.Bits) a0.Next a0.Wait a0.Past), (GR05Reply.mk 0 0 0 0 false ([] : List UInt8) ([] : List GApiKV)), false, 0)) else (if (decide ((wI (a0.Next + 8)) ≤ a1.Seq)) then (some ((GR16Pipe.mk (GR15Window.mk 0 (0#64)) 0 ([] : List GR05Req) ([] : List GR05Reply)), (GR05Reply.mk 0 0 0 0 false ([] : List UInt8) ([] : List GApiKV)), false, 8)) else ((m37_r15_Accept (GR15Window.mk a0.Win.Base a0.Win.Bits) a1.Seq).bind fun v4 => (iterB (m15_r16_Offer_s8 a0 a1) fuel (false, 0, ([] : List GR05Req))).bind fun e14 => m15_r16_Offer_k5 a0 a1 v4 e14)))

def m15_r16_Offer_s15 (a0 : GR16Pipe) (a1 : GR05Req) (s15 : Int) : Option (LR (Int) (Unit) (GR16Pipe × GR05Reply × Bool × Int)) :=
  if (decide (s15 < (a0.Past.length : Int))) then ((idx a0.Past s15).bind fun u16 => if (decide (u16.Seq = a1.Seq)) then ((idx a0.Past s15).bind fun u17 => some (.ret ((GR16Pipe.mk (GR15Window.mk a0.Win.Base a0.Win.Bits) a0.Next a0.Wait a0.Past), u17, true, 0))) else (some (.cont (wI (s15 + 1))))) else (some (.brk ()))

def m15_r16_Offer_k1 (a0 : GR16Pipe) (a1 : GR05Req) (b1 : Unit) : Option (GR16Pipe × GR05Reply × Bool × Int) :=
  (iter (m15_r16_Offer_s15 a0 a1) fuel 0).bind fun x => match x with | .inl r => some r | .inr e18 => m15_r16_Offer_k2 a0 a1 e18
def m15_r16_Offer (a0 : GR16Pipe) (a1 : GR05Req) : Option (GR16Pipe × GR05Reply × Bool × Int) :=
  (m28_r16_Sane (GR16Pipe.mk (GR15Window.mk a0.Win.Base a0.Win.Bits) a0.Next a0.Wait a0.Past)).bind fun v19 => if (!v19) then (some ((GR16Pipe.mk (GR15Window.mk 0 (0#64)) 0 ([] : List GR05Req) ([] : List GR05Reply)), (GR05Reply.mk 0 0 0 0 false ([] : List UInt8) ([] : List GApiKV)), false, 1)) else ((m31_r05_SaneReq (GR05Req.mk a1.Kind a1.Seq a1.Token a1.Attempt a1.RO a1.Key a1.Val (GApiRange.mk a1.Rng.Lo a1.Rng.Hi a1.Rng.Open))).bind fun v20 => if (!v20) then (some ((GR16Pipe.mk (GR15Window.mk 0 (0#64)) 0 ([] : List GR05Req) ([] : List GR05Reply)), (GR05Reply.mk 0 0 0 0 false ([] : List UInt8) ([] : List GApiKV)), false, 1)) else (m15_r16_Offer_k1 a0 a1 ()))

set_option maxRecDepth 100000 in
theorem m15_r16_Offer_c {a0 : GR16Pipe} {a1 : GR05Req} {r : GR16Pipe × GR05Reply × Bool × Int} (h : m15_r16_Offer a0 a1 = some r) : CallsA Tryd.prog 15 [.agg a0, .agg a1] (· = .tup [.agg r.1, .agg r.2.1, .one (.b r.2.2.1), .one (.i .i64 r.2.2.2)]) := by
  unfold m15_r16_Offer at h
  refine callsA_of Tryd.func15 rfl (nt := 131) rfl (Nat.le_of_ble_eq_true rfl) ?_
  intro w0 S0
  refine cseq ?_
  refine cregion ?_
  refine sbox rfl rfl ?_
  refine sbox rfl rfl ?_
  refine salloc rfl zi28 ?_
  refine salloc rfl zi37 ?_
  refine sv rfl (opv_as rfl) ?_
  refine sv rfl (opv_as rfl) ?_
  refine snil ?_
  refine cseq ?_
  refine cregion ?_
  refine sv rfl (opv_build zi37 pi37 parts_nil (.nil _)) ?_
  refine salloc rfl zi37 ?_
  refine sstore sz37 rfl rfl rfl rfl (Nat.le_of_ble_eq_true rfl) ?_
  refine smem [.box a0, .box a1, .box [.i .i64 0, .i .u64 ((0#64).toNat : Int), .i .i64 0, .raw (.slice none 0 0), .raw (.slice none 0 0)], .box [.i .i64 0, .i .i64 0, .i .i64 0, .i .i64 0, .b false, .raw (.slice none 0 0), .raw (.slice none 0 0)], .box [.i .i64 0, .i .i64 0, .i .i64 0, .i .i64 0, .b false, .raw (.slice none 0 0), .raw (.slice none 0 0)]] rfl ?_
  refine snil ?_
  refine cseq ?_
  refine cseq ?_
  refine cjoin3 (Unit) (fun b1 => [(2, .s (.one (.lp 0 0))), (3, .s (.one (.lp 1 0))), (4, .s (.one (.lp 2 0))), (5, .s (.one (.lp 3 0))), (8, .s (.one (.lp 4 0)))]) (fun b1 => [.box a0, .box a1, .box [.i .i64 0, .i .u64 ((0#64).toNat : Int), .i .i64 0, .raw (.slice none 0 0), .raw (.slice none 0 0)], .box [.i .i64 0, .i .i64 0, .i .i64 0, .i .i64 0, .b false, .raw (.slice none 0 0), .raw (.slice none 0 0)], .box [.i .i64 0, .i .i64 0, .i .i64 0, .i .i64 0, .b false, .raw (.slice none 0 0), .raw (.slice none 0 0)]]) (fun b1 => m15_r16_Offer_k1 a0 a1 b1 = some r) (fun _ _ => inbL_of rfl) (fun _ _ => blkinb_of rfl) (fun _ _ => Nat.le_of_ble_eq_true rfl) (fun b1 h => ?_) ?_
  · unfold m15_r16_Offer_k1 at h
    refine cseq ?_
    refine cseq ?_
    refine cregion ?_
    refine sv rfl (opv_as rfl) ?_
    refine snil ?_
    refine cjoin (Unit) (fun b2 => [(2, .s (.one (.lp 0 0))), (3, .s (.one (.lp 1 0))), (4, .s (.one (.lp 2 0))), (5, .s (.one (.lp 3 0))), (8, .s (.one (.lp 4 0)))]) (fun b2 => [.box a0, .box a1, .box [.i .i64 0, .i .u64 ((0#64).toNat : Int), .i .i64 0, .raw (.slice none 0 0), .raw (.slice none 0 0)], .box [.i .i64 0, .i .i64 0, .i .i64 0, .i .i64 0, .b false, .raw (.slice none 0 0), .raw (.slice none 0 0)], .box [.i .i64 0, .i .i64 0, .i .i64 0, .i .i64 0, .b false, .raw (.slice none 0 0), .raw (.slice none 0 0)]]) (fun b2 => m15_r16_Offer_k2 a0 a1 b2 = some r) (fun _ _ => inbL_of rfl) (fun _ _ => blkinb_of rfl) (fun _ _ => Nat.le_of_ble_eq_true rfl) (fun b2 h => ?_) ?_
    · unfold m15_r16_Offer_k2 at h
      refine cseq ?_
      refine cseq ?_
      refine cregion ?_
      refine sv rfl (opv_fieldAddr_lp fi33_1 rfl) ?_
      refine sv rfl (opv_load1 ti3 rfl (.lp _ _ _ rfl) rfl) ?_
      refine sv rfl (opv_fieldAddr_lp fi28_1 rfl) ?_
      refine sv rfl (opv_load1 ti3 rfl (.lp _ _ _ rfl) rfl) ?_
      refine sv rfl (opv_lss rfl rfl) ?_
      refine snil ?_
      refine ccond rfl (fun hc => ?_) (fun hc => ?_)
      · replace h := ite_t hc h
        clear hc
        refine cseq ?_
        refine cdraw_e [2, 3] [0, 0, 1, 7, 15, 31] [[.box a0, .box a1, .box [.i .i64 0, .i .u64 ((0#64).toNat : Int), .i .i64 0, .raw (.slice none 0 0), .raw (.slice none 0 0)], .box [.i .i64 0, .i .i64 0, .i .i64 0, .i .i64 0, .b false, .raw (.slice none 0 0), .raw (.slice none 0 0)], .box [.i .i64 0, .i .i64 0, .i .i64 0, .i .i64 0, .b false, .raw (.slice none 0 0), .raw (.slice none 0 0)]], [.box a0, .box a1, .box [.i .i64 0, .i .u64 ((0#64).toNat : Int), .i .i64 0, .raw (.slice none 0 0), .raw (.slice none 0 0)], .box [.i .i64 0, .i .i64 0, .i .i64 0, .i .i64 0, .b false, .raw (.slice none 0 0), .raw (.slice none 0 0)], .box [.i .i64 0, .i .i64 0, .i .i64 0, .i .i64 0, .b false, .raw (.slice none 0 0), .raw (.slice none 0 0)]], [.box a0, .box a1, .box [.i .i64 0, .i .u64 ((0#64).toNat : Int), .i .i64 0, .raw (.slice none 0 0), .raw (.slice none 0 0)], .box [.i .i64 0, .i .i64 0, .i .i64 0, .i .i64 0, .b false, .raw (.slice none 0 0), .raw (.slice none 0 0)], .box [.i .i64 0, .i .i64 0, .i .i64 0, .i .i64 0, .b false, .raw (.slice none 0 0), .raw (.slice none 0 0)]]] (by kernel_rfl) mixed (by kernel_rfl) (by decide) rfl rfl rfl rfl ?_
        refine ev (sees_at 0 rfl rfl) rfl rfl (opv_build zi28 pi28 parts_nil (.nil _)) ?_
        refine ev (sees_all (md := [.box a0, .box a1, .box [.i .i64 0, .i .u64 ((0#64).toNat : Int), .i .i64 0, .raw (.slice none 0 0), .raw (.slice none 0 0)], .box [.i .i64 0, .i .i64 0, .i .i64 0, .i .i64 0, .b false, .raw (.slice none 0 0), .raw (.slice none 0 0)], .box [.i .i64 0, .i .i64 0, .i .i64 0, .i .i64 0, .b false, .raw (.slice none 0 0), .raw (.slice none 0 0)]]) ⟨⟨rfl, ⟨rfl, ⟨rfl, ⟨rfl, ⟨rfl, trivial⟩⟩⟩⟩⟩, ⟨⟨rfl, ⟨rfl, ⟨rfl, ⟨rfl, ⟨rfl, trivial⟩⟩⟩⟩⟩, ⟨⟨rfl, ⟨rfl, ⟨rfl, ⟨rfl, ⟨rfl, trivial⟩⟩⟩⟩⟩, trivial⟩⟩⟩) rfl rfl (opv_loadN ti37 rfl (.lp _ _ _ rfl) (Nat.le_of_ble_eq_true rfl)) ?_
        refine ee0 0 rfl rfl rfl rfl (fun ζ => ?_) ?_
        · refine sstore sz28 rfl rfl rfl rfl (Nat.le_of_ble_eq_true rfl) ?_
          refine smem [.box a0, .box a1, .box [.i .i64 0, .i .u64 ((0#64).toNat : Int), .i .i64 0, .raw (.slice none 0 0), .raw (.slice none 0 0)], .box [.i .i64 0, .i .i64 0, .i .i64 0, .i .i64 0, .b false, .raw (.slice none 0 0), .raw (.slice none 0 0)], .box [.i .i64 0, .i .i64 0, .i .i64 0, .i .i64 0, .b false, .raw (.slice none 0 0), .raw (.slice none 0 0)]] rfl ?_
          exact eend
        refine ee0 1 rfl rfl rfl rfl (fun ζ => ?_) ?_
        · refine sstore sz37 rfl rfl rfl rfl (Nat.le_of_ble_eq_true rfl) ?_
          refine smem [.box a0, .box a1, .box [.i .i64 0, .i .u64 ((0#64).toNat : Int), .i .i64 0, .raw (.slice none 0 0), .raw (.slice none 0 0)], .box [.i .i64 0, .i .i64 0, .i .i64 0, .i .i64 0, .b false, .raw (.slice none 0 0), .raw (.slice none 0 0)], .box [.i .i64 0, .i .i64 0, .i .i64 0, .i .i64 0, .b false, .raw (.slice none 0 0), .raw (.slice none 0 0)]] rfl ?_
          exact eend
        refine ev (sees_at 2 rfl rfl) rfl rfl (opv_as rfl) ?_
        refine ev (sees_at 2 rfl rfl) rfl rfl (opv_as rfl) ?_
        refine enil ?_
        refine then_normal ?_
        refine cret ?_
        refine then_ret ?_
        obtain rfl := Option.some.inj h
        refine ⟨Or.inr rfl, _, _, _, (resVs_cons (ResV.agg _ _ _ _ _ ti28 rfl (.lp _ _ _ rfl) (Nat.le_of_ble_eq_true rfl)) (resVs_cons (ResV.agg _ _ _ _ _ ti37 rfl (.lp _ _ _ rfl) (Nat.le_of_ble_eq_true rfl)) (resVs_cons (ResV.tmp _ _ rfl) (resVs_cons (ResV.tmp _ _ rfl) resVs_nil)))), (pubC rfl), ?_⟩
        rfl
      · replace h := ite_f hc h
        clear hc
        refine cskip ?_
        refine then_normal ?_
        refine cseq ?_
        refine cseq ?_
        refine cregion ?_
        refine sv rfl (opv_loadN ti28 rfl (.lp _ _ _ rfl) (Nat.le_of_ble_eq_true rfl)) ?_
        refine sv rfl (opv_fieldAddr_lp fi33_1 rfl) ?_
        refine sv rfl (opv_load1 ti3 rfl (.lp _ _ _ rfl) rfl) ?_
        obtain ⟨v3, hv3, h⟩ := bind_eq h
        refine scall1 rfl fn36 (opnds_cons rfl (opnds_cons rfl opnds_nil)) (pubA_id rfl) (m36_r16_waits_c hv3) ?_
        refine sv rfl (opv_geq rfl rfl) ?_
        refine snil ?_
        refine ccond rfl (fun hc => ?_) (fun hc => ?_)
        · replace h := ite_t hc h
          clear hc
          refine cseq ?_
          refine cdraw_e [2, 3] [0, 0, 1, 7, 15, 31] [[.box a0, .box a1, .box [.i .i64 0, .i .u64 ((0#64).toNat : Int), .i .i64 0, .raw (.slice none 0 0), .raw (.slice none 0 0)], .box [.i .i64 0, .i .i64 0, .i .i64 0, .i .i64 0, .b false, .raw (.slice none 0 0), .raw (.slice none 0 0)], .box [.i .i64 0, .i .i64 0, .i .i64 0, .i .i64 0, .b false, .raw (.slice none 0 0), .raw (.slice none 0 0)]], [.box a0, .box a1, .box a0, .box [.i .i64 0, .i .i64 0, .i .i64 0, .i .i64 0, .b false, .raw (.slice none 0 0), .raw (.slice none 0 0)], .box [.i .i64 0, .i .i64 0, .i .i64 0, .i .i64 0, .b false, .raw (.slice none 0 0), .raw (.slice none 0 0)]], [.box a0, .box a1, .box a0, .box [.i .i64 0, .i .i64 0, .i .i64 0, .i .i64 0, .b false, .raw (.slice none 0 0), .raw (.slice none 0 0)], .box [.i .i64 0, .i .i64 0, .i .i64 0, .i .i64 0, .b false, .raw (.slice none 0 0), .raw (.slice none 0 0)]]] (by kernel_rfl) mixed (by kernel_rfl) (by decide) rfl rfl rfl rfl ?_
          refine ev (sees_at 0 rfl rfl) rfl rfl (opv_loadN ti28 rfl (.lp _ _ _ rfl) (Nat.le_of_ble_eq_true rfl)) ?_
          refine ev (sees_all (md := [.box a0, .box a1, .dead, .box [.i .i64 0, .i .i64 0, .i .i64 0, .i .i64 0, .b false, .raw (.slice none 0 0), .raw (.slice none 0 0)], .box [.i .i64 0, .i .i64 0, .i .i64 0, .i .i64 0, .b false, .raw (.slice none 0 0), .raw (.slice none 0 0)]]) ⟨⟨rfl, ⟨rfl, ⟨trivial, ⟨rfl, ⟨rfl, trivial⟩⟩⟩⟩⟩, ⟨⟨rfl, ⟨rfl, ⟨trivial, ⟨rfl, ⟨rfl, trivial⟩⟩⟩⟩⟩, ⟨⟨rfl, ⟨rfl, ⟨trivial, ⟨rfl, ⟨rfl, trivial⟩⟩⟩⟩⟩, trivial⟩⟩⟩) rfl rfl (opv_loadN ti37 rfl (.lp _ _ _ rfl) (Nat.le_of_ble_eq_true rfl)) ?_
          refine ee0 0 rfl rfl rfl rfl (fun ζ => ?_) ?_
          · refine sstore sz28 rfl rfl rfl rfl (Nat.le_of_ble_eq_true rfl) ?_
            refine smem [.box a0, .box a1, .box a0, .box [.i .i64 0, .i .i64 0, .i .i64 0, .i .i64 0, .b false, .raw (.slice none 0 0), .raw (.slice none 0 0)], .box [.i .i64 0, .i .i64 0, .i .i64 0, .i .i64 0, .b false, .raw (.slice none 0 0), .raw (.slice none 0 0)]] rfl ?_
            exact eend
          refine ee0 1 rfl rfl rfl rfl (fun ζ => ?_) ?_
          · refine sstore sz37 rfl rfl rfl rfl (Nat.le_of_ble_eq_true rfl) ?_
            refine smem [.box a0, .box a1, .box a0, .box [.i .i64 0, .i .i64 0, .i .i64 0, .i .i64 0, .b false, .raw (.slice none 0 0), .raw (.slice none 0 0)], .box [.i .i64 0, .i .i64 0, .i .i64 0, .i .i64 0, .b false, .raw (.slice none 0 0), .raw (.slice none 0 0)]] rfl ?_
            exact eend
          refine ev (sees_at 2 rfl rfl) rfl rfl (opv_as rfl) ?_
          refine ev (sees_at 2 rfl rfl) rfl rfl (opv_as rfl) ?_
          refine enil ?_
          refine then_normal ?_
          refine cret ?_
          refine then_ret ?_
          obtain rfl := Option.some.inj h
          refine ⟨Or.inr rfl, _, _, _, (resVs_cons (ResV.agg _ _ _ _ _ ti28 rfl (.lp _ _ _ rfl) (Nat.le_of_ble_eq_true rfl)) (resVs_cons (ResV.agg _ _ _ _ _ ti37 rfl (.lp _ _ _ rfl) (Nat.le_of_ble_eq_true rfl)) (resVs_cons (ResV.tmp _ _ rfl) (resVs_cons (ResV.tmp _ _ rfl) resVs_nil)))), (pubC rfl), ?_⟩
          rfl
        · replace h := ite_f hc h
          clear hc
          refine cskip ?_
          refine then_normal ?_
          refine cseq ?_
          refine cseq ?_
          refine cregion ?_
          refine sv rfl (opv_fieldAddr_lp fi33_1 rfl) ?_
          refine sv rfl (opv_load1 ti3 rfl (.lp _ _ _ rfl) rfl) ?_
          refine sv rfl (opv_fieldAddr_lp fi28_1 rfl) ?_
          refine sv rfl (opv_load1 ti3 rfl (.lp _ _ _ rfl) rfl) ?_
          refine sv rfl (opv_add rfl rfl) ?_
          refine sv rfl (opv_geq rfl rfl) ?_
          refine snil ?_
          refine ccond rfl (fun hc => ?_) (fun hc => ?_)
          · replace h := ite_t hc h
            clear hc
            refine cseq ?_
            refine cdraw_e [2, 3] [0, 0, 1, 7, 15, 31] [[.box a0, .box a1, .box [.i .i64 0, .i .u64 ((0#64).toNat : Int), .i .i64 0, .raw (.slice none 0 0), .raw (.slice none 0 0)], .box [.i .i64 0, .i .i64 0, .i .i64 0, .i .i64 0, .b false, .raw (.slice none 0 0), .raw (.slice none 0 0)], .box [.i .i64 0, .i .i64 0, .i .i64 0, .i .i64 0, .b false, .raw (.slice none 0 0), .raw (.slice none 0 0)]], [.box a0, .box a1, .box [.i .i64 0, .i .u64 ((0#64).toNat : Int), .i .i64 0, .raw (.slice none 0 0), .raw (.slice none 0 0)], .box [.i .i64 0, .i .i64 0, .i .i64 0, .i .i64 0, .b false, .raw (.slice none 0 0), .raw (.slice none 0 0)], .box [.i .i64 0, .i .i64 0, .i .i64 0, .i .i64 0, .b false, .raw (.slice none 0 0), .raw (.slice none 0 0)]], [.box a0, .box a1, .box [.i .i64 0, .i .u64 ((0#64).toNat : Int), .i .i64 0, .raw (.slice none 0 0), .raw (.slice none 0 0)], .box [.i .i64 0, .i .i64 0, .i .i64 0, .i .i64 0, .b false, .raw (.slice none 0 0), .raw (.slice none 0 0)], .box [.i .i64 0, .i .i64 0, .i .i64 0, .i .i64 0, .b false, .raw (.slice none 0 0), .raw (.slice none 0 0)]]] (by kernel_rfl) mixed (by kernel_rfl) (by decide) rfl rfl rfl rfl ?_
            refine ev (sees_at 0 rfl rfl) rfl rfl (opv_build zi28 pi28 parts_nil (.nil _)) ?_
            refine ev (sees_all (md := [.box a0, .box a1, .box [.i .i64 0, .i .u64 ((0#64).toNat : Int), .i .i64 0, .raw (.slice none 0 0), .raw (.slice none 0 0)], .box [.i .i64 0, .i .i64 0, .i .i64 0, .i .i64 0, .b false, .raw (.slice none 0 0), .raw (.slice none 0 0)], .box [.i .i64 0, .i .i64 0, .i .i64 0, .i .i64 0, .b false, .raw (.slice none 0 0), .raw (.slice none 0 0)]]) ⟨⟨rfl, ⟨rfl, ⟨rfl, ⟨rfl, ⟨rfl, trivial⟩⟩⟩⟩⟩, ⟨⟨rfl, ⟨rfl, ⟨rfl, ⟨rfl, ⟨rfl, trivial⟩⟩⟩⟩⟩, ⟨⟨rfl, ⟨rfl, ⟨rfl, ⟨rfl, ⟨rfl, trivial⟩⟩⟩⟩⟩, trivial⟩⟩⟩) rfl rfl (opv_loadN ti37 rfl (.lp _ _ _ rfl) (Nat.le_of_ble_eq_true rfl)) ?_
            refine ee0 0 rfl rfl rfl rfl (fun ζ => ?_) ?_
            · refine sstore sz28 rfl rfl rfl rfl (Nat.le_of_ble_eq_true rfl) ?_
              refine smem [.box a0, .box a1, .box [.i .i64 0, .i .u64 ((0#64).toNat : Int), .i .i64 0, .raw (.slice none 0 0), .raw (.slice none 0 0)], .box [.i .i64 0, .i .i64 0, .i .i64 0, .i .i64 0, .b false, .raw (.slice none 0 0), .raw (.slice none 0 0)], .box [.i .i64 0, .i .i64 0, .i .i64 0, .i .i64 0, .b false, .raw (.slice none 0 0), .raw (.slice none 0 0)]] rfl ?_
              exact eend
            refine ee0 1 rfl rfl rfl rfl (fun ζ => ?_) ?_
            · refine sstore sz37 rfl rfl rfl rfl (Nat.le_of_ble_eq_true rfl) ?_
              refine smem [.box a0, .box a1, .box [.i .i64 0, .i .u64 ((0#64).toNat : Int), .i .i64 0, .raw (.slice none 0 0), .raw (.slice none 0 0)], .box [.i .i64 0, .i .i64 0, .i .i64 0, .i .i64 0, .b false, .raw (.slice none 0 0), .raw (.slice none 0 0)], .box [.i .i64 0, .i .i64 0, .i .i64 0, .i .i64 0, .b false, .raw (.slice none 0 0), .raw (.slice none 0 0)]] rfl ?_
              exact eend
            refine ev (sees_at 2 rfl rfl) rfl rfl (opv_as rfl) ?_
            refine ev (sees_at 2 rfl rfl) rfl rfl (opv_as rfl) ?_
            refine enil ?_
            refine then_normal ?_
            refine cret ?_
            refine then_ret ?_
            obtain rfl := Option.some.inj h
            refine ⟨Or.inr rfl, _, _, _, (resVs_cons (ResV.agg _ _ _ _ _ ti28 rfl (.lp _ _ _ rfl) (Nat.le_of_ble_eq_true rfl)) (resVs_cons (ResV.agg _ _ _ _ _ ti37 rfl (.lp _ _ _ rfl) (Nat.le_of_ble_eq_true rfl)) (resVs_cons (ResV.tmp _ _ rfl) (resVs_cons (ResV.tmp _ _ rfl) resVs_nil)))), (pubC rfl), ?_⟩
            rfl
          · replace h := ite_f hc h
            clear hc
            refine cskip ?_
            refine then_normal ?_
            refine cseq ?_
            refine cregion ?_
            refine sv rfl (opv_fieldAddr_lp fi28_1 rfl) ?_
            refine sv rfl (opv_load1 ti3 rfl (.lp _ _ _ rfl) rfl) ?_
            refine sv rfl (opv_fieldAddr_lp fi28_3 rfl) ?_
            refine sv rfl (opv_load1 ti26 rfl (.lp _ _ _ rfl) rfl) ?_
            refine sv rfl (opv_build zi28 pi28 (parts_cons rfl (parts_cons rfl parts_nil)) (.cons _ _ _ _ _ _ _ rfl rfl (Nat.le_of_ble_eq_true rfl) (.cons _ _ _ _ _ _ _ rfl rfl (Nat.le_of_ble_eq_true rfl) (.nil _)))) ?_
            refine salloc rfl zi28 ?_
            refine sstore sz28 rfl rfl rfl rfl (Nat.le_of_ble_eq_true rfl) ?_
            refine smem [.box a0, .box a1, .box [.i .i64 0, .i .u64 ((0#64).toNat : Int), .i .i64 0, .raw (.slice none 0 0), .raw (.slice none 0 0)], .box [.i .i64 0, .i .i64 0, .i .i64 0, .i .i64 0, .b false, .raw (.slice none 0 0), .raw (.slice none 0 0)], .box [.i .i64 0, .i .i64 0, .i .i64 0, .i .i64 0, .b false, .raw (.slice none 0 0), .raw (.slice none 0 0)], .box [.i .i64 0, .i .u64 ((0#64).toNat : Int), .i .i64 a0.Next, .raw (.slice none 0 0), .sl a0.Past.length (a0.Past.flatMap eGR05Reply)]] rfl ?_
            refine snil ?_
            refine cseq ?_
            refine cregion ?_
            refine sv rfl (opv_fieldAddr_lp fi28_0 rfl) ?_
            refine sv rfl (opv_loadN ti24 rfl (.lp _ _ _ rfl) (Nat.le_of_ble_eq_true rfl)) ?_
            refine sv rfl (opv_fieldAddr_lp fi33_1 rfl) ?_
            refine sv rfl (opv_load1 ti3 rfl (.lp _ _ _ rfl) rfl) ?_
            obtain ⟨v4, hv4, h⟩ := bind_eq h
            refine scall1 rfl fn37 (opnds_cons rfl (opnds_cons rfl opnds_nil)) (pubA_id rfl) (m37_r15_Accept_c hv4) ?_
            refine sv rfl (opv_mvt rfl) ?_
            refine sv rfl (opv_extract rfl rfl) ?_
            refine sv rfl (opv_extract rfl rfl) ?_
            refine salloc rfl zi24 ?_
            refine sstore sz24 rfl rfl rfl rfl (Nat.le_of_ble_eq_true rfl) ?_
            refine smem [.box a0, .box a1, .box [.i .i64 0, .i .u64 ((0#64).toNat : Int), .i .i64 0, .raw (.slice none 0 0), .raw (.slice none 0 0)], .box [.i .i64 0, .i .i64 0, .i .i64 0, .i .i64 0, .b false, .raw (.slice none 0 0), .raw (.slice none 0 0)], .box [.i .i64 0, .i .i64 0, .i .i64 0, .i .i64 0, .b false, .raw (.slice none 0 0), .raw (.slice none 0 0)], .box [.i .i64 0, .i .u64 ((0#64).toNat : Int), .i .i64 a0.Next, .raw (.slice none 0 0), .sl a0.Past.length (a0.Past.flatMap eGR05Reply)], .box v4.1] rfl ?_
            refine sv rfl (opv_as rfl) ?_
            refine snil ?_
            refine cseq ?_
            refine cregion ?_
            refine sv rfl (opv_loadN ti24 rfl (.lp _ _ _ rfl) (Nat.le_of_ble_eq_true rfl)) ?_
            refine sv rfl (opv_fieldAddr_lp fi28_0 rfl) ?_
            refine sstore sz24 rfl rfl rfl rfl (Nat.le_of_ble_eq_true rfl) ?_
            refine smem [.box a0, .box a1, .box [.i .i64 0, .i .u64 ((0#64).toNat : Int), .i .i64 0, .raw (.slice none 0 0), .raw (.slice none 0 0)], .box [.i .i64 0, .i .i64 0, .i .i64 0, .i .i64 0, .b false, .raw (.slice none 0 0), .raw (.slice none 0 0)], .box [.i .i64 0, .i .i64 0, .i .i64 0, .i .i64 0, .b false, .raw (.slice none 0 0), .raw (.slice none 0 0)], .box [.i .i64 v4.1.Base, .i .u64 (v4.1.Bits.toNat : Int), .i .i64 a0.Next, .raw (.slice none 0 0), .sl a0.Past.length (a0.Past.flatMap eGR05Reply)], .box v4.1] rfl ?_
            refine snil ?_
            refine cseq ?_
            refine cregion ?_
            refine sv rfl (opv_as rfl) ?_
            refine snil ?_
            refine cseq ?_
            refine cseq ?_
            refine cregion ?_
            refine sv rfl (opv_as rfl) ?_
            refine snil ?_
            refine sadopt_box_c 33 10 5 3 (by decide) rfl rfl ?_
            refine cjoin (Bool × (List GR05Req)) (fun b5 => [(3, .s (.one (.lp 1 0))), (4, .s (.one (.lp 2 0))), (5, .s (.one (.lp 3 0))), (8, .s (.one (.lp 4 0))), (10, .s (.one (.lp 5 0))), (13, .s (.one (.b b5.1)))]) (fun b5 => [.box a0, .box a1, .box [.i .i64 0, .i .u64 ((0#64).toNat : Int), .i .i64 0, .raw (.slice none 0 0), .raw (.slice none 0 0)], .box [.i .i64 0, .i .i64 0, .i .i64 0, .i .i64 0, .b false, .raw (.slice none 0 0), .raw (.slice none 0 0)], .box [.i .i64 0, .i .i64 0, .i .i64 0, .i .i64 0, .b false, .raw (.slice none 0 0), .raw (.slice none 0 0)], .box [.i .i64 v4.1.Base, .i .u64 (v4.1.Bits.toNat : Int), .i .i64 a0.Next, .ls 7 b5.2.length, .sl a0.Past.length (a0.Past.flatMap eGR05Reply)], .box v4.1, .arr 33 10 0 (b5.2.flatMap eGR05Req)]) (fun b5 => m15_r16_Offer_k5 a0 a1 v4 b5 = some r) (fun _ _ => inbL_of rfl) (fun _ _ => blkinb_of rfl) (fun _ _ => Nat.le_of_ble_eq_true rfl) (fun b5 h => ?_) ?_
            · unfold m15_r16_Offer_k5 at h
              refine cseq ?_
              refine cseq ?_
              refine cregion ?_
              refine sv rfl (opv_mv rfl) ?_
              refine sv rfl (opv_not rfl) ?_
              refine snil ?_
              refine cjoin ((List GR05Req)) (fun b6 => [(4, .s (.one (.lp 2 0))), (5, .s (.one (.lp 3 0))), (8, .s (.one (.lp 4 0))), (10, .s (.one (.lp 5 0)))]) (fun b6 => [.box a0, .box a1, .box [.i .i64 0, .i .u64 ((0#64).toNat : Int), .i .i64 0, .raw (.slice none 0 0), .raw (.slice none 0 0)], .box [.i .i64 0, .i .i64 0, .i .i64 0, .i .i64 0, .b false, .raw (.slice none 0 0), .raw (.slice none 0 0)], .box [.i .i64 0, .i .i64 0, .i .i64 0, .i .i64 0, .b false, .raw (.slice none 0 0), .raw (.slice none 0 0)], .box [.i .i64 v4.1.Base, .i .u64 (v4.1.Bits.toNat : Int), .i .i64 a0.Next, .ls 7 b6.length, .sl a0.Past.length (a0.Past.flatMap eGR05Reply)], .box v4.1, .arr 33 10 0 (b6.flatMap eGR05Req)]) (fun b6 => m15_r16_Offer_k6 a0 v4 b6 = some r) (fun _ _ => inbL_of rfl) (fun _ _ => blkinb_of rfl) (fun _ _ => Nat.le_of_ble_eq_true rfl) (fun b6 h => ?_) ?_
              · unfold m15_r16_Offer_k6 at h
                refine cseq ?_
                refine cdraw_e [2, 3] [0, 0, 1, 7, 15, 31] [[.box a0, .box a1, .box [.i .i64 0, .i .u64 ((0#64).toNat : Int), .i .i64 0, .raw (.slice none 0 0), .raw (.slice none 0 0)], .box [.i .i64 0, .i .i64 0, .i .i64 0, .i .i64 0, .b false, .raw (.slice none 0 0), .raw (.slice none 0 0)], .box [.i .i64 0, .i .i64 0, .i .i64 0, .i .i64 0, .b false, .raw (.slice none 0 0), .raw (.slice none 0 0)], .box [.i .i64 v4.1.Base, .i .u64 (v4.1.Bits.toNat : Int), .i .i64 a0.Next, .ls 7 b6.length, .sl a0.Past.length (a0.Past.flatMap eGR05Reply)], .box v4.1, .arr 33 10 0 (b6.flatMap eGR05Req)], [.box a0, .box a1, .box [.i .i64 v4.1.Base, .i .u64 (v4.1.Bits.toNat : Int), .i .i64 a0.Next, .ls 7 b6.length, .sl a0.Past.length (a0.Past.flatMap eGR05Reply)], .box [.i .i64 0, .i .i64 0, .i .i64 0, .i .i64 0, .b false, .raw (.slice none 0 0), .raw (.slice none 0 0)], .box [.i .i64 0, .i .i64 0, .i .i64 0, .i .i64 0, .b false, .raw (.slice none 0 0), .raw (.slice none 0 0)], .box [.i .i64 v4.1.Base, .i .u64 (v4.1.Bits.toNat : Int), .i .i64 a0.Next, .ls 7 b6.length, .sl a0.Past.length (a0.Past.flatMap eGR05Reply)], .box v4.1, .arr 33 10 0 (b6.flatMap eGR05Req)], [.box a0, .box a1, .box [.i .i64 v4.1.Base, .i .u64 (v4.1.Bits.toNat : Int), .i .i64 a0.Next, .ls 7 b6.length, .sl a0.Past.length (a0.Past.flatMap eGR05Reply)], .box [.i .i64 0, .i .i64 0, .i .i64 0, .i .i64 0, .b false, .raw (.slice none 0 0), .raw (.slice none 0 0)], .box [.i .i64 0, .i .i64 0, .i .i64 0, .i .i64 0, .b false, .raw (.slice none 0 0), .raw (.slice none 0 0)], .box [.i .i64 v4.1.Base, .i .u64 (v4.1.Bits.toNat : Int), .i .i64 a0.Next, .ls 7 b6.length, .sl a0.Past.length (a0.Past.flatMap eGR05Reply)], .box v4.1, .arr 33 10 0 (b6.flatMap eGR05Req)]] (by kernel_rfl) mixed (by kernel_rfl) (by decide) rfl rfl rfl rfl ?_
                refine ev (sees_at 0 rfl rfl) rfl rfl (opv_loadN ti28 rfl (.lp _ _ _ rfl) (Nat.le_of_ble_eq_true rfl)) ?_
                refine ev (sees_all (md := [.box a0, .box a1, .dead, .box [.i .i64 0, .i .i64 0, .i .i64 0, .i .i64 0, .b false, .raw (.slice none 0 0), .raw (.slice none 0 0)], .box [.i .i64 0, .i .i64 0, .i .i64 0, .i .i64 0, .b false, .raw (.slice none 0 0), .raw (.slice none 0 0)], .box [.i .i64 v4.1.Base, .i .u64 (v4.1.Bits.toNat : Int), .i .i64 a0.Next, .ls 7 b6.length, .sl a0.Past.length (a0.Past.flatMap eGR05Reply)], .box v4.1, .arr 33 10 0 (b6.flatMap eGR05Req)]) ⟨⟨rfl, ⟨rfl, ⟨trivial, ⟨rfl, ⟨rfl, ⟨rfl, ⟨rfl, ⟨rfl, trivial⟩⟩⟩⟩⟩⟩⟩⟩, ⟨⟨rfl, ⟨rfl, ⟨trivial, ⟨rfl, ⟨rfl, ⟨rfl, ⟨rfl, ⟨rfl, trivial⟩⟩⟩⟩⟩⟩⟩⟩, ⟨⟨rfl, ⟨rfl, ⟨trivial, ⟨rfl, ⟨rfl, ⟨rfl, ⟨rfl, ⟨rfl, trivial⟩⟩⟩⟩⟩⟩⟩⟩, trivial⟩⟩⟩) rfl rfl (opv_loadN ti37 rfl (.lp _ _ _ rfl) (Nat.le_of_ble_eq_true rfl)) ?_
                refine ee0 0 rfl rfl rfl rfl (fun ζ => ?_) ?_
                · refine sstore sz28 rfl rfl rfl rfl (Nat.le_of_ble_eq_true rfl) ?_
                  refine smem [.box a0, .box a1, .box [.i .i64 v4.1.Base, .i .u64 (v4.1.Bits.toNat : Int), .i .i64 a0.Next, .ls 7 b6.length, .sl a0.Past.length (a0.Past.flatMap eGR05Reply)], .box [.i .i64 0, .i .i64 0, .i .i64 0, .i .i64 0, .b false, .raw (.slice none 0 0), .raw (.slice none 0 0)], .box [.i .i64 0, .i .i64 0, .i .i64 0, .i .i64 0, .b false, .raw (.slice none 0 0), .raw (.slice none 0 0)], .box [.i .i64 v4.1.Base, .i .u64 (v4.1.Bits.toNat : Int), .i .i64 a0.Next, .ls 7 b6.length, .sl a0.Past.length (a0.Past.flatMap eGR05Reply)], .box v4.1, .arr 33 10 0 (b6.flatMap eGR05Req)] rfl ?_
                  exact eend
                refine ee0 1 rfl rfl rfl rfl (fun ζ => ?_) ?_
                · refine sstore sz37 rfl rfl rfl rfl (Nat.le_of_ble_eq_true rfl) ?_
                  refine smem [.box a0, .box a1, .box [.i .i64 v4.1.Base, .i .u64 (v4.1.Bits.toNat : Int), .i .i64 a0.Next, .ls 7 b6.length, .sl a0.Past.length (a0.Past.flatMap eGR05Reply)], .box [.i .i64 0, .i .i64 0, .i .i64 0, .i .i64 0, .b false, .raw (.slice none 0 0), .raw (.slice none 0 0)], .box [.i .i64 0, .i .i64 0, .i .i64 0, .i .i64 0, .b false, .raw (.slice none 0 0), .raw (.slice none 0 0)], .box [.i .i64 v4.1.Base, .i .u64 (v4.1.Bits.toNat : Int), .i .i64 a0.Next, .ls 7 b6.length, .sl a0.Past.length (a0.Past.flatMap eGR05Reply)], .box v4.1, .arr 33 10 0 (b6.flatMap eGR05Req)] rfl ?_
                  exact eend
                refine ev (sees_at 2 rfl rfl) rfl rfl (opv_as rfl) ?_
                refine ev (sees_at 2 rfl rfl) rfl rfl (opv_as rfl) ?_
                refine enil ?_
                refine then_normal ?_
                refine cret ?_
                obtain rfl := Option.some.inj h
                refine ⟨Or.inr rfl, _, _, _, (resVs_cons (ResV.agg _ _ _ _ _ ti28 rfl (.lp _ _ _ rfl) (Nat.le_of_ble_eq_true rfl)) (resVs_cons (ResV.agg _ _ _ _ _ ti37 rfl (.lp _ _ _ rfl) (Nat.le_of_ble_eq_true rfl)) (resVs_cons (ResV.tmp _ _ rfl) (resVs_cons (ResV.tmp _ _ rfl) resVs_nil)))), (by (repeat' first | exact PubA.nil _ | apply PubA.cons | apply PubV.one | apply PubV.agg | exact PubL.nil | exact PubL.ls _ _ _ _ _ _ rfl (flat_len (f := eGR05Req) (fun _ => rfl) _).symm | exact PubL.id _ rfl | exact PubLs.nil _ | apply PubLs.cons)), ?_⟩
                rfl
              · skip
                refine ccond rfl (fun hc => ?_) (fun hc => ?_)
                · replace h := ite_t hc h
                  clear hc
                  refine cregion ?_
                  refine sv rfl (opv_fieldAddr_lp fi28_2 rfl) ?_
                  refine sv rfl (opv_load1 ti25 rfl (.lp _ _ _ rfl) rfl) ?_
                  refine sv rfl (opv_loadN ti33 rfl (.lp _ _ _ rfl) (Nat.le_of_ble_eq_true rfl)) ?_
                  refine sbuild1 rfl Tryd.underlying25 ei33 rfl rfl (List.all_eq_true.1 rfl) (by decide) ?_
                  refine smem [.box a0, .box a1, .box [.i .i64 0, .i .u64 ((0#64).toNat : Int), .i .i64 0, .raw (.slice none 0 0), .raw (.slice none 0 0)], .box [.i .i64 0, .i .i64 0, .i .i64 0, .i .i64 0, .b false, .raw (.slice none 0 0), .raw (.slice none 0 0)], .box [.i .i64 0, .i .i64 0, .i .i64 0, .i .i64 0, .b false, .raw (.slice none 0 0), .raw (.slice none 0 0)], .box [.i .i64 v4.1.Base, .i .u64 (v4.1.Bits.toNat : Int), .i .i64 a0.Next, .ls 7 b5.2.length, .sl a0.Past.length (a0.Past.flatMap eGR05Reply)], .box v4.1, .arr 33 10 0 (b5.2.flatMap eGR05Req), .arr 33 10 0 ([(GR05Req.mk a1.Kind a1.Seq a1.Token a1.Attempt a1.RO a1.Key a1.Val (GApiRange.mk a1.Rng.Lo a1.Rng.Hi a1.Rng.Open))].flatMap eGR05Req)] rfl ?_
                  obtain ⟨hb7, h⟩ := chk_eq h
                  refine sapp (f := eGR05Req) (xs := b5.2) (us := [(GR05Req.mk a1.Kind a1.Seq a1.Token a1.Attempt a1.RO a1.Key a1.Val (GApiRange.mk a1.Rng.Lo a1.Rng.Hi a1.Rng.Open))]) rfl Tryd.underlying25 ei33 ni25 (fun _ => rfl) rfl rfl (.one _ _ _ _ (.ls _ _ _ _ _ _ rfl (flat_len (f := eGR05Req) (fun _ => rfl) [(GR05Req.mk a1.Kind a1.Seq a1.Token a1.Attempt a1.RO a1.Key a1.Val (GApiRange.mk a1.Rng.Lo a1.Rng.Hi a1.Rng.Open))]).symm)) rfl rfl rfl (.sl _ _ _ (flat_len (f := eGR05Req) (fun _ => rfl) _)) rfl rfl hb7 (by decide) ?_
                  refine sv rfl (opv_fieldAddr_lp fi28_2 rfl) ?_
                  refine sstore sz25 rfl rfl rfl rfl (Nat.le_of_ble_eq_true rfl) ?_
                  refine smem [.box a0, .box a1, .box [.i .i64 0, .i .u64 ((0#64).toNat : Int), .i .i64 0, .raw (.slice none 0 0), .raw (.slice none 0 0)], .box [.i .i64 0, .i .i64 0, .i .i64 0, .i .i64 0, .b false, .raw (.slice none 0 0), .raw (.slice none 0 0)], .box [.i .i64 0, .i .i64 0, .i .i64 0, .i .i64 0, .b false, .raw (.slice none 0 0), .raw (.slice none 0 0)], .box [.i .i64 v4.1.Base, .i .u64 (v4.1.Bits.toNat : Int), .i .i64 a0.Next, .ls 7 (b5.2 ++ [(GR05Req.mk a1.Kind a1.Seq a1.Token a1.Attempt a1.RO a1.Key a1.Val (GApiRange.mk a1.Rng.Lo a1.Rng.Hi a1.Rng.Open))]).length, .sl a0.Past.length (a0.Past.flatMap eGR05Reply)], .box v4.1, .arr 33 10 0 ((b5.2 ++ [(GR05Req.mk a1.Kind a1.Seq a1.Token a1.Attempt a1.RO a1.Key a1.Val (GApiRange.mk a1.Rng.Lo a1.Rng.Hi a1.Rng.Open))]).flatMap eGR05Req), .arr 33 10 ([(GR05Req.mk a1.Kind a1.Seq a1.Token a1.Attempt a1.RO a1.Key a1.Val (GApiRange.mk a1.Rng.Lo a1.Rng.Hi a1.Rng.Open))].flatMap eGR05Req).length ([(GR05Req.mk a1.Kind a1.Seq a1.Token a1.Attempt a1.RO a1.Key a1.Val (GApiRange.mk a1.Rng.Lo a1.Rng.Hi a1.Rng.Open))].flatMap eGR05Req)] rfl ?_
                  refine snil ?_
                  exact ⟨(b5.2 ++ [(GR05Req.mk a1.Kind a1.Seq a1.Token a1.Attempt a1.RO a1.Key a1.Val (GApiRange.mk a1.Rng.Lo a1.Rng.Hi a1.Rng.Open))]), _, h, ⟨rfl, rfl, rfl, rfl, trivial⟩, rfl⟩
                · replace h := ite_f hc h
                  clear hc
                  refine cskip ?_
                  refine then_normal ?_
                  exact ⟨b5.2, _, h, ⟨rfl, rfl, rfl, rfl, trivial⟩, rfl⟩
            · skip
              refine cblock ?_
              obtain ⟨x8, hx8, ho8⟩ := bind_eq h
              refine awc_loop (G := Nat × (Bool × Int × (List GR05Req))) (fun g => [(2, .s (.one (.lp 0 0))), (3, .s (.one (.lp 1 0))), (4, .s (.one (.lp 2 0))), (5, .s (.one (.lp 3 0))), (8, .s (.one (.lp 4 0))), (10, .s (.one (.lp 5 0))), (13, .s (.one (.b g.2.1))), (14, .s (.one (.i .i64 g.2.2.1)))]) (fun g => [.box a0, .box a1, .box [.i .i64 0, .i .u64 ((0#64).toNat : Int), .i .i64 0, .raw (.slice none 0 0), .raw (.slice none 0 0)], .box [.i .i64 0, .i .i64 0, .i .i64 0, .i .i64 0, .b false, .raw (.slice none 0 0), .raw (.slice none 0 0)], .box [.i .i64 0, .i .i64 0, .i .i64 0, .i .i64 0, .b false, .raw (.slice none 0 0), .raw (.slice none 0 0)], .box [.i .i64 v4.1.Base, .i .u64 (v4.1.Bits.toNat : Int), .i .i64 a0.Next, .ls 7 g.2.2.2.length, .sl a0.Past.length (a0.Past.flatMap eGR05Reply)], .box v4.1, .arr 33 10 0 (g.2.2.2.flatMap eGR05Req)]) (fun g => iterB (m15_r16_Offer_s8 a0 a1) g.1 g.2 = some x8) (fun g => g.1) (fuel, (false, 0, ([] : List GR05Req))) hx8 ⟨rfl, rfl, rfl, rfl, rfl, rfl, rfl, rfl, trivial⟩ [] rfl (fun _ _ => inbL_of rfl) (fun _ _ => blkinb_of rfl) (fun _ _ => Nat.le_of_ble_eq_true rfl) ?_
              clear hx8 h
              rintro ⟨n8, s8⟩ h
              obtain ⟨n8, y8, rfl, h, hk8⟩ := iterB_eq h
              unfold m15_r16_Offer_s8 at h
              refine cseq ?_
              refine cseq ?_
              refine cregion ?_
              refine sv rfl (opv_mv rfl) ?_
              refine sv rfl (opv_fieldAddr_lp fi28_2 rfl) ?_
              refine sv rfl (opv_load1 ti25 rfl (.lp _ _ _ rfl) rfl) ?_
              refine sv rfl (opv_len_sl si25 rfl) ?_
              refine sv rfl (opv_lss rfl rfl) ?_
              refine snil ?_
              refine ccond rfl (fun hc => ?_) (fun hc => ?_)
              · replace h := ite_t hc h
                clear hc
                refine cskip ?_
                refine then_normal ?_
                refine cseq ?_
                refine cblock ?_
                refine cseq ?_
                refine cseq ?_
                refine cjoin3 (Bool × (List GR05Req)) (fun b9 => [(2, .s (.one (.lp 0 0))), (3, .s (.one (.lp 1 0))), (4, .s (.one (.lp 2 0))), (5, .s (.one (.lp 3 0))), (8, .s (.one (.lp 4 0))), (10, .s (.one (.lp 5 0))), (13, .s (.one (.b b9.1))), (14, .s (.one (.i .i64 s8.2.1)))]) (fun b9 => [.box a0, .box a1, .box [.i .i64 0, .i .u64 ((0#64).toNat : Int), .i .i64 0, .raw (.slice none 0 0), .raw (.slice none 0 0)], .box [.i .i64 0, .i .i64 0, .i .i64 0, .i .i64 0, .b false, .raw (.slice none 0 0), .raw (.slice none 0 0)], .box [.i .i64 0, .i .i64 0, .i .i64 0, .i .i64 0, .b false, .raw (.slice none 0 0), .raw (.slice none 0 0)], .box [.i .i64 v4.1.Base, .i .u64 (v4.1.Bits.toNat : Int), .i .i64 a0.Next, .ls 7 b9.2.length, .sl a0.Past.length (a0.Past.flatMap eGR05Reply)], .box v4.1, .arr 33 10 0 (b9.2.flatMap eGR05Req)]) (fun b9 => m15_r16_Offer_k9 a0 s8 b9 = some y8) (fun _ _ => inbL_of rfl) (fun _ _ => blkinb_of rfl) (fun _ _ => Nat.le_of_ble_eq_true rfl) (fun b9 h => ?_) ?_
                · unfold m15_r16_Offer_k9 at h
                  obtain ⟨u10, hu10, h⟩ := bind_eq h
                  obtain ⟨hb11, h⟩ := chk_eq h
                  refine cdraw_e [8, 10] [0, 1, 0, 4, 0, 28, 60, 124, 255, 511, 1023] [[.box a0, .box a1, .box [.i .i64 0, .i .u64 ((0#64).toNat : Int), .i .i64 0, .raw (.slice none 0 0), .raw (.slice none 0 0)], .box [.i .i64 0, .i .i64 0, .i .i64 0, .i .i64 0, .b false, .raw (.slice none 0 0), .raw (.slice none 0 0)], .box [.i .i64 0, .i .i64 0, .i .i64 0, .i .i64 0, .b false, .raw (.slice none 0 0), .raw (.slice none 0 0)], .box [.i .i64 v4.1.Base, .i .u64 (v4.1.Bits.toNat : Int), .i .i64 a0.Next, .ls 7 b9.2.length, .sl a0.Past.length (a0.Past.flatMap eGR05Reply)], .box v4.1, .arr 33 10 0 (b9.2.flatMap eGR05Req)], [.box a0, .box a1, .box [.i .i64 0, .i .u64 ((0#64).toNat : Int), .i .i64 0, .raw (.slice none 0 0), .raw (.slice none 0 0)], .box [.i .i64 0, .i .i64 0, .i .i64 0, .i .i64 0, .b false, .raw (.slice none 0 0), .raw (.slice none 0 0)], .box [.i .i64 0, .i .i64 0, .i .i64 0, .i .i64 0, .b false, .raw (.slice none 0 0), .raw (.slice none 0 0)], .box [.i .i64 v4.1.Base, .i .u64 (v4.1.Bits.toNat : Int), .i .i64 a0.Next, .ls 7 b9.2.length, .sl a0.Past.length (a0.Past.flatMap eGR05Reply)], .box v4.1, .arr 33 10 0 ((b9.2 ++ ([(GR05Req.mk u10.Kind u10.Seq u10.Token u10.Attempt u10.RO u10.Key u10.Val (GApiRange.mk u10.Rng.Lo u10.Rng.Hi u10.Rng.Open))] : List GR05Req)).flatMap eGR05Req)], [.box a0, .box a1, .box [.i .i64 0, .i .u64 ((0#64).toNat : Int), .i .i64 0, .raw (.slice none 0 0), .raw (.slice none 0 0)], .box [.i .i64 0, .i .i64 0, .i .i64 0, .i .i64 0, .b false, .raw (.slice none 0 0), .raw (.slice none 0 0)], .box [.i .i64 0, .i .i64 0, .i .i64 0, .i .i64 0, .b false, .raw (.slice none 0 0), .raw (.slice none 0 0)], .box [.i .i64 v4.1.Base, .i .u64 (v4.1.Bits.toNat : Int), .i .i64 a0.Next, .ls 7 (b9.2 ++ ([(GR05Req.mk u10.Kind u10.Seq u10.Token u10.Attempt u10.RO u10.Key u10.Val (GApiRange.mk u10.Rng.Lo u10.Rng.Hi u10.Rng.Open))] : List GR05Req)).length, .sl a0.Past.length (a0.Past.flatMap eGR05Reply)], .box v4.1, .arr 33 10 0 ((b9.2 ++ ([(GR05Req.mk u10.Kind u10.Seq u10.Token u10.Attempt u10.RO u10.Key u10.Val (GApiRange.mk u10.Rng.Lo u10.Rng.Hi u10.Rng.Open))] : List GR05Req)).flatMap eGR05Req)]] (by kernel_rfl) mixed (by kernel_rfl) (by decide) rfl rfl rfl rfl ?_
                  refine ev (sees_at 0 rfl rfl) rfl rfl (opv_fieldAddr_lp fi28_2 rfl) ?_
                  refine ev (sees_at 0 rfl rfl) rfl rfl (opv_load1 ti25 rfl (.lp _ _ _ rfl) rfl) ?_
                  refine ev (sees_at 0 rfl rfl) rfl rfl (opv_fieldAddr_lp fi28_2 rfl) ?_
                  refine ev (sees_at 0 rfl rfl) rfl rfl (opv_load1 ti25 rfl (.lp _ _ _ rfl) rfl) ?_
                  refine ev (sees_at 0 rfl rfl) rfl rfl (opv_mv rfl) ?_
                  refine ev (sees_at 0 rfl rfl) rfl rfl (opv_ix (f := eGR05Req) si25 (fun _ => rfl) rfl rfl rfl rfl hu10) ?_
                  refine ev (sees_at 0 rfl rfl) rfl rfl (opv_loadNe (ys := [.i .i64 u10.Kind, .i .i64 u10.Seq, .i .i64 u10.Token, .i .i64 u10.Attempt, .b u10.RO, .sl u10.Key.length (u10.Key.flatMap eU8), .sl u10.Val.length (u10.Val.flatMap eU8), .sl u10.Rng.Lo.length (u10.Rng.Lo.flatMap eU8), .sl u10.Rng.Hi.length (u10.Rng.Hi.flatMap eU8), .b u10.Rng.Open]) ti33 rfl (.cp _) rfl rfl) ?_
                  refine ed (sees_at 0 rfl rfl) rfl rfl (opD_bld (out := ([(GR05Req.mk u10.Kind u10.Seq u10.Token u10.Attempt u10.RO u10.Key u10.Val (GApiRange.mk u10.Rng.Lo u10.Rng.Hi u10.Rng.Open))] : List GR05Req).flatMap eGR05Req) Tryd.underlying25 ei33 (parts_cons rfl parts_nil) (.cons _ _ _ _ _ _ _ rfl rfl (Nat.le_of_ble_eq_true rfl) (.nil _)) rfl (by decide)) ?_
                  refine ee (x := .s (.one (.ls 7 (b9.2 ++ ([(GR05Req.mk u10.Kind u10.Seq u10.Token u10.Attempt u10.RO u10.Key u10.Val (GApiRange.mk u10.Rng.Lo u10.Rng.Hi u10.Rng.Open))] : List GR05Req)).length))) 0 rfl rfl rfl rfl rfl (fun ζ => ?_) ?_
                  · refine sapp (f := eGR05Req) (xs := b9.2) (us := ([(GR05Req.mk u10.Kind u10.Seq u10.Token u10.Attempt u10.RO u10.Key u10.Val (GApiRange.mk u10.Rng.Lo u10.Rng.Hi u10.Rng.Open))] : List GR05Req)) rfl Tryd.underlying25 ei33 ni25 (fun _ => rfl) rfl rfl (.one _ _ _ _ (.id _ rfl)) rfl rfl rfl (.sl _ _ _ (flat_len (f := eGR05Req) (fun _ => rfl) _)) rfl rfl hb11 (by decide) ?_
                    exact eend
                  refine ev (sees_at 1 rfl rfl) rfl rfl (opv_fieldAddr_lp fi28_2 rfl) ?_
                  refine ee0 1 rfl rfl rfl rfl (fun ζ => ?_) ?_
                  · refine sstore sz25 rfl rfl rfl rfl (Nat.le_of_ble_eq_true rfl) ?_
                    refine smem [.box a0, .box a1, .box [.i .i64 0, .i .u64 ((0#64).toNat : Int), .i .i64 0, .raw (.slice none 0 0), .raw (.slice none 0 0)], .box [.i .i64 0, .i .i64 0, .i .i64 0, .i .i64 0, .b false, .raw (.slice none 0 0), .raw (.slice none 0 0)], .box [.i .i64 0, .i .i64 0, .i .i64 0, .i .i64 0, .b false, .raw (.slice none 0 0), .raw (.slice none 0 0)], .box [.i .i64 v4.1.Base, .i .u64 (v4.1.Bits.toNat : Int), .i .i64 a0.Next, .ls 7 (b9.2 ++ ([(GR05Req.mk u10.Kind u10.Seq u10.Token u10.Attempt u10.RO u10.Key u10.Val (GApiRange.mk u10.Rng.Lo u10.Rng.Hi u10.Rng.Open))] : List GR05Req)).length, .sl a0.Past.length (a0.Past.flatMap eGR05Reply)], .box v4.1, .arr 33 10 0 ((b9.2 ++ ([(GR05Req.mk u10.Kind u10.Seq u10.Token u10.Attempt u10.RO u10.Key u10.Val (GApiRange.mk u10.Rng.Lo u10.Rng.Hi u10.Rng.Open))] : List GR05Req)).flatMap eGR05Req)] rfl ?_
                    exact eend
                  refine enil ?_
                  refine block_normal ?_
                  refine then_normal ?_
                  refine cregion ?_
                  refine sv rfl (opv_mv rfl) ?_
                  refine sv rfl (opv_add rfl rfl) ?_
                  refine sv rfl (opv_as rfl) ?_
                  refine snil ?_
                  obtain rfl := Option.some.inj h
                  exact ⟨(n8, (b9.1, (wI (s8.2.1 + 1)), (b9.2 ++ ([(GR05Req.mk u10.Kind u10.Seq u10.Token u10.Attempt u10.RO u10.Key u10.Val (GApiRange.mk u10.Rng.Lo u10.Rng.Hi u10.Rng.Open))] : List GR05Req)))), _, hk8, ⟨rfl, rfl, rfl, rfl, rfl, rfl, rfl, rfl, trivial⟩, rfl, Nat.lt_succ_self _⟩
                · skip
                  refine cdraw mixed (by kernel_rfl) ?_
                  refine dv rfl (opv_fieldAddr_lp fi28_2 rfl) ?_
                  refine dv rfl (opv_load1 ti25 rfl (.lp _ _ _ rfl) rfl) ?_
                  refine dv rfl (opv_mv rfl) ?_
                  obtain ⟨u12, hu12, h⟩ := bind_eq h
                  refine dv rfl (opv_ix (f := eGR05Req) si25 (fun _ => rfl) rfl rfl rfl rfl hu12) ?_
                  refine dv rfl (opv_fieldAddr_cp fi33_1 rfl) ?_
                  refine dv rfl (opv_load1 ti3 rfl (.cp _) rfl) ?_
                  refine dv rfl (opv_fieldAddr_lp fi33_1 rfl) ?_
                  refine dv rfl (opv_load1 ti3 rfl (.lp _ _ _ rfl) rfl) ?_
                  refine dv rfl (opv_gtr rfl rfl) ?_
                  refine dv rfl (opv_mv rfl) ?_
                  refine dsplit 101 rfl (fun hc => ?_) (fun hc => ?_)
                  · replace h := ite_t hc h
                    clear hc
                    refine dvg rfl rfl rfl (opv_mv rfl) ?_
                    refine dvg rfl rfl rfl (opv_not rfl) ?_
                    refine dv rfl (opv_pick_t rfl rfl) ?_
                    refine dnil ?_
                    refine then_normal ?_
                    refine ccond rfl (fun hc => ?_) (fun hc => ?_)
                    · replace h := ite_t hc h
                      clear hc
                      refine cseq ?_
                      refine cregion ?_
                      refine sv rfl (opv_fieldAddr_lp fi28_2 rfl) ?_
                      refine sv rfl (opv_load1 ti25 rfl (.lp _ _ _ rfl) rfl) ?_
                      refine sv rfl (opv_loadN ti33 rfl (.lp _ _ _ rfl) (Nat.le_of_ble_eq_true rfl)) ?_
                      refine sbuild1 rfl Tryd.underlying25 ei33 rfl rfl (List.all_eq_true.1 rfl) (by decide) ?_
                      refine smem [.box a0, .box a1, .box [.i .i64 0, .i .u64 ((0#64).toNat : Int), .i .i64 0, .raw (.slice none 0 0), .raw (.slice none 0 0)], .box [.i .i64 0, .i .i64 0, .i .i64 0, .i .i64 0, .b false, .raw (.slice none 0 0), .raw (.slice none 0 0)], .box [.i .i64 0, .i .i64 0, .i .i64 0, .i .i64 0, .b false, .raw (.slice none 0 0), .raw (.slice none 0 0)], .box [.i .i64 v4.1.Base, .i .u64 (v4.1.Bits.toNat : Int), .i .i64 a0.Next, .ls 7 s8.2.2.length, .sl a0.Past.length (a0.Past.flatMap eGR05Reply)], .box v4.1, .arr 33 10 0 (s8.2.2.flatMap eGR05Req), .arr 33 10 0 ([(GR05Req.mk a1.Kind a1.Seq a1.Token a1.Attempt a1.RO a1.Key a1.Val (GApiRange.mk a1.Rng.Lo a1.Rng.Hi a1.Rng.Open))].flatMap eGR05Req)] rfl ?_
                      obtain ⟨hb13, h⟩ := chk_eq h
                      refine sapp (f := eGR05Req) (xs := s8.2.2) (us := [(GR05Req.mk a1.Kind a1.Seq a1.Token a1.Attempt a1.RO a1.Key a1.Val (GApiRange.mk a1.Rng.Lo a1.Rng.Hi a1.Rng.Open))]) rfl Tryd.underlying25 ei33 ni25 (fun _ => rfl) rfl rfl (.one _ _ _ _ (.ls _ _ _ _ _ _ rfl (flat_len (f := eGR05Req) (fun _ => rfl) [(GR05Req.mk a1.Kind a1.Seq a1.Token a1.Attempt a1.RO a1.Key a1.Val (GApiRange.mk a1.Rng.Lo a1.Rng.Hi a1.Rng.Open))]).symm)) rfl rfl rfl (.sl _ _ _ (flat_len (f := eGR05Req) (fun _ => rfl) _)) rfl rfl hb13 (by decide) ?_
                      refine sv rfl (opv_fieldAddr_lp fi28_2 rfl) ?_
                      refine sstore sz25 rfl rfl rfl rfl (Nat.le_of_ble_eq_true rfl) ?_
                      refine smem [.box a0, .box a1, .box [.i .i64 0, .i .u64 ((0#64).toNat : Int), .i .i64 0, .raw (.slice none 0 0), .raw (.slice none 0 0)], .box [.i .i64 0, .i .i64 0, .i .i64 0, .i .i64 0, .b false, .raw (.slice none 0 0), .raw (.slice none 0 0)], .box [.i .i64 0, .i .i64 0, .i .i64 0, .i .i64 0, .b false, .raw (.slice none 0 0), .raw (.slice none 0 0)], .box [.i .i64 v4.1.Base, .i .u64 (v4.1.Bits.toNat : Int), .i .i64 a0.Next, .ls 7 (s8.2.2 ++ [(GR05Req.mk a1.Kind a1.Seq a1.Token a1.Attempt a1.RO a1.Key a1.Val (GApiRange.mk a1.Rng.Lo a1.Rng.Hi a1.Rng.Open))]).length, .sl a0.Past.length (a0.Past.flatMap eGR05Reply)], .box v4.1, .arr 33 10 0 ((s8.2.2 ++ [(GR05Req.mk a1.Kind a1.Seq a1.Token a1.Attempt a1.RO a1.Key a1.Val (GApiRange.mk a1.Rng.Lo a1.Rng.Hi a1.Rng.Open))]).flatMap eGR05Req), .arr 33 10 ([(GR05Req.mk a1.Kind a1.Seq a1.Token a1.Attempt a1.RO a1.Key a1.Val (GApiRange.mk a1.Rng.Lo a1.Rng.Hi a1.Rng.Open))].flatMap eGR05Req).length ([(GR05Req.mk a1.Kind a1.Seq a1.Token a1.Attempt a1.RO a1.Key a1.Val (GApiRange.mk a1.Rng.Lo a1.Rng.Hi a1.Rng.Open))].flatMap eGR05Req)] rfl ?_
                      refine snil ?_
                      refine cregion ?_
                      refine sv rfl (opv_as rfl) ?_
                      refine snil ?_
                      exact ⟨(true, (s8.2.2 ++ [(GR05Req.mk a1.Kind a1.Seq a1.Token a1.Attempt a1.RO a1.Key a1.Val (GApiRange.mk a1.Rng.Lo a1.Rng.Hi a1.Rng.Open))])), _, h, ⟨rfl, rfl, rfl, rfl, rfl, rfl, rfl, rfl, trivial⟩, rfl⟩
                    · replace h := ite_f hc h
                      clear hc
                      refine cskip ?_
                      refine then_normal ?_
                      exact ⟨(s8.1, s8.2.2), _, h, ⟨rfl, rfl, rfl, rfl, rfl, rfl, rfl, rfl, trivial⟩, rfl⟩
                  · replace h := ite_f hc h
                    clear hc
                    refine doff rfl rfl rfl rfl ?_
                    refine doff rfl rfl rfl rfl ?_
                    refine dv rfl (opv_pick_f rfl rfl) ?_
                    refine dnil ?_
                    refine then_normal ?_
                    refine ccond rfl (fun hx => Bool.noConfusion hx) (fun _ => ?_)
                    refine cskip ?_
                    refine then_normal ?_
                    exact ⟨(s8.1, s8.2.2), _, h, ⟨rfl, rfl, rfl, rfl, rfl, rfl, rfl, rfl, trivial⟩, rfl⟩
              · replace h := ite_f hc h
                clear hc
                refine cexit ?_
                refine then_exit ?_
                refine then_exit ?_
                refine block_hit ?_
                refine then_normal ?_
                obtain rfl := Option.some.inj h
                obtain rfl : _ = x8 := hk8
                exact ⟨(s8.1, s8.2.2), _, ho8, ⟨rfl, rfl, rfl, rfl, rfl, rfl, trivial⟩, rfl⟩
    · skip
      refine cblock ?_
      obtain ⟨x15, hx15, ho15⟩ := bind_eq h
      refine awc_loop (G := Nat × (Int)) (fun g => [(2, .s (.one (.lp 0 0))), (3, .s (.one (.lp 1 0))), (4, .s (.one (.lp 2 0))), (5, .s (.one (.lp 3 0))), (8, .s (.one (.lp 4 0))), (9, .s (.one (.i .i64 g.2)))]) (fun g => [.box a0, .box a1, .box [.i .i64 0, .i .u64 ((0#64).toNat : Int), .i .i64 0, .raw (.slice none 0 0), .raw (.slice none 0 0)], .box [.i .i64 0, .i .i64 0, .i .i64 0, .i .i64 0, .b false, .raw (.slice none 0 0), .raw (.slice none 0 0)], .box [.i .i64 0, .i .i64 0, .i .i64 0, .i .i64 0, .b false, .raw (.slice none 0 0), .raw (.slice none 0 0)]]) (fun g => iter (m15_r16_Offer_s15 a0 a1) g.1 g.2 = some x15) (fun g => g.1) (fuel, 0) hx15 ⟨rfl, rfl, rfl, rfl, rfl, rfl, trivial⟩ [] rfl (fun _ _ => inbL_of rfl) (fun _ _ => blkinb_of rfl) (fun _ _ => Nat.le_of_ble_eq_true rfl) ?_
      clear hx15 h
      rintro ⟨n15, s15⟩ h
      obtain ⟨n15, y15, rfl, h, hk15⟩ := iter_eq h
      unfold m15_r16_Offer_s15 at h
      refine cseq ?_
      refine cseq ?_
      refine cregion ?_
      refine sv rfl (opv_mv rfl) ?_
      refine sv rfl (opv_fieldAddr_lp fi28_3 rfl) ?_
      refine sv rfl (opv_load1 ti26 rfl (.lp _ _ _ rfl) rfl) ?_
      refine sv rfl (opv_len_sl si26 rfl) ?_
      refine sv rfl (opv_lss rfl rfl) ?_
      refine snil ?_
      refine ccond rfl (fun hc => ?_) (fun hc => ?_)
      · replace h := ite_t hc h
        clear hc
        refine cskip ?_
        refine then_normal ?_
        refine cseq ?_
        refine cblock ?_
        refine cseq ?_
        refine cdraw mixed (by kernel_rfl) ?_
        refine dv rfl (opv_fieldAddr_lp fi28_3 rfl) ?_
        refine dv rfl (opv_load1 ti26 rfl (.lp _ _ _ rfl) rfl) ?_
        refine dv rfl (opv_mv rfl) ?_
        obtain ⟨u16, hu16, h⟩ := bind_eq h
        refine dv rfl (opv_ix (f := eGR05Reply) si26 (fun _ => rfl) rfl rfl rfl rfl hu16) ?_
        refine dv rfl (opv_fieldAddr_cp fi37_1 rfl) ?_
        refine dv rfl (opv_load1 ti3 rfl (.cp _) rfl) ?_
        refine dv rfl (opv_fieldAddr_lp fi33_1 rfl) ?_
        refine dv rfl (opv_load1 ti3 rfl (.lp _ _ _ rfl) rfl) ?_
        refine dv rfl (opv_ieql rfl rfl) ?_
        refine dnil ?_
        refine then_normal ?_
        refine ccond rfl (fun hc => ?_) (fun hc => ?_)
        · replace h := ite_t hc h
          clear hc
          refine cseq ?_
          obtain ⟨u17, hu17, h⟩ := bind_eq h
          refine cdraw_e [6, 7] [0, 0, 2, 0, 14, 30, 1, 127, 255, 511] [[.box a0, .box a1, .box [.i .i64 0, .i .u64 ((0#64).toNat : Int), .i .i64 0, .raw (.slice none 0 0), .raw (.slice none 0 0)], .box [.i .i64 0, .i .i64 0, .i .i64 0, .i .i64 0, .b false, .raw (.slice none 0 0), .raw (.slice none 0 0)], .box [.i .i64 0, .i .i64 0, .i .i64 0, .i .i64 0, .b false, .raw (.slice none 0 0), .raw (.slice none 0 0)]], [.box a0, .box a1, .box a0, .box [.i .i64 0, .i .i64 0, .i .i64 0, .i .i64 0, .b false, .raw (.slice none 0 0), .raw (.slice none 0 0)], .box [.i .i64 0, .i .i64 0, .i .i64 0, .i .i64 0, .b false, .raw (.slice none 0 0), .raw (.slice none 0 0)]], [.box a0, .box a1, .box a0, .box u17, .box [.i .i64 0, .i .i64 0, .i .i64 0, .i .i64 0, .b false, .raw (.slice none 0 0), .raw (.slice none 0 0)]]] (by kernel_rfl) mixed (by kernel_rfl) (by decide) rfl rfl rfl rfl ?_
          refine ev (sees_at 0 rfl rfl) rfl rfl (opv_loadN ti28 rfl (.lp _ _ _ rfl) (Nat.le_of_ble_eq_true rfl)) ?_
          refine ev (sees_all (md := [.box a0, .box a1, .dead, .dead, .box [.i .i64 0, .i .i64 0, .i .i64 0, .i .i64 0, .b false, .raw (.slice none 0 0), .raw (.slice none 0 0)]]) ⟨⟨rfl, ⟨rfl, ⟨trivial, ⟨trivial, ⟨rfl, trivial⟩⟩⟩⟩⟩, ⟨⟨rfl, ⟨rfl, ⟨trivial, ⟨trivial, ⟨rfl, trivial⟩⟩⟩⟩⟩, ⟨⟨rfl, ⟨rfl, ⟨trivial, ⟨trivial, ⟨rfl, trivial⟩⟩⟩⟩⟩, trivial⟩⟩⟩) rfl rfl (opv_fieldAddr_lp fi28_3 rfl) ?_
          refine ev (sees_all (md := [.box a0, .box a1, .dead, .dead, .box [.i .i64 0, .i .i64 0, .i .i64 0, .i .i64 0, .b false, .raw (.slice none 0 0), .raw (.slice none 0 0)]]) ⟨⟨rfl, ⟨rfl, ⟨trivial, ⟨trivial, ⟨rfl, trivial⟩⟩⟩⟩⟩, ⟨⟨rfl, ⟨rfl, ⟨trivial, ⟨trivial, ⟨rfl, trivial⟩⟩⟩⟩⟩, ⟨⟨rfl, ⟨rfl, ⟨trivial, ⟨trivial, ⟨rfl, trivial⟩⟩⟩⟩⟩, trivial⟩⟩⟩) rfl rfl (opv_load1 ti26 rfl (.lp _ _ _ rfl) rfl) ?_
          refine emv rfl rfl (fun _ => opv_mv rfl) ?_
          refine ev (sees_all (md := [.box a0, .box a1, .dead, .dead, .box [.i .i64 0, .i .i64 0, .i .i64 0, .i .i64 0, .b false, .raw (.slice none 0 0), .raw (.slice none 0 0)]]) ⟨⟨rfl, ⟨rfl, ⟨trivial, ⟨trivial, ⟨rfl, trivial⟩⟩⟩⟩⟩, ⟨⟨rfl, ⟨rfl, ⟨trivial, ⟨trivial, ⟨rfl, trivial⟩⟩⟩⟩⟩, ⟨⟨rfl, ⟨rfl, ⟨trivial, ⟨trivial, ⟨rfl, trivial⟩⟩⟩⟩⟩, trivial⟩⟩⟩) rfl rfl (opv_ix (f := eGR05Reply) si26 (fun _ => rfl) rfl rfl rfl rfl hu17) ?_
          refine ev (sees_all (md := [.box a0, .box a1, .dead, .dead, .box [.i .i64 0, .i .i64 0, .i .i64 0, .i .i64 0, .b false, .raw (.slice none 0 0), .raw (.slice none 0 0)]]) ⟨⟨rfl, ⟨rfl, ⟨trivial, ⟨trivial, ⟨rfl, trivial⟩⟩⟩⟩⟩, ⟨⟨rfl, ⟨rfl, ⟨trivial, ⟨trivial, ⟨rfl, trivial⟩⟩⟩⟩⟩, ⟨⟨rfl, ⟨rfl, ⟨trivial, ⟨trivial, ⟨rfl, trivial⟩⟩⟩⟩⟩, trivial⟩⟩⟩) rfl rfl (opv_loadNe (ys := [.i .i64 u17.Kind, .i .i64 u17.Seq, .i .i64 u17.Code, .i .i64 u17.N, .b u17.Found, .sl u17.Val.length (u17.Val.flatMap eU8), .sl u17.List.length (u17.List.flatMap eGApiKV)]) ti37 rfl (.cp _) rfl rfl) ?_
          refine ee0 0 rfl rfl rfl rfl (fun ζ => ?_) ?_
          · refine sstore sz28 rfl rfl rfl rfl (Nat.le_of_ble_eq_true rfl) ?_
            refine smem [.box a0, .box a1, .box a0, .box [.i .i64 0, .i .i64 0, .i .i64 0, .i .i64 0, .b false, .raw (.slice none 0 0), .raw (.slice none 0 0)], .box [.i .i64 0, .i .i64 0, .i .i64 0, .i .i64 0, .b false, .raw (.slice none 0 0), .raw (.slice none 0 0)]] rfl ?_
            exact eend
          refine ee0 1 rfl rfl rfl rfl (fun ζ => ?_) ?_
          · refine sstore sz37 rfl rfl rfl rfl (Nat.le_of_ble_eq_true rfl) ?_
            refine smem [.box a0, .box a1, .box a0, .box u17, .box [.i .i64 0, .i .i64 0, .i .i64 0, .i .i64 0, .b false, .raw (.slice none 0 0), .raw (.slice none 0 0)]] rfl ?_
            exact eend
          refine ev (sees_at 2 rfl rfl) rfl rfl (opv_as rfl) ?_
          refine ev (sees_at 2 rfl rfl) rfl rfl (opv_as rfl) ?_
          refine enil ?_
          refine then_normal ?_
          refine cret ?_
          refine block_ret ?_
          refine then_ret ?_
          refine then_ret ?_
          refine block_ret ?_
          refine then_ret ?_
          obtain rfl := Option.some.inj h
          obtain rfl : Sum.inl _ = x15 := hk15
          replace ho15 : some _ = some _ := ho15
          obtain rfl := Option.some.inj ho15
          refine ⟨Or.inr rfl, _, _, _, (resVs_cons (ResV.agg _ _ _ _ _ ti28 rfl (.lp _ _ _ rfl) (Nat.le_of_ble_eq_true rfl)) (resVs_cons (ResV.agg _ _ _ _ _ ti37 rfl (.lp _ _ _ rfl) (Nat.le_of_ble_eq_true rfl)) (resVs_cons (ResV.tmp _ _ rfl) (resVs_cons (ResV.tmp _ _ rfl) resVs_nil)))), (pubA_id rfl), ?_⟩
          rfl
        · replace h := ite_f hc h
          clear hc
          refine cskip ?_
          refine block_normal ?_
          refine then_normal ?_
          refine cregion ?_
          refine sv rfl (opv_mv rfl) ?_
          refine sv rfl (opv_add rfl rfl) ?_
          refine sv rfl (opv_as rfl) ?_
          refine snil ?_
          obtain rfl := Option.some.inj h
          exact ⟨(n15, (wI (s15 + 1))), _, hk15, ⟨rfl, rfl, rfl, rfl, rfl, rfl, trivial⟩, rfl, Nat.lt_succ_self _⟩
      · replace h := ite_f hc h
        clear hc
        refine cexit ?_
        refine then_exit ?_
        refine then_exit ?_
        refine block_hit ?_
        refine then_normal ?_
        obtain rfl := Option.some.inj h
        obtain rfl : _ = x15 := hk15
        exact ⟨(), _, ho15, ⟨rfl, rfl, rfl, rfl, rfl, trivial⟩, rfl⟩
  · skip
    refine cregion ?_
    refine sv rfl (opv_loadN ti28 rfl (.lp _ _ _ rfl) (Nat.le_of_ble_eq_true rfl)) ?_
    obtain ⟨v19, hv19, h⟩ := bind_eq h
    refine scall1 rfl fn28 (opnds_cons rfl opnds_nil) (pubA_id rfl) (m28_r16_Sane_c hv19) ?_
    refine sv rfl (opv_not rfl) ?_
    refine sv rfl (opv_mv rfl) ?_
    refine ssplit 19 rfl (fun hc => ?_) (fun hc => ?_)
    · replace h := ite_t hc h
      clear hc
      refine soff rfl rfl rfl rfl ?_
      refine soff rfl rfl rfl rfl ?_
      refine soff rfl rfl rfl rfl ?_
      refine sv rfl (opv_pick_t rfl rfl) ?_
      refine snil ?_
      refine ccond rfl (fun _ => ?_) (fun hx => Bool.noConfusion hx)
      refine cseq ?_
      refine cdraw_e [2, 3] [0, 0, 1, 7, 15, 31] [[.box a0, .box a1, .box [.i .i64 0, .i .u64 ((0#64).toNat : Int), .i .i64 0, .raw (.slice none 0 0), .raw (.slice none 0 0)], .box [.i .i64 0, .i .i64 0, .i .i64 0, .i .i64 0, .b false, .raw (.slice none 0 0), .raw (.slice none 0 0)], .box [.i .i64 0, .i .i64 0, .i .i64 0, .i .i64 0, .b false, .raw (.slice none 0 0), .raw (.slice none 0 0)]], [.box a0, .box a1, .box [.i .i64 0, .i .u64 ((0#64).toNat : Int), .i .i64 0, .raw (.slice none 0 0), .raw (.slice none 0 0)], .box [.i .i64 0, .i .i64 0, .i .i64 0, .i .i64 0, .b false, .raw (.slice none 0 0), .raw (.slice none 0 0)], .box [.i .i64 0, .i .i64 0, .i .i64 0, .i .i64 0, .b false, .raw (.slice none 0 0), .raw (.slice none 0 0)]], [.box a0, .box a1, .box [.i .i64 0, .i .u64 ((0#64).toNat : Int), .i .i64 0, .raw (.slice none 0 0), .raw (.slice none 0 0)], .box [.i .i64 0, .i .i64 0, .i .i64 0, .i .i64 0, .b false, .raw (.slice none 0 0), .raw (.slice none 0 0)], .box [.i .i64 0, .i .i64 0, .i .i64 0, .i .i64 0, .b false, .raw (.slice none 0 0), .raw (.slice none 0 0)]]] (by kernel_rfl) mixed (by kernel_rfl) (by decide) rfl rfl rfl rfl ?_
      refine ev (sees_at 0 rfl rfl) rfl rfl (opv_build zi28 pi28 parts_nil (.nil _)) ?_
      refine ev (sees_all (md := [.box a0, .box a1, .box [.i .i64 0, .i .u64 ((0#64).toNat : Int), .i .i64 0, .raw (.slice none 0 0), .raw (.slice none 0 0)], .box [.i .i64 0, .i .i64 0, .i .i64 0, .i .i64 0, .b false, .raw (.slice none 0 0), .raw (.slice none 0 0)], .box [.i .i64 0, .i .i64 0, .i .i64 0, .i .i64 0, .b false, .raw (.slice none 0 0), .raw (.slice none 0 0)]]) ⟨⟨rfl, ⟨rfl, ⟨rfl, ⟨rfl, ⟨rfl, trivial⟩⟩⟩⟩⟩, ⟨⟨rfl, ⟨rfl, ⟨rfl, ⟨rfl, ⟨rfl, trivial⟩⟩⟩⟩⟩, ⟨⟨rfl, ⟨rfl, ⟨rfl, ⟨rfl, ⟨rfl, trivial⟩⟩⟩⟩⟩, trivial⟩⟩⟩) rfl rfl (opv_loadN ti37 rfl (.lp _ _ _ rfl) (Nat.le_of_ble_eq_true rfl)) ?_
      refine ee0 0 rfl rfl rfl rfl (fun ζ => ?_) ?_
      · refine sstore sz28 rfl rfl rfl rfl (Nat.le_of_ble_eq_true rfl) ?_
        refine smem [.box a0, .box a1, .box [.i .i64 0, .i .u64 ((0#64).toNat : Int), .i .i64 0, .raw (.slice none 0 0), .raw (.slice none 0 0)], .box [.i .i64 0, .i .i64 0, .i .i64 0, .i .i64 0, .b false, .raw (.slice none 0 0), .raw (.slice none 0 0)], .box [.i .i64 0, .i .i64 0, .i .i64 0, .i .i64 0, .b false, .raw (.slice none 0 0), .raw (.slice none 0 0)]] rfl ?_
        exact eend
      refine ee0 1 rfl rfl rfl rfl (fun ζ => ?_) ?_
      · refine sstore sz37 rfl rfl rfl rfl (Nat.le_of_ble_eq_true rfl) ?_
        refine smem [.box a0, .box a1, .box [.i .i64 0, .i .u64 ((0#64).toNat : Int), .i .i64 0, .raw (.slice none 0 0), .raw (.slice none 0 0)], .box [.i .i64 0, .i .i64 0, .i .i64 0, .i .i64 0, .b false, .raw (.slice none 0 0), .raw (.slice none 0 0)], .box [.i .i64 0, .i .i64 0, .i .i64 0, .i .i64 0, .b false, .raw (.slice none 0 0), .raw (.slice none 0 0)]] rfl ?_
        exact eend
      refine ev (sees_at 2 rfl rfl) rfl rfl (opv_as rfl) ?_
      refine ev (sees_at 2 rfl rfl) rfl rfl (opv_as rfl) ?_
      refine enil ?_
      refine then_normal ?_
      refine cret ?_
      refine then_ret ?_
      obtain rfl := Option.some.inj h
      refine ⟨Or.inr rfl, _, _, _, (resVs_cons (ResV.agg _ _ _ _ _ ti28 rfl (.lp _ _ _ rfl) (Nat.le_of_ble_eq_true rfl)) (resVs_cons (ResV.agg _ _ _ _ _ ti37 rfl (.lp _ _ _ rfl) (Nat.le_of_ble_eq_true rfl)) (resVs_cons (ResV.tmp _ _ rfl) (resVs_cons (ResV.tmp _ _ rfl) resVs_nil)))), (pubC rfl), ?_⟩
      rfl
    · replace h := ite_f hc h
      clear hc
      refine son rfl rfl rfl ?_
      refine sv rfl (opv_loadN ti33 rfl (.lp _ _ _ rfl) (Nat.le_of_ble_eq_true rfl)) ?_
      refine son rfl rfl rfl ?_
      obtain ⟨v20, hv20, h⟩ := bind_eq h
      refine scall1 rfl fn31 (opnds_cons rfl opnds_nil) (pubA_id rfl) (m31_r05_SaneReq_c hv20) ?_
      refine son rfl rfl rfl ?_
      refine sv rfl (opv_not rfl) ?_
      refine sv rfl (opv_pick_f rfl rfl) ?_
      refine snil ?_
      refine ccond rfl (fun hc => ?_) (fun hc => ?_)
      · replace h := ite_t hc h
        clear hc
        refine cseq ?_
        refine cdraw_e [2, 3] [0, 0, 1, 7, 15, 31] [[.box a0, .box a1, .box [.i .i64 0, .i .u64 ((0#64).toNat : Int), .i .i64 0, .raw (.slice none 0 0), .raw (.slice none 0 0)], .box [.i .i64 0, .i .i64 0, .i .i64 0, .i .i64 0, .b false, .raw (.slice none 0 0), .raw (.slice none 0 0)], .box [.i .i64 0, .i .i64 0, .i .i64 0, .i .i64 0, .b false, .raw (.slice none 0 0), .raw (.slice none 0 0)]], [.box a0, .box a1, .box [.i .i64 0, .i .u64 ((0#64).toNat : Int), .i .i64 0, .raw (.slice none 0 0), .raw (.slice none 0 0)], .box [.i .i64 0, .i .i64 0, .i .i64 0, .i .i64 0, .b false, .raw (.slice none 0 0), .raw (.slice none 0 0)], .box [.i .i64 0, .i .i64 0, .i .i64 0, .i .i64 0, .b false, .raw (.slice none 0 0), .raw (.slice none 0 0)]], [.box a0, .box a1, .box [.i .i64 0, .i .u64 ((0#64).toNat : Int), .i .i64 0, .raw (.slice none 0 0), .raw (.slice none 0 0)], .box [.i .i64 0, .i .i64 0, .i .i64 0, .i .i64 0, .b false, .raw (.slice none 0 0), .raw (.slice none 0 0)], .box [.i .i64 0, .i .i64 0, .i .i64 0, .i .i64 0, .b false, .raw (.slice none 0 0), .raw (.slice none 0 0)]]] (by kernel_rfl) mixed (by kernel_rfl) (by decide) rfl rfl rfl rfl ?_
        refine ev (sees_at 0 rfl rfl) rfl rfl (opv_build zi28 pi28 parts_nil (.nil _)) ?_
        refine ev (sees_all (md := [.box a0, .box a1, .box [.i .i64 0, .i .u64 ((0#64).toNat : Int), .i .i64 0, .raw (.slice none 0 0), .raw (.slice none 0 0)], .box [.i .i64 0, .i .i64 0, .i .i64 0, .i .i64 0, .b false, .raw (.slice none 0 0), .raw (.slice none 0 0)], .box [.i .i64 0, .i .i64 0, .i .i64 0, .i .i64 0, .b false, .raw (.slice none 0 0), .raw (.slice none 0 0)]]) ⟨⟨rfl, ⟨rfl, ⟨rfl, ⟨rfl, ⟨rfl, trivial⟩⟩⟩⟩⟩, ⟨⟨rfl, ⟨rfl, ⟨rfl, ⟨rfl, ⟨rfl, trivial⟩⟩⟩⟩⟩, ⟨⟨rfl, ⟨rfl, ⟨rfl, ⟨rfl, ⟨rfl, trivial⟩⟩⟩⟩⟩, trivial⟩⟩⟩) rfl rfl (opv_loadN ti37 rfl (.lp _ _ _ rfl) (Nat.le_of_ble_eq_true rfl)) ?_
        refine ee0 0 rfl rfl rfl rfl (fun ζ => ?_) ?_
        · refine sstore sz28 rfl rfl rfl rfl (Nat.le_of_ble_eq_true rfl) ?_
          refine smem [.box a0, .box a1, .box [.i .i64 0, .i .u64 ((0#64).toNat : Int), .i .i64 0, .raw (.slice none 0 0), .raw (.slice none 0 0)], .box [.i .i64 0, .i .i64 0, .i .i64 0, .i .i64 0, .b false, .raw (.slice none 0 0), .raw (.slice none 0 0)], .box [.i .i64 0, .i .i64 0, .i .i64 0, .i .i64 0, .b false, .raw (.slice none 0 0), .raw (.slice none 0 0)]] rfl ?_
          exact eend
        refine ee0 1 rfl rfl rfl rfl (fun ζ => ?_) ?_
        · refine sstore sz37 rfl rfl rfl rfl (Nat.le_of_ble_eq_true rfl) ?_
          refine smem [.box a0, .box a1, .box [.i .i64 0, .i .u64 ((0#64).toNat : Int), .i .i64 0, .raw (.slice none 0 0), .raw (.slice none 0 0)], .box [.i .i64 0, .i .i64 0, .i .i64 0, .i .i64 0, .b false, .raw (.slice none 0 0), .raw (.slice none 0 0)], .box [.i .i64 0, .i .i64 0, .i .i64 0, .i .i64 0, .b false, .raw (.slice none 0 0), .raw (.slice none 0 0)]] rfl ?_
          exact eend
        refine ev (sees_at 2 rfl rfl) rfl rfl (opv_as rfl) ?_
        refine ev (sees_at 2 rfl rfl) rfl rfl (opv_as rfl) ?_
        refine enil ?_
        refine then_normal ?_
        refine cret ?_
        refine then_ret ?_
        obtain rfl := Option.some.inj h
        refine ⟨Or.inr rfl, _, _, _, (resVs_cons (ResV.agg _ _ _ _ _ ti28 rfl (.lp _ _ _ rfl) (Nat.le_of_ble_eq_true rfl)) (resVs_cons (ResV.agg _ _ _ _ _ ti37 rfl (.lp _ _ _ rfl) (Nat.le_of_ble_eq_true rfl)) (resVs_cons (ResV.tmp _ _ rfl) (resVs_cons (ResV.tmp _ _ rfl) resVs_nil)))), (pubC rfl), ?_⟩
        rfl
      · replace h := ite_f hc h
        clear hc
        refine cskip ?_
        refine then_normal ?_
        exact ⟨(), _, h, ⟨rfl, rfl, rfl, rfl, rfl, trivial⟩, rfl⟩

def m20_r16_Ready_k2 (a0 : GR16Pipe) (v1 : Int) (b2 : Unit) : Option (GR05Req × Bool) :=
  (idx a0.Wait v1).bind fun u3 => some ((GR05Req.mk u3.Kind u3.Seq u3.Token u3.Attempt u3.RO u3.Key u3.Val (GApiRange.mk u3.Rng.Lo u3.Rng.Hi u3.Rng.Open)), true)
def m20_r16_Ready (a0 : GR16Pipe) : Option (GR05Req × Bool) :=
  (m36_r16_waits (GR16Pipe.mk (GR15Window.mk a0.Win.Base a0.Win.Bits) a0.Next a0.Wait a0.Past) a0.Next).bind fun v1 => if (decide (v1 < 0)) then (some ((GR05Req.mk 0 0 0 0 false ([] : List UInt8) ([] : List UInt8) (GApiRange.mk ([] : List UInt8) ([] : List UInt8) false)), false)) else ((m28_r16_Sane (GR16Pipe.mk (GR15Window.mk a0.Win.Base a0.Win.Bits) a0.Next a0.Wait a0.Past)).bind fun v4 => if (!v4) then (some ((GR05Req.mk 0 0 0 0 false ([] : List UInt8) ([] : List UInt8) (GApiRange.mk ([] : List UInt8) ([] : List UInt8) false)), false)) else (m20_r16_Ready_k2 a0 v1 ()))

set_option maxRecDepth 100000 in
theorem m20_r16_Ready_c {a0 : GR16Pipe} {r : GR05Req × Bool} (h : m20_r16_Ready a0 = some r) : CallsA Tryd.prog 20 [.agg a0] (· = .tup [.agg r.1, .one (.b r.2)]) := by
  unfold m20_r16_Ready at h
  refine callsA_of Tryd.func20 rfl (nt := 22) rfl (Nat.le_of_ble_eq_true rfl) ?_
  intro w0 S0
  refine cseq ?_
  refine cregion ?_
  refine sbox rfl rfl ?_
  refine salloc rfl zi33 ?_
  refine sv rfl (opv_as rfl) ?_
  refine snil ?_
  refine cseq ?_
  refine cregion ?_
  refine sv rfl (opv_loadN ti28 rfl (.lp _ _ _ rfl) (Nat.le_of_ble_eq_true rfl)) ?_
  refine sv rfl (opv_fieldAddr_lp fi28_1 rfl) ?_
  refine sv rfl (opv_load1 ti3 rfl (.lp _ _ _ rfl) rfl) ?_
  obtain ⟨v1, hv1, h⟩ := bind_eq h
  refine scall1 rfl fn36 (opnds_cons rfl (opnds_cons rfl opnds_nil)) (pubA_id rfl) (m36_r16_waits_c hv1) ?_
  refine sv rfl (opv_as rfl) ?_
  refine snil ?_
  refine cseq ?_
  refine cseq ?_
  refine cjoin3 (Unit) (fun b2 => [(1, .s (.one (.lp 0 0))), (2, .s (.one (.lp 1 0))), (4, .s (.one (.i .i64 v1)))]) (fun b2 => [.box a0, .box [.i .i64 0, .i .i64 0, .i .i64 0, .i .i64 0, .b false, .raw (.slice none 0 0), .raw (.slice none 0 0), .raw (.slice none 0 0), .raw (.slice none 0 0), .b false]]) (fun b2 => m20_r16_Ready_k2 a0 v1 b2 = some r) (fun _ _ => inbL_of rfl) (fun _ _ => blkinb_of rfl) (fun _ _ => Nat.le_of_ble_eq_true rfl) (fun b2 h => ?_) ?_
  · unfold m20_r16_Ready_k2 at h
    refine cseq ?_
    refine cregion ?_
    refine sv rfl (opv_fieldAddr_lp fi28_2 rfl) ?_
    refine sv rfl (opv_load1 ti25 rfl (.lp _ _ _ rfl) rfl) ?_
    refine sv rfl (opv_mv rfl) ?_
    obtain ⟨u3, hu3, h⟩ := bind_eq h
    refine sv rfl (opv_ix (f := eGR05Req) si25 (fun _ => rfl) rfl rfl rfl rfl hu3) ?_
    refine sv rfl (opv_loadNe (ys := [.i .i64 u3.Kind, .i .i64 u3.Seq, .i .i64 u3.Token, .i .i64 u3.Attempt, .b u3.RO, .sl u3.Key.length (u3.Key.flatMap eU8), .sl u3.Val.length (u3.Val.flatMap eU8), .sl u3.Rng.Lo.length (u3.Rng.Lo.flatMap eU8), .sl u3.Rng.Hi.length (u3.Rng.Hi.flatMap eU8), .b u3.Rng.Open]) ti33 rfl (.cp _) rfl rfl) ?_
    refine sstore sz33 rfl rfl rfl rfl (Nat.le_of_ble_eq_true rfl) ?_
    refine smem [.box a0, .box u3] rfl ?_
    refine sv rfl (opv_as rfl) ?_
    refine snil ?_
    refine cret ?_
    obtain rfl := Option.some.inj h
    refine ⟨Or.inr rfl, _, _, _, (resVs_cons (ResV.agg _ _ _ _ _ ti33 rfl (.lp _ _ _ rfl) (Nat.le_of_ble_eq_true rfl)) (resVs_cons (ResV.tmp _ _ rfl) resVs_nil)), (pubA_id rfl), ?_⟩
    rfl
  · skip
    refine cregion ?_
    refine sv rfl (opv_mv rfl) ?_
    refine sv rfl (opv_lss rfl rfl) ?_
    refine sv rfl (opv_mv rfl) ?_
    refine ssplit 11 rfl (fun hc => ?_) (fun hc => ?_)
    · replace h := ite_t hc h
      clear hc
      refine soff rfl rfl rfl rfl ?_
      refine soff rfl rfl rfl rfl ?_
      refine soff rfl rfl rfl rfl ?_
      refine sv rfl (opv_pick_t rfl rfl) ?_
      refine snil ?_
      refine ccond rfl (fun _ => ?_) (fun hx => Bool.noConfusion hx)
      refine cseq ?_
      refine cregion ?_
      refine sv rfl (opv_build zi33 pi33 parts_nil (.nil _)) ?_
      refine sstore sz33 rfl rfl rfl rfl (Nat.le_of_ble_eq_true rfl) ?_
      refine smem [.box a0, .box [.i .i64 0, .i .i64 0, .i .i64 0, .i .i64 0, .b false, .raw (.slice none 0 0), .raw (.slice none 0 0), .raw (.slice none 0 0), .raw (.slice none 0 0), .b false]] rfl ?_
      refine sv rfl (opv_as rfl) ?_
      refine snil ?_
      refine cret ?_
      refine then_ret ?_
      obtain rfl := Option.some.inj h
      refine ⟨Or.inr rfl, _, _, _, (resVs_cons (ResV.agg _ _ _ _ _ ti33 rfl (.lp _ _ _ rfl) (Nat.le_of_ble_eq_true rfl)) (resVs_cons (ResV.tmp _ _ rfl) resVs_nil)), (pubC rfl), ?_⟩
      rfl
    · replace h := ite_f hc h
      clear hc
      refine son rfl rfl rfl ?_
      refine sv rfl (opv_loadN ti28 rfl (.lp _ _ _ rfl) (Nat.le_of_ble_eq_true rfl)) ?_
      refine son rfl rfl rfl ?_
      obtain ⟨v4, hv4, h⟩ := bind_eq h
      refine scall1 rfl fn28 (opnds_cons rfl opnds_nil) (pubA_id rfl) (m28_r16_Sane_c hv4) ?_
      refine son rfl rfl rfl ?_
      refine sv rfl (opv_not rfl) ?_
      refine sv rfl (opv_pick_f rfl rfl) ?_
      refine snil ?_
      refine ccond rfl (fun hc => ?_) (fun hc => ?_)
      · replace h := ite_t hc h
        clear hc
        refine cseq ?_
        refine cregion ?_
        refine sv rfl (opv_build zi33 pi33 parts_nil (.nil _)) ?_
        refine sstore sz33 rfl rfl rfl rfl (Nat.le_of_ble_eq_true rfl) ?_
        refine smem [.box a0, .box [.i .i64 0, .i .i64 0, .i .i64 0, .i .i64 0, .b false, .raw (.slice none 0 0), .raw (.slice none 0 0), .raw (.slice none 0 0), .raw (.slice none 0 0), .b false]] rfl ?_
        refine sv rfl (opv_as rfl) ?_
        refine snil ?_
        refine cret ?_
        refine then_ret ?_
        obtain rfl := Option.some.inj h
        refine ⟨Or.inr rfl, _, _, _, (resVs_cons (ResV.agg _ _ _ _ _ ti33 rfl (.lp _ _ _ rfl) (Nat.le_of_ble_eq_true rfl)) (resVs_cons (ResV.tmp _ _ rfl) resVs_nil)), (pubC rfl), ?_⟩
        rfl
      · replace h := ite_f hc h
        clear hc
        refine cskip ?_
        refine then_normal ?_
        exact ⟨(), _, h, ⟨rfl, rfl, rfl, trivial⟩, rfl⟩

def m18_r16_Answer (a0 : GR16Pipe) (a1 : GR05Reply) : Option (GR16Pipe × GR05Reply × Int) :=
  (m28_r16_Sane (GR16Pipe.mk (GR15Window.mk a0.Win.Base a0.Win.Bits) a0.Next a0.Wait a0.Past)).bind fun v1 => if (!v1) then (some ((GR16Pipe.mk (GR15Window.mk 0 (0#64)) 0 ([] : List GR05Req) ([] : List GR05Reply)), (GR05Reply.mk 0 0 0 0 false ([] : List UInt8) ([] : List GApiKV)), 1)) else ((m20_r16_Ready (GR16Pipe.mk (GR15Window.mk a0.Win.Base a0.Win.Bits) a0.Next a0.Wait a0.Past)).bind fun v2 => if (!v2.2) then (some ((GR16Pipe.mk (GR15Window.mk 0 (0#64)) 0 ([] : List GR05Req) ([] : List GR05Reply)), (GR05Reply.mk 0 0 0 0 false ([] : List UInt8) ([] : List GApiKV)), 7)) else ((m41_r05_SaneReply (GR05Reply.mk v2.1.Kind v2.1.Seq a1.Code a1.N a1.Found a1.Val a1.List)).bind fun v3 => if (!v3) then (some ((GR16Pipe.mk (GR15Window.mk 0 (0#64)) 0 ([] : List GR05Req) ([] : List GR05Reply)), (GR05Reply.mk 0 0 0 0 false ([] : List UInt8) ([] : List GApiKV)), 1)) else ((cut a0.Wait 1 (a0.Wait.length : Int)).bind fun c4 => if (([] : List GR05Req).length + c4.length) * 144 ≤ 140737488355328 then (if (([] : List GR05Reply).length + a0.Past.length) * 88 ≤ 140737488355328 then (if ((([] : List GR05Reply) ++ a0.Past).length + [(GR05Reply.mk v2.1.Kind v2.1.Seq a1.Code a1.N a1.Found a1.Val a1.List)].length) * 88 ≤ 140737488355328 then ((cut ((([] : List GR05Reply) ++ a0.Past) ++ [(GR05Reply.mk v2.1.Kind v2.1.Seq a1.Code a1.N a1.Found a1.Val a1.List)]) (if (wI ((((([] : List GR05Reply) ++ a0.Past) ++ [(GR05Reply.mk v2.1.Kind v2.1.Seq a1.Code a1.N a1.Found a1.Val a1.List)]).length : Int) - 8)) > 0 then (wI ((((([] : List GR05Reply) ++ a0.Past) ++ [(GR05Reply.mk v2.1.Kind v2.1.Seq a1.Code a1.N a1.Found a1.Val a1.List)]).length : Int) - 8)) else 0) (((([] : List GR05Reply) ++ a0.Past) ++ [(GR05Reply.mk v2.1.Kind v2.1.Seq a1.Code a1.N a1.Found a1.Val a1.List)]).length : Int)).bind fun c8 => some ((GR16Pipe.mk (GR15Window.mk a0.Win.Base a0.Win.Bits) (wI (a0.Next + 1)) (([] : List GR05Req) ++ c4) c8), (GR05Reply.mk v2.1.Kind v2.1.Seq a1.Code a1.N a1.Found a1.Val a1.List), 0)) else none) else none) else none)))

set_option maxRecDepth 100000 in
theorem m18_r16_Answer_c {a0 : GR16Pipe} {a1 : GR05Reply} {r : GR16Pipe × GR05Reply × Int} (h : m18_r16_Answer a0 a1 = some r) : CallsA Tryd.prog 18 [.agg a0, .agg a1] (· = .tup [.agg r.1, .agg r.2.1, .one (.i .i64 r.2.2)]) := by
  unfold m18_r16_Answer at h
  refine callsA_of Tryd.func18 rfl (nt := 66) rfl (Nat.le_of_ble_eq_true rfl) ?_
  intro w0 S0
  refine cseq ?_
  refine cregion ?_
  refine sbox rfl rfl ?_
  refine sbox rfl rfl ?_
  refine salloc rfl zi28 ?_
  refine salloc rfl zi37 ?_
  refine sv rfl (opv_as rfl) ?_
  refine snil ?_
  refine cseq ?_
  refine cseq ?_
  refine cregion ?_
  refine sv rfl (opv_loadN ti28 rfl (.lp _ _ _ rfl) (Nat.le_of_ble_eq_true rfl)) ?_
  obtain ⟨v1, hv1, h⟩ := bind_eq h
  refine scall1 rfl fn28 (opnds_cons rfl opnds_nil) (pubA_id rfl) (m28_r16_Sane_c hv1) ?_
  refine sv rfl (opv_not rfl) ?_
  refine snil ?_
  refine ccond rfl (fun hc => ?_) (fun hc => ?_)
  · replace h := ite_t hc h
    clear hc
    refine cseq ?_
    refine cregion ?_
    refine sv rfl (opv_build zi28 pi28 parts_nil (.nil _)) ?_
    refine sv rfl (opv_build zi37 pi37 parts_nil (.nil _)) ?_
    refine sstore sz28 rfl rfl rfl rfl (Nat.le_of_ble_eq_true rfl) ?_
    refine smem [.box a0, .box a1, .box [.i .i64 0, .i .u64 ((0#64).toNat : Int), .i .i64 0, .raw (.slice none 0 0), .raw (.slice none 0 0)], .box [.i .i64 0, .i .i64 0, .i .i64 0, .i .i64 0, .b false, .raw (.slice none 0 0), .raw (.slice none 0 0)]] rfl ?_
    refine sstore sz37 rfl rfl rfl rfl (Nat.le_of_ble_eq_true rfl) ?_
    refine smem [.box a0, .box a1, .box [.i .i64 0, .i .u64 ((0#64).toNat : Int), .i .i64 0, .raw (.slice none 0 0), .raw (.slice none 0 0)], .box [.i .i64 0, .i .i64 0, .i .i64 0, .i .i64 0, .b false, .raw (.slice none 0 0), .raw (.slice none 0 0)]] rfl ?_
    refine sv rfl (opv_as rfl) ?_
    refine snil ?_
    refine cret ?_
    refine then_ret ?_
    obtain rfl := Option.some.inj h
    refine ⟨Or.inr rfl, _, _, _, (resVs_cons (ResV.agg _ _ _ _ _ ti28 rfl (.lp _ _ _ rfl) (Nat.le_of_ble_eq_true rfl)) (resVs_cons (ResV.agg _ _ _ _ _ ti37 rfl (.lp _ _ _ rfl) (Nat.le_of_ble_eq_true rfl)) (resVs_cons (ResV.tmp _ _ rfl) resVs_nil))), (pubC rfl), ?_⟩
    rfl
  · replace h := ite_f hc h
    clear hc
    refine cskip ?_
    refine then_normal ?_
    refine cseq ?_
    refine cregion ?_
    refine sv rfl (opv_loadN ti28 rfl (.lp _ _ _ rfl) (Nat.le_of_ble_eq_true rfl)) ?_
    obtain ⟨v2, hv2, h⟩ := bind_eq h
    refine scall1 rfl fn20 (opnds_cons rfl opnds_nil) (pubA_id rfl) (m20_r16_Ready_c hv2) ?_
    refine sv rfl (opv_mvt rfl) ?_
    refine sv rfl (opv_extract rfl rfl) ?_
    refine sv rfl (opv_extract rfl rfl) ?_
    refine salloc rfl zi33 ?_
    refine sstore sz33 rfl rfl rfl rfl (Nat.le_of_ble_eq_true rfl) ?_
    refine smem [.box a0, .box a1, .box [.i .i64 0, .i .u64 ((0#64).toNat : Int), .i .i64 0, .raw (.slice none 0 0), .raw (.slice none 0 0)], .box [.i .i64 0, .i .i64 0, .i .i64 0, .i .i64 0, .b false, .raw (.slice none 0 0), .raw (.slice none 0 0)], .box v2.1] rfl ?_
    refine sv rfl (opv_as rfl) ?_
    refine snil ?_
    refine cseq ?_
    refine cseq ?_
    refine cregion ?_
    refine sv rfl (opv_mv rfl) ?_
    refine sv rfl (opv_not rfl) ?_
    refine snil ?_
    refine ccond rfl (fun hc => ?_) (fun hc => ?_)
    · replace h := ite_t hc h
      clear hc
      refine cseq ?_
      refine cregion ?_
      refine sv rfl (opv_build zi28 pi28 parts_nil (.nil _)) ?_
      refine sv rfl (opv_build zi37 pi37 parts_nil (.nil _)) ?_
      refine sstore sz28 rfl rfl rfl rfl (Nat.le_of_ble_eq_true rfl) ?_
      refine smem [.box a0, .box a1, .box [.i .i64 0, .i .u64 ((0#64).toNat : Int), .i .i64 0, .raw (.slice none 0 0), .raw (.slice none 0 0)], .box [.i .i64 0, .i .i64 0, .i .i64 0, .i .i64 0, .b false, .raw (.slice none 0 0), .raw (.slice none 0 0)], .box v2.1] rfl ?_
      refine sstore sz37 rfl rfl rfl rfl (Nat.le_of_ble_eq_true rfl) ?_
      refine smem [.box a0, .box a1, .box [.i .i64 0, .i .u64 ((0#64).toNat : Int), .i .i64 0, .raw (.slice none 0 0), .raw (.slice none 0 0)], .box [.i .i64 0, .i .i64 0, .i .i64 0, .i .i64 0, .b false, .raw (.slice none 0 0), .raw (.slice none 0 0)], .box v2.1] rfl ?_
      refine sv rfl (opv_as rfl) ?_
      refine snil ?_
      refine cret ?_
      refine then_ret ?_
      obtain rfl := Option.some.inj h
      refine ⟨Or.inr rfl, _, _, _, (resVs_cons (ResV.agg _ _ _ _ _ ti28 rfl (.lp _ _ _ rfl) (Nat.le_of_ble_eq_true rfl)) (resVs_cons (ResV.agg _ _ _ _ _ ti37 rfl (.lp _ _ _ rfl) (Nat.le_of_ble_eq_true rfl)) (resVs_cons (ResV.tmp _ _ rfl) resVs_nil))), (pubC rfl), ?_⟩
      rfl
    · replace h := ite_f hc h
      clear hc
      refine cskip ?_
      refine then_normal ?_
      refine cseq ?_
      refine cregion ?_
      refine sv rfl (opv_fieldAddr_lp fi33_0 rfl) ?_
      refine sv rfl (opv_load1 ti3 rfl (.lp _ _ _ rfl) rfl) ?_
      refine sv rfl (opv_fieldAddr_lp fi37_0 rfl) ?_
      refine sstore sz3 rfl rfl rfl rfl (Nat.le_of_ble_eq_true rfl) ?_
      refine smem [.box a0, .box [.i .i64 v2.1.Kind, .i .i64 a1.Seq, .i .i64 a1.Code, .i .i64 a1.N, .b a1.Found, .sl a1.Val.length (a1.Val.flatMap eU8), .sl a1.List.length (a1.List.flatMap eGApiKV)], .box [.i .i64 0, .i .u64 ((0#64).toNat : Int), .i .i64 0, .raw (.slice none 0 0), .raw (.slice none 0 0)], .box [.i .i64 0, .i .i64 0, .i .i64 0, .i .i64 0, .b false, .raw (.slice none 0 0), .raw (.slice none 0 0)], .box v2.1] rfl ?_
      refine snil ?_
      refine cseq ?_
      refine cregion ?_
      refine sv rfl (opv_fieldAddr_lp fi33_1 rfl) ?_
      refine sv rfl (opv_load1 ti3 rfl (.lp _ _ _ rfl) rfl) ?_
      refine sv rfl (opv_fieldAddr_lp fi37_1 rfl) ?_
      refine sstore sz3 rfl rfl rfl rfl (Nat.le_of_ble_eq_true rfl) ?_
      refine smem [.box a0, .box [.i .i64 v2.1.Kind, .i .i64 v2.1.Seq, .i .i64 a1.Code, .i .i64 a1.N, .b a1.Found, .sl a1.Val.length (a1.Val.flatMap eU8), .sl a1.List.length (a1.List.flatMap eGApiKV)], .box [.i .i64 0, .i .u64 ((0#64).toNat : Int), .i .i64 0, .raw (.slice none 0 0), .raw (.slice none 0 0)], .box [.i .i64 0, .i .i64 0, .i .i64 0, .i .i64 0, .b false, .raw (.slice none 0 0), .raw (.slice none 0 0)], .box v2.1] rfl ?_
      refine snil ?_
      refine cseq ?_
      refine cseq ?_
      refine cregion ?_
      refine sv rfl (opv_loadN ti37 rfl (.lp _ _ _ rfl) (Nat.le_of_ble_eq_true rfl)) ?_
      obtain ⟨v3, hv3, h⟩ := bind_eq h
      refine scall1 rfl fn41 (opnds_cons rfl opnds_nil) (pubA_id rfl) (m41_r05_SaneReply_c hv3) ?_
      refine sv rfl (opv_not rfl) ?_
      refine snil ?_
      refine ccond rfl (fun hc => ?_) (fun hc => ?_)
      · replace h := ite_t hc h
        clear hc
        refine cseq ?_
        refine cregion ?_
        refine sv rfl (opv_build zi28 pi28 parts_nil (.nil _)) ?_
        refine sv rfl (opv_build zi37 pi37 parts_nil (.nil _)) ?_
        refine sstore sz28 rfl rfl rfl rfl (Nat.le_of_ble_eq_true rfl) ?_
        refine smem [.box a0, .box [.i .i64 v2.1.Kind, .i .i64 v2.1.Seq, .i .i64 a1.Code, .i .i64 a1.N, .b a1.Found, .sl a1.Val.length (a1.Val.flatMap eU8), .sl a1.List.length (a1.List.flatMap eGApiKV)], .box [.i .i64 0, .i .u64 ((0#64).toNat : Int), .i .i64 0, .raw (.slice none 0 0), .raw (.slice none 0 0)], .box [.i .i64 0, .i .i64 0, .i .i64 0, .i .i64 0, .b false, .raw (.slice none 0 0), .raw (.slice none 0 0)], .box v2.1] rfl ?_
        refine sstore sz37 rfl rfl rfl rfl (Nat.le_of_ble_eq_true rfl) ?_
        refine smem [.box a0, .box [.i .i64 v2.1.Kind, .i .i64 v2.1.Seq, .i .i64 a1.Code, .i .i64 a1.N, .b a1.Found, .sl a1.Val.length (a1.Val.flatMap eU8), .sl a1.List.length (a1.List.flatMap eGApiKV)], .box [.i .i64 0, .i .u64 ((0#64).toNat : Int), .i .i64 0, .raw (.slice none 0 0), .raw (.slice none 0 0)], .box [.i .i64 0, .i .i64 0, .i .i64 0, .i .i64 0, .b false, .raw (.slice none 0 0), .raw (.slice none 0 0)], .box v2.1] rfl ?_
        refine sv rfl (opv_as rfl) ?_
        refine snil ?_
        refine cret ?_
        refine then_ret ?_
        obtain rfl := Option.some.inj h
        refine ⟨Or.inr rfl, _, _, _, (resVs_cons (ResV.agg _ _ _ _ _ ti28 rfl (.lp _ _ _ rfl) (Nat.le_of_ble_eq_true rfl)) (resVs_cons (ResV.agg _ _ _ _ _ ti37 rfl (.lp _ _ _ rfl) (Nat.le_of_ble_eq_true rfl)) (resVs_cons (ResV.tmp _ _ rfl) resVs_nil))), (pubC rfl), ?_⟩
        rfl
      · replace h := ite_f hc h
        clear hc
        refine cskip ?_
        refine then_normal ?_
        refine cseq ?_
        refine cregion ?_
        refine sv rfl (opv_fieldAddr_lp fi28_0 rfl) ?_
        refine sv rfl (opv_loadN ti24 rfl (.lp _ _ _ rfl) (Nat.le_of_ble_eq_true rfl)) ?_
        refine sv rfl (opv_fieldAddr_lp fi28_1 rfl) ?_
        refine sv rfl (opv_load1 ti3 rfl (.lp _ _ _ rfl) rfl) ?_
        refine sv rfl (opv_add rfl rfl) ?_
        refine sv rfl (opv_build zi28 pi28 (parts_cons rfl (parts_cons rfl parts_nil)) (.cons _ _ _ _ _ _ _ rfl rfl (Nat.le_of_ble_eq_true rfl) (.cons _ _ _ _ _ _ _ rfl rfl (Nat.le_of_ble_eq_true rfl) (.nil _)))) ?_
        refine salloc rfl zi28 ?_
        refine sstore sz28 rfl rfl rfl rfl (Nat.le_of_ble_eq_true rfl) ?_
        refine smem [.box a0, .box [.i .i64 v2.1.Kind, .i .i64 v2.1.Seq, .i .i64 a1.Code, .i .i64 a1.N, .b a1.Found, .sl a1.Val.length (a1.Val.flatMap eU8), .sl a1.List.length (a1.List.flatMap eGApiKV)], .box [.i .i64 0, .i .u64 ((0#64).toNat : Int), .i .i64 0, .raw (.slice none 0 0), .raw (.slice none 0 0)], .box [.i .i64 0, .i .i64 0, .i .i64 0, .i .i64 0, .b false, .raw (.slice none 0 0), .raw (.slice none 0 0)], .box v2.1, .box [.i .i64 a0.Win.Base, .i .u64 (a0.Win.Bits.toNat : Int), .i .i64 (wI (a0.Next + 1)), .raw (.slice none 0 0), .raw (.slice none 0 0)]] rfl ?_
        refine snil ?_
        refine cseq ?_
        refine sadopt_box_c 33 10 5 3 (by decide) rfl rfl ?_
        obtain ⟨c4, hc4, h⟩ := bind_eq h
        obtain ⟨hb5, h⟩ := chk_eq h
        refine cdraw_e [5, 7] [0, 1, 0, 4, 12, 31, 63, 127] [[.box a0, .box [.i .i64 v2.1.Kind, .i .i64 v2.1.Seq, .i .i64 a1.Code, .i .i64 a1.N, .b a1.Found, .sl a1.Val.length (a1.Val.flatMap eU8), .sl a1.List.length (a1.List.flatMap eGApiKV)], .box [.i .i64 0, .i .u64 ((0#64).toNat : Int), .i .i64 0, .raw (.slice none 0 0), .raw (.slice none 0 0)], .box [.i .i64 0, .i .i64 0, .i .i64 0, .i .i64 0, .b false, .raw (.slice none 0 0), .raw (.slice none 0 0)], .box v2.1, .box [.i .i64 a0.Win.Base, .i .u64 (a0.Win.Bits.toNat : Int), .i .i64 (wI (a0.Next + 1)), .ls 6 ([] : List GR05Req).length, .raw (.slice none 0 0)], .arr 33 10 0 (([] : List GR05Req).flatMap eGR05Req)], [.box a0, .box [.i .i64 v2.1.Kind, .i .i64 v2.1.Seq, .i .i64 a1.Code, .i .i64 a1.N, .b a1.Found, .sl a1.Val.length (a1.Val.flatMap eU8), .sl a1.List.length (a1.List.flatMap eGApiKV)], .box [.i .i64 0, .i .u64 ((0#64).toNat : Int), .i .i64 0, .raw (.slice none 0 0), .raw (.slice none 0 0)], .box [.i .i64 0, .i .i64 0, .i .i64 0, .i .i64 0, .b false, .raw (.slice none 0 0), .raw (.slice none 0 0)], .box v2.1, .box [.i .i64 a0.Win.Base, .i .u64 (a0.Win.Bits.toNat : Int), .i .i64 (wI (a0.Next + 1)), .ls 6 ([] : List GR05Req).length, .raw (.slice none 0 0)], .arr 33 10 0 ((([] : List GR05Req) ++ c4).flatMap eGR05Req)], [.box a0, .box [.i .i64 v2.1.Kind, .i .i64 v2.1.Seq, .i .i64 a1.Code, .i .i64 a1.N, .b a1.Found, .sl a1.Val.length (a1.Val.flatMap eU8), .sl a1.List.length (a1.List.flatMap eGApiKV)], .box [.i .i64 0, .i .u64 ((0#64).toNat : Int), .i .i64 0, .raw (.slice none 0 0), .raw (.slice none 0 0)], .box [.i .i64 0, .i .i64 0, .i .i64 0, .i .i64 0, .b false, .raw (.slice none 0 0), .raw (.slice none 0 0)], .box v2.1, .box [.i .i64 a0.Win.Base, .i .u64 (a0.Win.Bits.toNat : Int), .i .i64 (wI (a0.Next + 1)), .ls 6 (([] : List GR05Req) ++ c4).length, .raw (.slice none 0 0)], .arr 33 10 0 ((([] : List GR05Req) ++ c4).flatMap eGR05Req)]] (by kernel_rfl) mixed (by kernel_rfl) (by decide) rfl rfl rfl rfl ?_
        refine ev (sees_at 0 rfl rfl) rfl rfl (opv_fieldAddr_lp fi28_2 rfl) ?_
        refine ev (sees_at 0 rfl rfl) rfl rfl (opv_load1 ti25 rfl (.lp _ _ _ rfl) rfl) ?_
        refine ev (sees_at 0 rfl rfl) rfl rfl (opv_fieldAddr_lp fi28_2 rfl) ?_
        refine ev (sees_at 0 rfl rfl) rfl rfl (opv_load1 ti25 rfl (.lp _ _ _ rfl) rfl) ?_
        refine ev (sees_at 0 rfl rfl) rfl rfl (opv_cut (f := eGR05Req) (lo := 1) (hi := (a0.Wait.length : Int)) si25 (fun _ => rfl) rfl rfl rfl (bound_some rfl (cut_eq hc4).1.1) (by exact rfl) hc4) ?_
        refine ee (x := .s (.one (.ls 6 (([] : List GR05Req) ++ c4).length))) 0 rfl rfl rfl rfl rfl (fun ζ => ?_) ?_
        · refine sapp (f := eGR05Req) (xs := ([] : List GR05Req)) (us := c4) rfl Tryd.underlying25 ei33 ni25 (fun _ => rfl) rfl rfl (.one _ _ _ _ (.id _ rfl)) rfl rfl rfl (.sl _ _ _ (flat_len (f := eGR05Req) (fun _ => rfl) _)) rfl rfl hb5 (by decide) ?_
          exact eend
        refine ev (sees_at 1 rfl rfl) rfl rfl (opv_fieldAddr_lp fi28_2 rfl) ?_
        refine ee0 1 rfl rfl rfl rfl (fun ζ => ?_) ?_
        · refine sstore sz25 rfl rfl rfl rfl (Nat.le_of_ble_eq_true rfl) ?_
          refine smem [.box a0, .box [.i .i64 v2.1.Kind, .i .i64 v2.1.Seq, .i .i64 a1.Code, .i .i64 a1.N, .b a1.Found, .sl a1.Val.length (a1.Val.flatMap eU8), .sl a1.List.length (a1.List.flatMap eGApiKV)], .box [.i .i64 0, .i .u64 ((0#64).toNat : Int), .i .i64 0, .raw (.slice none 0 0), .raw (.slice none 0 0)], .box [.i .i64 0, .i .i64 0, .i .i64 0, .i .i64 0, .b false, .raw (.slice none 0 0), .raw (.slice none 0 0)], .box v2.1, .box [.i .i64 a0.Win.Base, .i .u64 (a0.Win.Bits.toNat : Int), .i .i64 (wI (a0.Next + 1)), .ls 6 (([] : List GR05Req) ++ c4).length, .raw (.slice none 0 0)], .arr 33 10 0 ((([] : List GR05Req) ++ c4).flatMap eGR05Req)] rfl ?_
          exact eend
        refine enil ?_
        refine then_normal ?_
        refine cseq ?_
        refine cregion ?_
        refine sbuild0 rfl Tryd.underlying26 ei37 ?_
        refine sv rfl (opv_fieldAddr_lp fi28_3 rfl) ?_
        refine sv rfl (opv_load1 ti26 rfl (.lp _ _ _ rfl) rfl) ?_
        obtain ⟨hb6, h⟩ := chk_eq h
        refine sapp (f := eGR05Reply) (xs := ([] : List GR05Reply)) (us := a0.Past) rfl Tryd.underlying26 ei37 ni26 (fun _ => rfl) rfl rfl (.one _ _ _ _ (.id _ rfl)) rfl rfl rfl (.sl _ _ _ (flat_len (f := eGR05Reply) (fun _ => rfl) _)) rfl rfl hb6 (by decide) ?_
        refine sv rfl (opv_as rfl) ?_
        refine snil ?_
        refine cseq ?_
        refine cregion ?_
        refine sv rfl (opv_mv rfl) ?_
        refine sv rfl (opv_loadN ti37 rfl (.lp _ _ _ rfl) (Nat.le_of_ble_eq_true rfl)) ?_
        refine sbuild1 rfl Tryd.underlying26 ei37 rfl rfl (List.all_eq_true.1 rfl) (by decide) ?_
        refine smem [.box a0, .box [.i .i64 v2.1.Kind, .i .i64 v2.1.Seq, .i .i64 a1.Code, .i .i64 a1.N, .b a1.Found, .sl a1.Val.length (a1.Val.flatMap eU8), .sl a1.List.length (a1.List.flatMap eGApiKV)], .box [.i .i64 0, .i .u64 ((0#64).toNat : Int), .i .i64 0, .raw (.slice none 0 0), .raw (.slice none 0 0)], .box [.i .i64 0, .i .i64 0, .i .i64 0, .i .i64 0, .b false, .raw (.slice none 0 0), .raw (.slice none 0 0)], .box v2.1, .box [.i .i64 a0.Win.Base, .i .u64 (a0.Win.Bits.toNat : Int), .i .i64 (wI (a0.Next + 1)), .ls 6 (([] : List GR05Req) ++ c4).length, .raw (.slice none 0 0)], .arr 33 10 0 ((([] : List GR05Req) ++ c4).flatMap eGR05Req), .arr 37 7 0 ((([] : List GR05Reply) ++ a0.Past).flatMap eGR05Reply), .arr 37 7 0 ([(GR05Reply.mk v2.1.Kind v2.1.Seq a1.Code a1.N a1.Found a1.Val a1.List)].flatMap eGR05Reply)] rfl ?_
        obtain ⟨hb7, h⟩ := chk_eq h
        refine sapp (f := eGR05Reply) (xs := (([] : List GR05Reply) ++ a0.Past)) (us := [(GR05Reply.mk v2.1.Kind v2.1.Seq a1.Code a1.N a1.Found a1.Val a1.List)]) rfl Tryd.underlying26 ei37 ni26 (fun _ => rfl) rfl rfl (.one _ _ _ _ (.ls _ _ _ _ _ _ rfl (flat_len (f := eGR05Reply) (fun _ => rfl) [(GR05Reply.mk v2.1.Kind v2.1.Seq a1.Code a1.N a1.Found a1.Val a1.List)]).symm)) rfl rfl rfl (.sl _ _ _ (flat_len (f := eGR05Reply) (fun _ => rfl) _)) rfl rfl hb7 (by decide) ?_
        refine sv rfl (opv_as rfl) ?_
        refine snil ?_
        refine cseq ?_
        refine cregion ?_
        refine sv rfl (opv_mv rfl) ?_
        refine sv rfl (opv_mv rfl) ?_
        refine sv rfl (opv_len_ls si26 rfl rfl (flat_len (f := eGR05Reply) (fun _ => rfl) _).symm) ?_
        refine sv rfl (opv_sub rfl rfl) ?_
        refine sv rfl (opv_max rfl rfl) ?_
        refine spub 57 rfl (by (repeat' first | exact PubA.nil _ | apply PubA.cons | apply PubV.one | apply PubV.agg | exact PubL.nil | exact PubL.ls _ _ _ _ _ _ rfl (flat_len (f := eGR05Reply) (fun _ => rfl) _).symm | exact PubL.ls _ _ _ _ _ _ rfl (flat_len (f := eGR05Req) (fun _ => rfl) _).symm | exact PubL.id _ rfl | exact PubLs.nil _ | apply PubLs.cons)) ?_
        obtain ⟨c8, hc8, h⟩ := bind_eq h
        refine sv rfl (opv_cut (f := eGR05Reply) (lo := (if (wI ((((([] : List GR05Reply) ++ a0.Past) ++ [(GR05Reply.mk v2.1.Kind v2.1.Seq a1.Code a1.N a1.Found a1.Val a1.List)]).length : Int) - 8)) > 0 then (wI ((((([] : List GR05Reply) ++ a0.Past) ++ [(GR05Reply.mk v2.1.Kind v2.1.Seq a1.Code a1.N a1.Found a1.Val a1.List)]).length : Int) - 8)) else 0)) (hi := (((([] : List GR05Reply) ++ a0.Past) ++ [(GR05Reply.mk v2.1.Kind v2.1.Seq a1.Code a1.N a1.Found a1.Val a1.List)]).length : Int)) si26 (fun _ => rfl) rfl rfl rfl (bound_some rfl (cut_eq hc8).1.1) (by exact rfl) hc8) ?_
        refine sv rfl (opv_fieldAddr_lp fi28_3 rfl) ?_
        refine sstore sz26 rfl rfl rfl rfl (Nat.le_of_ble_eq_true rfl) ?_
        refine smem [.box a0, .box [.i .i64 v2.1.Kind, .i .i64 v2.1.Seq, .i .i64 a1.Code, .i .i64 a1.N, .b a1.Found, .sl a1.Val.length (a1.Val.flatMap eU8), .sl a1.List.length (a1.List.flatMap eGApiKV)], .box [.i .i64 0, .i .u64 ((0#64).toNat : Int), .i .i64 0, .raw (.slice none 0 0), .raw (.slice none 0 0)], .box [.i .i64 0, .i .i64 0, .i .i64 0, .i .i64 0, .b false, .raw (.slice none 0 0), .raw (.slice none 0 0)], .box v2.1, .box [.i .i64 a0.Win.Base, .i .u64 (a0.Win.Bits.toNat : Int), .i .i64 (wI (a0.Next + 1)), .ls 6 (([] : List GR05Req) ++ c4).length, .sl c8.length (c8.flatMap eGR05Reply)], .arr 33 10 0 ((([] : List GR05Req) ++ c4).flatMap eGR05Req), .arr 37 7 (((([] : List GR05Reply) ++ a0.Past) ++ [(GR05Reply.mk v2.1.Kind v2.1.Seq a1.Code a1.N a1.Found a1.Val a1.List)]).flatMap eGR05Reply).length (((([] : List GR05Reply) ++ a0.Past) ++ [(GR05Reply.mk v2.1.Kind v2.1.Seq a1.Code a1.N a1.Found a1.Val a1.List)]).flatMap eGR05Reply), .arr 37 7 ([(GR05Reply.mk v2.1.Kind v2.1.Seq a1.Code a1.N a1.Found a1.Val a1.List)].flatMap eGR05Reply).length ([(GR05Reply.mk v2.1.Kind v2.1.Seq a1.Code a1.N a1.Found a1.Val a1.List)].flatMap eGR05Reply)] rfl ?_
        refine snil ?_
        refine cseq ?_
        refine cdraw_e [2, 3] [0, 0, 1, 7, 15] [[.box a0, .box [.i .i64 v2.1.Kind, .i .i64 v2.1.Seq, .i .i64 a1.Code, .i .i64 a1.N, .b a1.Found, .sl a1.Val.length (a1.Val.flatMap eU8), .sl a1.List.length (a1.List.flatMap eGApiKV)], .box [.i .i64 0, .i .u64 ((0#64).toNat : Int), .i .i64 0, .raw (.slice none 0 0), .raw (.slice none 0 0)], .box [.i .i64 0, .i .i64 0, .i .i64 0, .i .i64 0, .b false, .raw (.slice none 0 0), .raw (.slice none 0 0)], .box v2.1, .box [.i .i64 a0.Win.Base, .i .u64 (a0.Win.Bits.toNat : Int), .i .i64 (wI (a0.Next + 1)), .ls 6 (([] : List GR05Req) ++ c4).length, .sl c8.length (c8.flatMap eGR05Reply)], .arr 33 10 0 ((([] : List GR05Req) ++ c4).flatMap eGR05Req), .arr 37 7 (((([] : List GR05Reply) ++ a0.Past) ++ [(GR05Reply.mk v2.1.Kind v2.1.Seq a1.Code a1.N a1.Found a1.Val a1.List)]).flatMap eGR05Reply).length (((([] : List GR05Reply) ++ a0.Past) ++ [(GR05Reply.mk v2.1.Kind v2.1.Seq a1.Code a1.N a1.Found a1.Val a1.List)]).flatMap eGR05Reply), .arr 37 7 ([(GR05Reply.mk v2.1.Kind v2.1.Seq a1.Code a1.N a1.Found a1.Val a1.List)].flatMap eGR05Reply).length ([(GR05Reply.mk v2.1.Kind v2.1.Seq a1.Code a1.N a1.Found a1.Val a1.List)].flatMap eGR05Reply)], [.box a0, .box [.i .i64 v2.1.Kind, .i .i64 v2.1.Seq, .i .i64 a1.Code, .i .i64 a1.N, .b a1.Found, .sl a1.Val.length (a1.Val.flatMap eU8), .sl a1.List.length (a1.List.flatMap eGApiKV)], .box [.i .i64 a0.Win.Base, .i .u64 (a0.Win.Bits.toNat : Int), .i .i64 (wI (a0.Next + 1)), .ls 6 (([] : List GR05Req) ++ c4).length, .sl c8.length (c8.flatMap eGR05Reply)], .box [.i .i64 0, .i .i64 0, .i .i64 0, .i .i64 0, .b false, .raw (.slice none 0 0), .raw (.slice none 0 0)], .box v2.1, .box [.i .i64 a0.Win.Base, .i .u64 (a0.Win.Bits.toNat : Int), .i .i64 (wI (a0.Next + 1)), .ls 6 (([] : List GR05Req) ++ c4).length, .sl c8.length (c8.flatMap eGR05Reply)], .arr 33 10 0 ((([] : List GR05Req) ++ c4).flatMap eGR05Req), .arr 37 7 (((([] : List GR05Reply) ++ a0.Past) ++ [(GR05Reply.mk v2.1.Kind v2.1.Seq a1.Code a1.N a1.Found a1.Val a1.List)]).flatMap eGR05Reply).length (((([] : List GR05Reply) ++ a0.Past) ++ [(GR05Reply.mk v2.1.Kind v2.1.Seq a1.Code a1.N a1.Found a1.Val a1.List)]).flatMap eGR05Reply), .arr 37 7 ([(GR05Reply.mk v2.1.Kind v2.1.Seq a1.Code a1.N a1.Found a1.Val a1.List)].flatMap eGR05Reply).length ([(GR05Reply.mk v2.1.Kind v2.1.Seq a1.Code a1.N a1.Found a1.Val a1.List)].flatMap eGR05Reply)], [.box a0, .box [.i .i64 v2.1.Kind, .i .i64 v2.1.Seq, .i .i64 a1.Code, .i .i64 a1.N, .b a1.Found, .sl a1.Val.length (a1.Val.flatMap eU8), .sl a1.List.length (a1.List.flatMap eGApiKV)], .box [.i .i64 a0.Win.Base, .i .u64 (a0.Win.Bits.toNat : Int), .i .i64 (wI (a0.Next + 1)), .ls 6 (([] : List GR05Req) ++ c4).length, .sl c8.length (c8.flatMap eGR05Reply)], .box [.i .i64 v2.1.Kind, .i .i64 v2.1.Seq, .i .i64 a1.Code, .i .i64 a1.N, .b a1.Found, .sl a1.Val.length (a1.Val.flatMap eU8), .sl a1.List.length (a1.List.flatMap eGApiKV)], .box v2.1, .box [.i .i64 a0.Win.Base, .i .u64 (a0.Win.Bits.toNat : Int), .i .i64 (wI (a0.Next + 1)), .ls 6 (([] : List GR05Req) ++ c4).length, .sl c8.length (c8.flatMap eGR05Reply)], .arr 33 10 0 ((([] : List GR05Req) ++ c4).flatMap eGR05Req), .arr 37 7 (((([] : List GR05Reply) ++ a0.Past) ++ [(GR05Reply.mk v2.1.Kind v2.1.Seq a1.Code a1.N a1.Found a1.Val a1.List)]).flatMap eGR05Reply).length (((([] : List GR05Reply) ++ a0.Past) ++ [(GR05Reply.mk v2.1.Kind v2.1.Seq a1.Code a1.N a1.Found a1.Val a1.List)]).flatMap eGR05Reply), .arr 37 7 ([(GR05Reply.mk v2.1.Kind v2.1.Seq a1.Code a1.N a1.Found a1.Val a1.List)].flatMap eGR05Reply).length ([(GR05Reply.mk v2.1.Kind v2.1.Seq a1.Code a1.N a1.Found a1.Val a1.List)].flatMap eGR05Reply)]] (by kernel_rfl) mixed (by kernel_rfl) (by decide) rfl rfl rfl rfl ?_
        refine ev (sees_at 0 rfl rfl) rfl rfl (opv_loadN ti28 rfl (.lp _ _ _ rfl) (Nat.le_of_ble_eq_true rfl)) ?_
        refine ev (sees_all (md := [.box a0, .box [.i .i64 v2.1.Kind, .i .i64 v2.1.Seq, .i .i64 a1.Code, .i .i64 a1.N, .b a1.Found, .sl a1.Val.length (a1.Val.flatMap eU8), .sl a1.List.length (a1.List.flatMap eGApiKV)], .dead, .dead, .box v2.1, .box [.i .i64 a0.Win.Base, .i .u64 (a0.Win.Bits.toNat : Int), .i .i64 (wI (a0.Next + 1)), .ls 6 (([] : List GR05Req) ++ c4).length, .sl c8.length (c8.flatMap eGR05Reply)], .arr 33 10 0 ((([] : List GR05Req) ++ c4).flatMap eGR05Req), .arr 37 7 (((([] : List GR05Reply) ++ a0.Past) ++ [(GR05Reply.mk v2.1.Kind v2.1.Seq a1.Code a1.N a1.Found a1.Val a1.List)]).flatMap eGR05Reply).length (((([] : List GR05Reply) ++ a0.Past) ++ [(GR05Reply.mk v2.1.Kind v2.1.Seq a1.Code a1.N a1.Found a1.Val a1.List)]).flatMap eGR05Reply), .arr 37 7 ([(GR05Reply.mk v2.1.Kind v2.1.Seq a1.Code a1.N a1.Found a1.Val a1.List)].flatMap eGR05Reply).length ([(GR05Reply.mk v2.1.Kind v2.1.Seq a1.Code a1.N a1.Found a1.Val a1.List)].flatMap eGR05Reply)]) ⟨⟨rfl, ⟨rfl, ⟨trivial, ⟨trivial, ⟨rfl, ⟨rfl, ⟨rfl, ⟨rfl, ⟨rfl, trivial⟩⟩⟩⟩⟩⟩⟩⟩⟩, ⟨⟨rfl, ⟨rfl, ⟨trivial, ⟨trivial, ⟨rfl, ⟨rfl, ⟨rfl, ⟨rfl, ⟨rfl, trivial⟩⟩⟩⟩⟩⟩⟩⟩⟩, ⟨⟨rfl, ⟨rfl, ⟨trivial, ⟨trivial, ⟨rfl, ⟨rfl, ⟨rfl, ⟨rfl, ⟨rfl, trivial⟩⟩⟩⟩⟩⟩⟩⟩⟩, trivial⟩⟩⟩) rfl rfl (opv_loadN ti37 rfl (.lp _ _ _ rfl) (Nat.le_of_ble_eq_true rfl)) ?_
        refine ee0 0 rfl rfl rfl rfl (fun ζ => ?_) ?_
        · refine sstore sz28 rfl rfl rfl rfl (Nat.le_of_ble_eq_true rfl) ?_
          refine smem [.box a0, .box [.i .i64 v2.1.Kind, .i .i64 v2.1.Seq, .i .i64 a1.Code, .i .i64 a1.N, .b a1.Found, .sl a1.Val.length (a1.Val.flatMap eU8), .sl a1.List.length (a1.List.flatMap eGApiKV)], .box [.i .i64 a0.Win.Base, .i .u64 (a0.Win.Bits.toNat : Int), .i .i64 (wI (a0.Next + 1)), .ls 6 (([] : List GR05Req) ++ c4).length, .sl c8.length (c8.flatMap eGR05Reply)], .box [.i .i64 0, .i .i64 0, .i .i64 0, .i .i64 0, .b false, .raw (.slice none 0 0), .raw (.slice none 0 0)], .box v2.1, .box [.i .i64 a0.Win.Base, .i .u64 (a0.Win.Bits.toNat : Int), .i .i64 (wI (a0.Next + 1)), .ls 6 (([] : List GR05Req) ++ c4).length, .sl c8.length (c8.flatMap eGR05Reply)], .arr 33 10 0 ((([] : List GR05Req) ++ c4).flatMap eGR05Req), .arr 37 7 (((([] : List GR05Reply) ++ a0.Past) ++ [(GR05Reply.mk v2.1.Kind v2.1.Seq a1.Code a1.N a1.Found a1.Val a1.List)]).flatMap eGR05Reply).length (((([] : List GR05Reply) ++ a0.Past) ++ [(GR05Reply.mk v2.1.Kind v2.1.Seq a1.Code a1.N a1.Found a1.Val a1.List)]).flatMap eGR05Reply), .arr 37 7 ([(GR05Reply.mk v2.1.Kind v2.1.Seq a1.Code a1.N a1.Found a1.Val a1.List)].flatMap eGR05Reply).length ([(GR05Reply.mk v2.1.Kind v2.1.Seq a1.Code a1.N a1.Found a1.Val a1.List)].flatMap eGR05Reply)] rfl ?_
          exact eend
        refine ee0 1 rfl rfl rfl rfl (fun ζ => ?_) ?_
        · refine sstore sz37 rfl rfl rfl rfl (Nat.le_of_ble_eq_true rfl) ?_
          refine smem [.box a0, .box [.i .i64 v2.1.Kind, .i .i64 v2.1.Seq, .i .i64 a1.Code, .i .i64 a1.N, .b a1.Found, .sl a1.Val.length (a1.Val.flatMap eU8), .sl a1.List.length (a1.List.flatMap eGApiKV)], .box [.i .i64 a0.Win.Base, .i .u64 (a0.Win.Bits.toNat : Int), .i .i64 (wI (a0.Next + 1)), .ls 6 (([] : List GR05Req) ++ c4).length, .sl c8.length (c8.flatMap eGR05Reply)], .box [.i .i64 v2.1.Kind, .i .i64 v2.1.Seq, .i .i64 a1.Code, .i .i64 a1.N, .b a1.Found, .sl a1.Val.length (a1.Val.flatMap eU8), .sl a1.List.length (a1.List.flatMap eGApiKV)], .box v2.1, .box [.i .i64 a0.Win.Base, .i .u64 (a0.Win.Bits.toNat : Int), .i .i64 (wI (a0.Next + 1)), .ls 6 (([] : List GR05Req) ++ c4).length, .sl c8.length (c8.flatMap eGR05Reply)], .arr 33 10 0 ((([] : List GR05Req) ++ c4).flatMap eGR05Req), .arr 37 7 (((([] : List GR05Reply) ++ a0.Past) ++ [(GR05Reply.mk v2.1.Kind v2.1.Seq a1.Code a1.N a1.Found a1.Val a1.List)]).flatMap eGR05Reply).length (((([] : List GR05Reply) ++ a0.Past) ++ [(GR05Reply.mk v2.1.Kind v2.1.Seq a1.Code a1.N a1.Found a1.Val a1.List)]).flatMap eGR05Reply), .arr 37 7 ([(GR05Reply.mk v2.1.Kind v2.1.Seq a1.Code a1.N a1.Found a1.Val a1.List)].flatMap eGR05Reply).length ([(GR05Reply.mk v2.1.Kind v2.1.Seq a1.Code a1.N a1.Found a1.Val a1.List)].flatMap eGR05Reply)] rfl ?_
          exact eend
        refine ev (sees_at 2 rfl rfl) rfl rfl (opv_as rfl) ?_
        refine enil ?_
        refine then_normal ?_
        refine cret ?_
        obtain rfl := Option.some.inj h
        refine ⟨Or.inr rfl, _, _, _, (resVs_cons (ResV.agg _ _ _ _ _ ti28 rfl (.lp _ _ _ rfl) (Nat.le_of_ble_eq_true rfl)) (resVs_cons (ResV.agg _ _ _ _ _ ti37 rfl (.lp _ _ _ rfl) (Nat.le_of_ble_eq_true rfl)) (resVs_cons (ResV.tmp _ _ rfl) resVs_nil))), (by (repeat' first | exact PubA.nil _ | apply PubA.cons | apply PubV.one | apply PubV.agg | exact PubL.nil | exact PubL.ls _ _ _ _ _ _ rfl (flat_len (f := eGR05Reply) (fun _ => rfl) _).symm | exact PubL.ls _ _ _ _ _ _ rfl (flat_len (f := eGR05Req) (fun _ => rfl) _).symm | exact PubL.id _ rfl | exact PubLs.nil _ | apply PubLs.cons)), ?_⟩
        rfl

def m26_l16_asked (a0 : GMsgReq) : Option GR05Req :=
  some (GR05Req.mk a0.Kind a0.Seq a0.Token a0.Attempt a0.RO a0.Key a0.Val (GApiRange.mk a0.Rng.Lo a0.Rng.Hi a0.Rng.Open))

set_option maxRecDepth 100000 in
theorem m26_l16_asked_c {a0 : GMsgReq} {r : GR05Req} (h : m26_l16_asked a0 = some r) : CallsA Tryd.prog 26 [.agg a0] (· = .s (.agg r)) := by
  unfold m26_l16_asked at h
  refine callsA_of Tryd.func26 rfl (nt := 20) rfl (Nat.le_of_ble_eq_true rfl) ?_
  intro w0 S0
  refine cseq ?_
  refine cregion ?_
  refine sbox rfl rfl ?_
  refine salloc rfl zi33 ?_
  refine snil ?_
  refine cseq ?_
  refine cregion ?_
  refine sv rfl (opv_fieldAddr_lp fi51_0 rfl) ?_
  refine sv rfl (opv_load1 ti3 rfl (.lp _ _ _ rfl) rfl) ?_
  refine sv rfl (opv_fieldAddr_lp fi51_1 rfl) ?_
  refine sv rfl (opv_load1 ti3 rfl (.lp _ _ _ rfl) rfl) ?_
  refine sv rfl (opv_fieldAddr_lp fi51_2 rfl) ?_
  refine sv rfl (opv_load1 ti3 rfl (.lp _ _ _ rfl) rfl) ?_
  refine sv rfl (opv_fieldAddr_lp fi51_3 rfl) ?_
  refine sv rfl (opv_load1 ti3 rfl (.lp _ _ _ rfl) rfl) ?_
  refine sv rfl (opv_fieldAddr_lp fi51_4 rfl) ?_
  refine sv rfl (opv_load1 ti4 rfl (.lp _ _ _ rfl) rfl) ?_
  refine sv rfl (opv_fieldAddr_lp fi51_5 rfl) ?_
  refine sv rfl (opv_load1 ti29 rfl (.lp _ _ _ rfl) rfl) ?_
  refine sv rfl (opv_fieldAddr_lp fi51_6 rfl) ?_
  refine sv rfl (opv_load1 ti29 rfl (.lp _ _ _ rfl) rfl) ?_
  refine sv rfl (opv_fieldAddr_lp fi51_7 rfl) ?_
  refine sv rfl (opv_loadN ti31 rfl (.lp _ _ _ rfl) (Nat.le_of_ble_eq_true rfl)) ?_
  refine sv rfl (opv_build zi33 pi33 (parts_cons rfl (parts_cons rfl (parts_cons rfl (parts_cons rfl (parts_cons rfl (parts_cons rfl (parts_cons rfl (parts_cons rfl parts_nil)))))))) (bcons [.i .i64 a0.Kind, .i .i64 0, .i .i64 0, .i .i64 0, .b false, .raw (.slice none 0 0), .raw (.slice none 0 0), .raw (.slice none 0 0), .raw (.slice none 0 0), .b false] rfl rfl (Nat.le_of_ble_eq_true rfl) rfl (bcons [.i .i64 a0.Kind, .i .i64 a0.Seq, .i .i64 0, .i .i64 0, .b false, .raw (.slice none 0 0), .raw (.slice none 0 0), .raw (.slice none 0 0), .raw (.slice none 0 0), .b false] rfl rfl (Nat.le_of_ble_eq_true rfl) rfl (bcons [.i .i64 a0.Kind, .i .i64 a0.Seq, .i .i64 a0.Token, .i .i64 0, .b false, .raw (.slice none 0 0), .raw (.slice none 0 0), .raw (.slice none 0 0), .raw (.slice none 0 0), .b false] rfl rfl (Nat.le_of_ble_eq_true rfl) rfl (bcons [.i .i64 a0.Kind, .i .i64 a0.Seq, .i .i64 a0.Token, .i .i64 a0.Attempt, .b false, .raw (.slice none 0 0), .raw (.slice none 0 0), .raw (.slice none 0 0), .raw (.slice none 0 0), .b false] rfl rfl (Nat.le_of_ble_eq_true rfl) rfl (bcons [.i .i64 a0.Kind, .i .i64 a0.Seq, .i .i64 a0.Token, .i .i64 a0.Attempt, .b a0.RO, .raw (.slice none 0 0), .raw (.slice none 0 0), .raw (.slice none 0 0), .raw (.slice none 0 0), .b false] rfl rfl (Nat.le_of_ble_eq_true rfl) rfl (bcons [.i .i64 a0.Kind, .i .i64 a0.Seq, .i .i64 a0.Token, .i .i64 a0.Attempt, .b a0.RO, .sl a0.Key.length (a0.Key.flatMap eU8), .raw (.slice none 0 0), .raw (.slice none 0 0), .raw (.slice none 0 0), .b false] rfl rfl (Nat.le_of_ble_eq_true rfl) rfl (bcons [.i .i64 a0.Kind, .i .i64 a0.Seq, .i .i64 a0.Token, .i .i64 a0.Attempt, .b a0.RO, .sl a0.Key.length (a0.Key.flatMap eU8), .sl a0.Val.length (a0.Val.flatMap eU8), .raw (.slice none 0 0), .raw (.slice none 0 0), .b false] rfl rfl (Nat.le_of_ble_eq_true rfl) rfl (bcons [.i .i64 a0.Kind, .i .i64 a0.Seq, .i .i64 a0.Token, .i .i64 a0.Attempt, .b a0.RO, .sl a0.Key.length (a0.Key.flatMap eU8), .sl a0.Val.length (a0.Val.flatMap eU8), .sl a0.Rng.Lo.length (a0.Rng.Lo.flatMap eU8), .sl a0.Rng.Hi.length (a0.Rng.Hi.flatMap eU8), .b a0.Rng.Open] rfl rfl (Nat.le_of_ble_eq_true rfl) rfl (.nil _)))))))))) ?_
  refine sstore sz33 rfl rfl rfl rfl (Nat.le_of_ble_eq_true rfl) ?_
  refine smem [.box a0, .box a0] rfl ?_
  refine snil ?_
  refine cret ?_
  obtain rfl := Option.some.inj h
  refine ⟨Or.inr rfl, _, _, _, (resVs_cons (ResV.agg _ _ _ _ _ ti33 rfl (.lp _ _ _ rfl) (Nat.le_of_ble_eq_true rfl)) resVs_nil), (pubA_id rfl), ?_⟩
  rfl

def m24_l16_told (a0 : GMsgReply) : Option GR05Reply :=
  some (GR05Reply.mk a0.Kind a0.Seq a0.Code a0.N a0.Found a0.Val a0.List)

set_option maxRecDepth 100000 in
theorem m24_l16_told_c {a0 : GMsgReply} {r : GR05Reply} (h : m24_l16_told a0 = some r) : CallsA Tryd.prog 24 [.agg a0] (· = .s (.agg r)) := by
  unfold m24_l16_told at h
  refine callsA_of Tryd.func24 rfl (nt := 18) rfl (Nat.le_of_ble_eq_true rfl) ?_
  intro w0 S0
  refine cseq ?_
  refine cregion ?_
  refine sbox rfl rfl ?_
  refine salloc rfl zi37 ?_
  refine snil ?_
  refine cseq ?_
  refine cregion ?_
  refine sv rfl (opv_fieldAddr_lp fi48_0 rfl) ?_
  refine sv rfl (opv_load1 ti3 rfl (.lp _ _ _ rfl) rfl) ?_
  refine sv rfl (opv_fieldAddr_lp fi48_1 rfl) ?_
  refine sv rfl (opv_load1 ti3 rfl (.lp _ _ _ rfl) rfl) ?_
  refine sv rfl (opv_fieldAddr_lp fi48_2 rfl) ?_
  refine sv rfl (opv_load1 ti34 rfl (.lp _ _ _ rfl) rfl) ?_
  refine sv rfl (opv_fieldAddr_lp fi48_3 rfl) ?_
  refine sv rfl (opv_load1 ti3 rfl (.lp _ _ _ rfl) rfl) ?_
  refine sv rfl (opv_fieldAddr_lp fi48_4 rfl) ?_
  refine sv rfl (opv_load1 ti4 rfl (.lp _ _ _ rfl) rfl) ?_
  refine sv rfl (opv_fieldAddr_lp fi48_5 rfl) ?_
  refine sv rfl (opv_load1 ti29 rfl (.lp _ _ _ rfl) rfl) ?_
  refine sv rfl (opv_fieldAddr_lp fi48_6 rfl) ?_
  refine sv rfl (opv_load1 ti35 rfl (.lp _ _ _ rfl) rfl) ?_
  refine sv rfl (opv_build zi37 pi37 (parts_cons rfl (parts_cons rfl (parts_cons rfl (parts_cons rfl (parts_cons rfl (parts_cons rfl (parts_cons rfl parts_nil))))))) (bcons [.i .i64 a0.Kind, .i .i64 0, .i .i64 0, .i .i64 0, .b false, .raw (.slice none 0 0), .raw (.slice none 0 0)] rfl rfl (Nat.le_of_ble_eq_true rfl) rfl (bcons [.i .i64 a0.Kind, .i .i64 a0.Seq, .i .i64 0, .i .i64 0, .b false, .raw (.slice none 0 0), .raw (.slice none 0 0)] rfl rfl (Nat.le_of_ble_eq_true rfl) rfl (bcons [.i .i64 a0.Kind, .i .i64 a0.Seq, .i .i64 a0.Code, .i .i64 0, .b false, .raw (.slice none 0 0), .raw (.slice none 0 0)] rfl rfl (Nat.le_of_ble_eq_true rfl) rfl (bcons [.i .i64 a0.Kind, .i .i64 a0.Seq, .i .i64 a0.Code, .i .i64 a0.N, .b false, .raw (.slice none 0 0), .raw (.slice none 0 0)] rfl rfl (Nat.le_of_ble_eq_true rfl) rfl (bcons [.i .i64 a0.Kind, .i .i64 a0.Seq, .i .i64 a0.Code, .i .i64 a0.N, .b a0.Found, .raw (.slice none 0 0), .raw (.slice none 0 0)] rfl rfl (Nat.le_of_ble_eq_true rfl) rfl (bcons [.i .i64 a0.Kind, .i .i64 a0.Seq, .i .i64 a0.Code, .i .i64 a0.N, .b a0.Found, .sl a0.Val.length (a0.Val.flatMap eU8), .raw (.slice none 0 0)] rfl rfl (Nat.le_of_ble_eq_true rfl) rfl (bcons [.i .i64 a0.Kind, .i .i64 a0.Seq, .i .i64 a0.Code, .i .i64 a0.N, .b a0.Found, .sl a0.Val.length (a0.Val.flatMap eU8), .sl a0.List.length (a0.List.flatMap eGApiKV)] rfl rfl (Nat.le_of_ble_eq_true rfl) rfl (.nil _))))))))) ?_
  refine sstore sz37 rfl rfl rfl rfl (Nat.le_of_ble_eq_true rfl) ?_
  refine smem [.box a0, .box a0] rfl ?_
  refine snil ?_
  refine cret ?_
  obtain rfl := Option.some.inj h
  refine ⟨Or.inr rfl, _, _, _, (resVs_cons (ResV.agg _ _ _ _ _ ti37 rfl (.lp _ _ _ rfl) (Nat.le_of_ble_eq_true rfl)) resVs_nil), (pubA_id rfl), ?_⟩
  rfl

def m22_l16_theirs_k2 (a0 : GPipePipe) (b1 : (List GR05Req)) (b2 : (List GR05Reply)) : Option GR16Pipe :=
  some (GR16Pipe.mk (GR15Window.mk a0.Win.Base a0.Win.Bits) a0.Next b1 b2)

def m22_l16_theirs_s3 (a0 : GPipePipe) (s3 : Int × (List GR05Reply)) : Option (LB (Int × (List GR05Reply)) ((List GR05Reply))) :=
  if (decide (s3.1 < (a0.Past.length : Int))) then ((idx a0.Past s3.1).bind fun u4 => (m24_l16_told u4).bind fun v5 => if (s3.2.length + ([v5] : List GR05Reply).length) * 88 ≤ 140737488355328 then (some (.cont ((wI (s3.1 + 1)), (s3.2 ++ ([v5] : List GR05Reply))))) else none) else (some (.brk s3.2))

def m22_l16_theirs_k1 (a0 : GPipePipe) (b1 : (List GR05Req)) : Option GR16Pipe :=
  (iterB (m22_l16_theirs_s3 a0) fuel (0, ([] : List GR05Reply))).bind fun e7 => m22_l16_theirs_k2 a0 b1 e7

def m22_l16_theirs_s8 (a0 : GPipePipe) (s8 : Int × (List GR05Req)) : Option (LB (Int × (List GR05Req)) ((List GR05Req))) :=
  if (decide (s8.1 < (a0.Wait.length : Int))) then ((idx a0.Wait s8.1).bind fun u9 => (m26_l16_asked (GMsgReq.mk u9.Kind u9.Seq u9.Token u9.Attempt u9.RO u9.Key u9.Val (GApiRange.mk u9.Rng.Lo u9.Rng.Hi u9.Rng.Open))).bind fun v10 => if (s8.2.length + ([(GR05Req.mk v10.Kind v10.Seq v10.Token v10.Attempt v10.RO v10.Key v10.Val (GApiRange.mk v10.Rng.Lo v10.Rng.Hi v10.Rng.Open))] : List GR05Req).length) * 144 ≤ 140737488355328 then (some (.cont ((wI (s8.1 + 1)), (s8.2 ++ ([(GR05Req.mk v10.Kind v10.Seq v10.Token v10.Attempt v10.RO v10.Key v10.Val (GApiRange.mk v10.Rng.Lo v10.Rng.Hi v10.Rng.Open))] : List GR05Req))))) else none) else (some (.brk s8.2))
def m22_l16_theirs (a0 : GPipePipe) : Option GR16Pipe :=
  (iterB (m22_l16_theirs_s8 a0) fuel (0, ([] : List GR05Req))).bind fun e12 => m22_l16_theirs_k1 a0 e12

set_option maxRecDepth 100000 in
theorem m22_l16_theirs_c {a0 : GPipePipe} {r : GR16Pipe} (h : m22_l16_theirs a0 = some r) : CallsA Tryd.prog 22 [.agg a0] (· = .s (.agg r)) := by
  unfold m22_l16_theirs at h
  refine callsA_of Tryd.func22 rfl (nt := 53) rfl (Nat.le_of_ble_eq_true rfl) ?_
  intro w0 S0
  refine cseq ?_
  refine cregion ?_
  refine sbox rfl rfl ?_
  refine salloc rfl zi28 ?_
  refine snil ?_
  refine cseq ?_
  refine cregion ?_
  refine sv rfl (opv_fieldAddr_lp fi46_0 rfl) ?_
  refine sv rfl (opv_fieldAddr_lp fi42_0 rfl) ?_
  refine sv rfl (opv_load1 ti3 rfl (.lp _ _ _ rfl) rfl) ?_
  refine sv rfl (opv_fieldAddr_lp fi46_0 rfl) ?_
  refine sv rfl (opv_fieldAddr_lp fi42_1 rfl) ?_
  refine sv rfl (opv_load1 ti22 rfl (.lp _ _ _ rfl) rfl) ?_
  refine sv rfl (opv_build zi24 pi24 (parts_cons rfl (parts_cons rfl parts_nil)) (.cons _ _ _ _ _ _ _ rfl rfl (Nat.le_of_ble_eq_true rfl) (.cons _ _ _ _ _ _ _ rfl rfl (Nat.le_of_ble_eq_true rfl) (.nil _)))) ?_
  refine sv rfl (opv_fieldAddr_lp fi46_1 rfl) ?_
  refine sv rfl (opv_load1 ti3 rfl (.lp _ _ _ rfl) rfl) ?_
  refine sv rfl (opv_build zi28 pi28 (parts_cons rfl (parts_cons rfl parts_nil)) (.cons _ _ _ _ _ _ _ rfl rfl (Nat.le_of_ble_eq_true rfl) (.cons _ _ _ _ _ _ _ rfl rfl (Nat.le_of_ble_eq_true rfl) (.nil _)))) ?_
  refine salloc rfl zi28 ?_
  refine sstore sz28 rfl rfl rfl rfl (Nat.le_of_ble_eq_true rfl) ?_
  refine smem [.box a0, .box [.i .i64 0, .i .u64 ((0#64).toNat : Int), .i .i64 0, .raw (.slice none 0 0), .raw (.slice none 0 0)], .box [.i .i64 a0.Win.Base, .i .u64 (a0.Win.Bits.toNat : Int), .i .i64 a0.Next, .raw (.slice none 0 0), .raw (.slice none 0 0)]] rfl ?_
  refine snil ?_
  refine cseq ?_
  refine cseq ?_
  refine cregion ?_
  refine sv rfl (opv_as rfl) ?_
  refine snil ?_
  refine sadopt_box_c 33 10 2 3 (by decide) rfl rfl ?_
  refine cjoin ((List GR05Req)) (fun b1 => [(1, .s (.one (.lp 0 0))), (2, .s (.one (.lp 1 0))), (3, .s (.one (.lp 2 0)))]) (fun b1 => [.box a0, .box [.i .i64 0, .i .u64 ((0#64).toNat : Int), .i .i64 0, .raw (.slice none 0 0), .raw (.slice none 0 0)], .box [.i .i64 a0.Win.Base, .i .u64 (a0.Win.Bits.toNat : Int), .i .i64 a0.Next, .ls 3 b1.length, .raw (.slice none 0 0)], .arr 33 10 0 (b1.flatMap eGR05Req)]) (fun b1 => m22_l16_theirs_k1 a0 b1 = some r) (fun _ _ => inbL_of rfl) (fun _ _ => blkinb_of rfl) (fun _ _ => Nat.le_of_ble_eq_true rfl) (fun b1 h => ?_) ?_
  · unfold m22_l16_theirs_k1 at h
    refine cseq ?_
    refine cseq ?_
    refine cregion ?_
    refine sv rfl (opv_as rfl) ?_
    refine snil ?_
    refine sadopt_box_c 37 7 2 4 (by decide) rfl rfl ?_
    refine cjoin ((List GR05Reply)) (fun b2 => [(2, .s (.one (.lp 1 0))), (3, .s (.one (.lp 2 0)))]) (fun b2 => [.box a0, .box [.i .i64 0, .i .u64 ((0#64).toNat : Int), .i .i64 0, .raw (.slice none 0 0), .raw (.slice none 0 0)], .box [.i .i64 a0.Win.Base, .i .u64 (a0.Win.Bits.toNat : Int), .i .i64 a0.Next, .ls 3 b1.length, .ls 4 b2.length], .arr 33 10 0 (b1.flatMap eGR05Req), .arr 37 7 0 (b2.flatMap eGR05Reply)]) (fun b2 => m22_l16_theirs_k2 a0 b1 b2 = some r) (fun _ _ => inbL_of rfl) (fun _ _ => blkinb_of rfl) (fun _ _ => Nat.le_of_ble_eq_true rfl) (fun b2 h => ?_) ?_
    · unfold m22_l16_theirs_k2 at h
      refine cseq ?_
      refine cregion ?_
      refine sv rfl (opv_loadN ti28 rfl (.lp _ _ _ rfl) (Nat.le_of_ble_eq_true rfl)) ?_
      refine sstore sz28 rfl rfl rfl rfl (Nat.le_of_ble_eq_true rfl) ?_
      refine smem [.box a0, .box [.i .i64 a0.Win.Base, .i .u64 (a0.Win.Bits.toNat : Int), .i .i64 a0.Next, .ls 3 b1.length, .ls 4 b2.length], .box [.i .i64 a0.Win.Base, .i .u64 (a0.Win.Bits.toNat : Int), .i .i64 a0.Next, .ls 3 b1.length, .ls 4 b2.length], .arr 33 10 0 (b1.flatMap eGR05Req), .arr 37 7 0 (b2.flatMap eGR05Reply)] rfl ?_
      refine snil ?_
      refine cret ?_
      obtain rfl := Option.some.inj h
      refine ⟨Or.inr rfl, _, _, _, (resVs_cons (ResV.agg _ _ _ _ _ ti28 rfl (.lp _ _ _ rfl) (Nat.le_of_ble_eq_true rfl)) resVs_nil), (by (repeat' first | exact PubA.nil _ | apply PubA.cons | apply PubV.one | apply PubV.agg | exact PubL.nil | exact PubL.ls _ _ _ _ _ _ rfl (flat_len (f := eGR05Reply) (fun _ => rfl) _).symm | exact PubL.ls _ _ _ _ _ _ rfl (flat_len (f := eGR05Req) (fun _ => rfl) _).symm | exact PubL.id _ rfl | exact PubLs.nil _ | apply PubLs.cons)), ?_⟩
      rfl
    · skip
      refine cblock ?_
      obtain ⟨x3, hx3, ho3⟩ := bind_eq h
      refine awc_loop (G := Nat × (Int × (List GR05Reply))) (fun g => [(1, .s (.one (.lp 0 0))), (2, .s (.one (.lp 1 0))), (3, .s (.one (.lp 2 0))), (5, .s (.one (.i .i64 g.2.1)))]) (fun g => [.box a0, .box [.i .i64 0, .i .u64 ((0#64).toNat : Int), .i .i64 0, .raw (.slice none 0 0), .raw (.slice none 0 0)], .box [.i .i64 a0.Win.Base, .i .u64 (a0.Win.Bits.toNat : Int), .i .i64 a0.Next, .ls 3 b1.length, .ls 4 g.2.2.length], .arr 33 10 0 (b1.flatMap eGR05Req), .arr 37 7 0 (g.2.2.flatMap eGR05Reply)]) (fun g => iterB (m22_l16_theirs_s3 a0) g.1 g.2 = some x3) (fun g => g.1) (fuel, (0, ([] : List GR05Reply))) hx3 ⟨rfl, rfl, rfl, rfl, trivial⟩ [] rfl (fun _ _ => inbL_of rfl) (fun _ _ => blkinb_of rfl) (fun _ _ => Nat.le_of_ble_eq_true rfl) ?_
      clear hx3 h
      rintro ⟨n3, s3⟩ h
      obtain ⟨n3, y3, rfl, h, hk3⟩ := iterB_eq h
      unfold m22_l16_theirs_s3 at h
      refine cseq ?_
      refine cseq ?_
      refine cregion ?_
      refine sv rfl (opv_mv rfl) ?_
      refine sv rfl (opv_fieldAddr_lp fi46_3 rfl) ?_
      refine sv rfl (opv_load1 ti44 rfl (.lp _ _ _ rfl) rfl) ?_
      refine sv rfl (opv_len_sl si44 rfl) ?_
      refine sv rfl (opv_lss rfl rfl) ?_
      refine snil ?_
      refine ccond rfl (fun hc => ?_) (fun hc => ?_)
      · replace h := ite_t hc h
        clear hc
        refine cskip ?_
        refine then_normal ?_
        refine cseq ?_
        refine cblock ?_
        obtain ⟨u4, hu4, h⟩ := bind_eq h
        obtain ⟨v5, hv5, h⟩ := bind_eq h
        obtain ⟨hb6, h⟩ := chk_eq h
        refine cdraw_e [9, 11] [0, 1, 0, 4, 0, 28, 60, 124, 252, 511, 1023, 2047] [[.box a0, .box [.i .i64 0, .i .u64 ((0#64).toNat : Int), .i .i64 0, .raw (.slice none 0 0), .raw (.slice none 0 0)], .box [.i .i64 a0.Win.Base, .i .u64 (a0.Win.Bits.toNat : Int), .i .i64 a0.Next, .ls 3 b1.length, .ls 4 s3.2.length], .arr 33 10 0 (b1.flatMap eGR05Req), .arr 37 7 0 (s3.2.flatMap eGR05Reply)], [.box a0, .box [.i .i64 0, .i .u64 ((0#64).toNat : Int), .i .i64 0, .raw (.slice none 0 0), .raw (.slice none 0 0)], .box [.i .i64 a0.Win.Base, .i .u64 (a0.Win.Bits.toNat : Int), .i .i64 a0.Next, .ls 3 b1.length, .ls 4 s3.2.length], .arr 33 10 0 (b1.flatMap eGR05Req), .arr 37 7 0 ((s3.2 ++ ([v5] : List GR05Reply)).flatMap eGR05Reply)], [.box a0, .box [.i .i64 0, .i .u64 ((0#64).toNat : Int), .i .i64 0, .raw (.slice none 0 0), .raw (.slice none 0 0)], .box [.i .i64 a0.Win.Base, .i .u64 (a0.Win.Bits.toNat : Int), .i .i64 a0.Next, .ls 3 b1.length, .ls 4 (s3.2 ++ ([v5] : List GR05Reply)).length], .arr 33 10 0 (b1.flatMap eGR05Req), .arr 37 7 0 ((s3.2 ++ ([v5] : List GR05Reply)).flatMap eGR05Reply)]] (by kernel_rfl) mixed (by kernel_rfl) (by decide) rfl rfl rfl rfl ?_
        refine ev (sees_at 0 rfl rfl) rfl rfl (opv_fieldAddr_lp fi28_3 rfl) ?_
        refine ev (sees_at 0 rfl rfl) rfl rfl (opv_load1 ti26 rfl (.lp _ _ _ rfl) rfl) ?_
        refine ev (sees_at 0 rfl rfl) rfl rfl (opv_fieldAddr_lp fi46_3 rfl) ?_
        refine ev (sees_at 0 rfl rfl) rfl rfl (opv_load1 ti44 rfl (.lp _ _ _ rfl) rfl) ?_
        refine ev (sees_at 0 rfl rfl) rfl rfl (opv_mv rfl) ?_
        refine ev (sees_at 0 rfl rfl) rfl rfl (opv_ix (f := eGMsgReply) si44 (fun _ => rfl) rfl rfl rfl rfl hu4) ?_
        refine ev (sees_at 0 rfl rfl) rfl rfl (opv_loadNe (ys := [.i .i64 u4.Kind, .i .i64 u4.Seq, .i .i64 u4.Code, .i .i64 u4.N, .b u4.Found, .sl u4.Val.length (u4.Val.flatMap eU8), .sl u4.List.length (u4.List.flatMap eGApiKV)]) ti48 rfl (.cp _) rfl rfl) ?_
        refine ed (sees_at 0 rfl rfl) rfl rfl (opD_call fn24 (opnds_cons rfl opnds_nil) rfl (m24_l16_told_c hv5)) ?_
        refine ed (sees_at 0 rfl rfl) rfl rfl (opD_bld (out := ([v5] : List GR05Reply).flatMap eGR05Reply) Tryd.underlying26 ei37 (parts_cons rfl parts_nil) (.cons _ _ _ _ _ _ _ rfl rfl (Nat.le_of_ble_eq_true rfl) (.nil _)) rfl (by decide)) ?_
        refine ee (x := .s (.one (.ls 4 (s3.2 ++ ([v5] : List GR05Reply)).length))) 0 rfl rfl rfl rfl rfl (fun ζ => ?_) ?_
        · refine sapp (f := eGR05Reply) (xs := s3.2) (us := ([v5] : List GR05Reply)) rfl Tryd.underlying26 ei37 ni26 (fun _ => rfl) rfl rfl (.one _ _ _ _ (.id _ rfl)) rfl rfl rfl (.sl _ _ _ (flat_len (f := eGR05Reply) (fun _ => rfl) _)) rfl rfl hb6 (by decide) ?_
          exact eend
        refine ev (sees_at 1 rfl rfl) rfl rfl (opv_fieldAddr_lp fi28_3 rfl) ?_
        refine ee0 1 rfl rfl rfl rfl (fun ζ => ?_) ?_
        · refine sstore sz26 rfl rfl rfl rfl (Nat.le_of_ble_eq_true rfl) ?_
          refine smem [.box a0, .box [.i .i64 0, .i .u64 ((0#64).toNat : Int), .i .i64 0, .raw (.slice none 0 0), .raw (.slice none 0 0)], .box [.i .i64 a0.Win.Base, .i .u64 (a0.Win.Bits.toNat : Int), .i .i64 a0.Next, .ls 3 b1.length, .ls 4 (s3.2 ++ ([v5] : List GR05Reply)).length], .arr 33 10 0 (b1.flatMap eGR05Req), .arr 37 7 0 ((s3.2 ++ ([v5] : List GR05Reply)).flatMap eGR05Reply)] rfl ?_
          exact eend
        refine enil ?_
        refine block_normal ?_
        refine then_normal ?_
        refine cregion ?_
        refine sv rfl (opv_mv rfl) ?_
        refine sv rfl (opv_add rfl rfl) ?_
        refine sv rfl (opv_as rfl) ?_
        refine snil ?_
        obtain rfl := Option.some.inj h
        exact ⟨(n3, ((wI (s3.1 + 1)), (s3.2 ++ ([v5] : List GR05Reply)))), _, hk3, ⟨rfl, rfl, rfl, rfl, trivial⟩, rfl, Nat.lt_succ_self _⟩
      · replace h := ite_f hc h
        clear hc
        refine cexit ?_
        refine then_exit ?_
        refine then_exit ?_
        refine block_hit ?_
        refine then_normal ?_
        obtain rfl := Option.some.inj h
        obtain rfl : _ = x3 := hk3
        exact ⟨s3.2, _, ho3, ⟨rfl, rfl, trivial⟩, rfl⟩
  · skip
    refine cblock ?_
    obtain ⟨x8, hx8, ho8⟩ := bind_eq h
    refine awc_loop (G := Nat × (Int × (List GR05Req))) (fun g => [(1, .s (.one (.lp 0 0))), (2, .s (.one (.lp 1 0))), (3, .s (.one (.lp 2 0))), (4, .s (.one (.i .i64 g.2.1)))]) (fun g => [.box a0, .box [.i .i64 0, .i .u64 ((0#64).toNat : Int), .i .i64 0, .raw (.slice none 0 0), .raw (.slice none 0 0)], .box [.i .i64 a0.Win.Base, .i .u64 (a0.Win.Bits.toNat : Int), .i .i64 a0.Next, .ls 3 g.2.2.length, .raw (.slice none 0 0)], .arr 33 10 0 (g.2.2.flatMap eGR05Req)]) (fun g => iterB (m22_l16_theirs_s8 a0) g.1 g.2 = some x8) (fun g => g.1) (fuel, (0, ([] : List GR05Req))) hx8 ⟨rfl, rfl, rfl, rfl, trivial⟩ [] rfl (fun _ _ => inbL_of rfl) (fun _ _ => blkinb_of rfl) (fun _ _ => Nat.le_of_ble_eq_true rfl) ?_
    clear hx8 h
    rintro ⟨n8, s8⟩ h
    obtain ⟨n8, y8, rfl, h, hk8⟩ := iterB_eq h
    unfold m22_l16_theirs_s8 at h
    refine cseq ?_
    refine cseq ?_
    refine cregion ?_
    refine sv rfl (opv_mv rfl) ?_
    refine sv rfl (opv_fieldAddr_lp fi46_2 rfl) ?_
    refine sv rfl (opv_load1 ti43 rfl (.lp _ _ _ rfl) rfl) ?_
    refine sv rfl (opv_len_sl si43 rfl) ?_
    refine sv rfl (opv_lss rfl rfl) ?_
    refine snil ?_
    refine ccond rfl (fun hc => ?_) (fun hc => ?_)
    · replace h := ite_t hc h
      clear hc
      refine cskip ?_
      refine then_normal ?_
      refine cseq ?_
      refine cblock ?_
      obtain ⟨u9, hu9, h⟩ := bind_eq h
      obtain ⟨v10, hv10, h⟩ := bind_eq h
      obtain ⟨hb11, h⟩ := chk_eq h
      refine cdraw_e [9, 11] [0, 1, 0, 4, 0, 28, 60, 124, 252, 511, 1023, 2047] [[.box a0, .box [.i .i64 0, .i .u64 ((0#64).toNat : Int), .i .i64 0, .raw (.slice none 0 0), .raw (.slice none 0 0)], .box [.i .i64 a0.Win.Base, .i .u64 (a0.Win.Bits.toNat : Int), .i .i64 a0.Next, .ls 3 s8.2.length, .raw (.slice none 0 0)], .arr 33 10 0 (s8.2.flatMap eGR05Req)], [.box a0, .box [.i .i64 0, .i .u64 ((0#64).toNat : Int), .i .i64 0, .raw (.slice none 0 0), .raw (.slice none 0 0)], .box [.i .i64 a0.Win.Base, .i .u64 (a0.Win.Bits.toNat : Int), .i .i64 a0.Next, .ls 3 s8.2.length, .raw (.slice none 0 0)], .arr 33 10 0 ((s8.2 ++ ([(GR05Req.mk v10.Kind v10.Seq v10.Token v10.Attempt v10.RO v10.Key v10.Val (GApiRange.mk v10.Rng.Lo v10.Rng.Hi v10.Rng.Open))] : List GR05Req)).flatMap eGR05Req)], [.box a0, .box [.i .i64 0, .i .u64 ((0#64).toNat : Int), .i .i64 0, .raw (.slice none 0 0), .raw (.slice none 0 0)], .box [.i .i64 a0.Win.Base, .i .u64 (a0.Win.Bits.toNat : Int), .i .i64 a0.Next, .ls 3 (s8.2 ++ ([(GR05Req.mk v10.Kind v10.Seq v10.Token v10.Attempt v10.RO v10.Key v10.Val (GApiRange.mk v10.Rng.Lo v10.Rng.Hi v10.Rng.Open))] : List GR05Req)).length, .raw (.slice none 0 0)], .arr 33 10 0 ((s8.2 ++ ([(GR05Req.mk v10.Kind v10.Seq v10.Token v10.Attempt v10.RO v10.Key v10.Val (GApiRange.mk v10.Rng.Lo v10.Rng.Hi v10.Rng.Open))] : List GR05Req)).flatMap eGR05Req)]] (by kernel_rfl) mixed (by kernel_rfl) (by decide) rfl rfl rfl rfl ?_
      refine ev (sees_at 0 rfl rfl) rfl rfl (opv_fieldAddr_lp fi28_2 rfl) ?_
      refine ev (sees_at 0 rfl rfl) rfl rfl (opv_load1 ti25 rfl (.lp _ _ _ rfl) rfl) ?_
      refine ev (sees_at 0 rfl rfl) rfl rfl (opv_fieldAddr_lp fi46_2 rfl) ?_
      refine ev (sees_at 0 rfl rfl) rfl rfl (opv_load1 ti43 rfl (.lp _ _ _ rfl) rfl) ?_
      refine ev (sees_at 0 rfl rfl) rfl rfl (opv_mv rfl) ?_
      refine ev (sees_at 0 rfl rfl) rfl rfl (opv_ix (f := eGMsgReq) si43 (fun _ => rfl) rfl rfl rfl rfl hu9) ?_
      refine ev (sees_at 0 rfl rfl) rfl rfl (opv_loadNe (ys := [.i .i64 u9.Kind, .i .i64 u9.Seq, .i .i64 u9.Token, .i .i64 u9.Attempt, .b u9.RO, .sl u9.Key.length (u9.Key.flatMap eU8), .sl u9.Val.length (u9.Val.flatMap eU8), .sl u9.Rng.Lo.length (u9.Rng.Lo.flatMap eU8), .sl u9.Rng.Hi.length (u9.Rng.Hi.flatMap eU8), .b u9.Rng.Open]) ti51 rfl (.cp _) rfl rfl) ?_
      refine ed (sees_at 0 rfl rfl) rfl rfl (opD_call fn26 (opnds_cons rfl opnds_nil) rfl (m26_l16_asked_c hv10)) ?_
      refine ed (sees_at 0 rfl rfl) rfl rfl (opD_bld (out := ([(GR05Req.mk v10.Kind v10.Seq v10.Token v10.Attempt v10.RO v10.Key v10.Val (GApiRange.mk v10.Rng.Lo v10.Rng.Hi v10.Rng.Open))] : List GR05Req).flatMap eGR05Req) Tryd.underlying25 ei33 (parts_cons rfl parts_nil) (.cons _ _ _ _ _ _ _ rfl rfl (Nat.le_of_ble_eq_true rfl) (.nil _)) rfl (by decide)) ?_
      refine ee (x := .s (.one (.ls 3 (s8.2 ++ ([(GR05Req.mk v10.Kind v10.Seq v10.Token v10.Attempt v10.RO v10.Key v10.Val (GApiRange.mk v10.Rng.Lo v10.Rng.Hi v10.Rng.Open))] : List GR05Req)).length))) 0 rfl rfl rfl rfl rfl (fun ζ => ?_) ?_
      · refine sapp (f := eGR05Req) (xs := s8.2) (us := ([(GR05Req.mk v10.Kind v10.Seq v10.Token v10.Attempt v10.RO v10.Key v10.Val (GApiRange.mk v10.Rng.Lo v10.Rng.Hi v10.Rng.Open))] : List GR05Req)) rfl Tryd.underlying25 ei33 ni25 (fun _ => rfl) rfl rfl (.one _ _ _ _ (.id _ rfl)) rfl rfl rfl (.sl _ _ _ (flat_len (f := eGR05Req) (fun _ => rfl) _)) rfl rfl hb11 (by decide) ?_
        exact eend
      refine ev (sees_at 1 rfl rfl) rfl rfl (opv_fieldAddr_lp fi28_2 rfl) ?_
      refine ee0 1 rfl rfl rfl rfl (fun ζ => ?_) ?_
      · refine sstore sz25 rfl rfl rfl rfl (Nat.le_of_ble_eq_true rfl) ?_
        refine smem [.box a0, .box [.i .i64 0, .i .u64 ((0#64).toNat : Int), .i .i64 0, .raw (.slice none 0 0), .raw (.slice none 0 0)], .box [.i .i64 a0.Win.Base, .i .u64 (a0.Win.Bits.toNat : Int), .i .i64 a0.Next, .ls 3 (s8.2 ++ ([(GR05Req.mk v10.Kind v10.Seq v10.Token v10.Attempt v10.RO v10.Key v10.Val (GApiRange.mk v10.Rng.Lo v10.Rng.Hi v10.Rng.Open))] : List GR05Req)).length, .raw (.slice none 0 0)], .arr 33 10 0 ((s8.2 ++ ([(GR05Req.mk v10.Kind v10.Seq v10.Token v10.Attempt v10.RO v10.Key v10.Val (GApiRange.mk v10.Rng.Lo v10.Rng.Hi v10.Rng.Open))] : List GR05Req)).flatMap eGR05Req)] rfl ?_
        exact eend
      refine enil ?_
      refine block_normal ?_
      refine then_normal ?_
      refine cregion ?_
      refine sv rfl (opv_mv rfl) ?_
      refine sv rfl (opv_add rfl rfl) ?_
      refine sv rfl (opv_as rfl) ?_
      refine snil ?_
      obtain rfl := Option.some.inj h
      exact ⟨(n8, ((wI (s8.1 + 1)), (s8.2 ++ ([(GR05Req.mk v10.Kind v10.Seq v10.Token v10.Attempt v10.RO v10.Key v10.Val (GApiRange.mk v10.Rng.Lo v10.Rng.Hi v10.Rng.Open))] : List GR05Req)))), _, hk8, ⟨rfl, rfl, rfl, rfl, trivial⟩, rfl, Nat.lt_succ_self _⟩
    · replace h := ite_f hc h
      clear hc
      refine cexit ?_
      refine then_exit ?_
      refine then_exit ?_
      refine block_hit ?_
      refine then_normal ?_
      obtain rfl := Option.some.inj h
      obtain rfl : _ = x8 := hk8
      exact ⟨s8.2, _, ho8, ⟨rfl, rfl, rfl, trivial⟩, rfl⟩

def m25_r05_SameReq (a0 : GR05Req) (a1 : GR05Req) : Option Bool :=
  if (decide (a0.Kind = a1.Kind)) then (if (decide (a0.Seq = a1.Seq)) then (if (decide (a0.Token = a1.Token)) then (if (decide (a0.Attempt = a1.Attempt)) then (if (a0.RO == a1.RO) then (if (a0.Key == a1.Key) then (if (a0.Val == a1.Val) then (if (a0.Rng.Lo == a1.Rng.Lo) then (if (a0.Rng.Hi == a1.Rng.Hi) then (some (a0.Rng.Open == a1.Rng.Open)) else (some false)) else (some false)) else (some false)) else (some false)) else (some false)) else (some false)) else (some false)) else (some false)) else (some false)

set_option maxRecDepth 100000 in
theorem m25_r05_SameReq_c {a0 : GR05Req} {a1 : GR05Req} {r : Bool} (h : m25_r05_SameReq a0 a1 = some r) : CallsA Tryd.prog 25 [.agg a0, .agg a1] (· = .s (.one (.b r))) := by
  unfold m25_r05_SameReq at h
  refine callsA_of Tryd.func25 rfl (nt := 87) rfl (Nat.le_of_ble_eq_true rfl) ?_
  intro w0 S0
  refine cseq ?_
  refine cregion ?_
  refine sbox rfl rfl ?_
  refine sbox rfl rfl ?_
  refine sv rfl (opv_as rfl) ?_
  refine snil ?_
  refine cseq ?_
  refine cregion ?_
  refine sv rfl (opv_fieldAddr_lp fi33_0 rfl) ?_
  refine sv rfl (opv_load1 ti3 rfl (.lp _ _ _ rfl) rfl) ?_
  refine sv rfl (opv_fieldAddr_lp fi33_0 rfl) ?_
  refine sv rfl (opv_load1 ti3 rfl (.lp _ _ _ rfl) rfl) ?_
  refine sv rfl (opv_ieql rfl rfl) ?_
  refine sv rfl (opv_mv rfl) ?_
  refine ssplit 10 rfl (fun hc => ?_) (fun hc => ?_)
  · replace h := ite_t hc h
    clear hc
    refine son rfl rfl rfl ?_
    refine sv rfl (opv_fieldAddr_lp fi33_1 rfl) ?_
    refine son rfl rfl rfl ?_
    refine sv rfl (opv_load1 ti3 rfl (.lp _ _ _ rfl) rfl) ?_
    refine son rfl rfl rfl ?_
    refine sv rfl (opv_fieldAddr_lp fi33_1 rfl) ?_
    refine son rfl rfl rfl ?_
    refine sv rfl (opv_load1 ti3 rfl (.lp _ _ _ rfl) rfl) ?_
    refine son rfl rfl rfl ?_
    refine sv rfl (opv_ieql rfl rfl) ?_
    refine sv rfl (opv_pick_t rfl rfl) ?_
    refine sv rfl (opv_mv rfl) ?_
    refine ssplit 17 rfl (fun hc => ?_) (fun hc => ?_)
    · replace h := ite_t hc h
      clear hc
      refine son rfl rfl rfl ?_
      refine sv rfl (opv_fieldAddr_lp fi33_2 rfl) ?_
      refine son rfl rfl rfl ?_
      refine sv rfl (opv_load1 ti3 rfl (.lp _ _ _ rfl) rfl) ?_
      refine son rfl rfl rfl ?_
      refine sv rfl (opv_fieldAddr_lp fi33_2 rfl) ?_
      refine son rfl rfl rfl ?_
      refine sv rfl (opv_load1 ti3 rfl (.lp _ _ _ rfl) rfl) ?_
      refine son rfl rfl rfl ?_
      refine sv rfl (opv_ieql rfl rfl) ?_
      refine sv rfl (opv_pick_t rfl rfl) ?_
      refine sv rfl (opv_mv rfl) ?_
      refine ssplit 24 rfl (fun hc => ?_) (fun hc => ?_)
      · replace h := ite_t hc h
        clear hc
        refine son rfl rfl rfl ?_
        refine sv rfl (opv_fieldAddr_lp fi33_3 rfl) ?_
        refine son rfl rfl rfl ?_
        refine sv rfl (opv_load1 ti3 rfl (.lp _ _ _ rfl) rfl) ?_
        refine son rfl rfl rfl ?_
        refine sv rfl (opv_fieldAddr_lp fi33_3 rfl) ?_
        refine son rfl rfl rfl ?_
        refine sv rfl (opv_load1 ti3 rfl (.lp _ _ _ rfl) rfl) ?_
        refine son rfl rfl rfl ?_
        refine sv rfl (opv_ieql rfl rfl) ?_
        refine sv rfl (opv_pick_t rfl rfl) ?_
        refine sv rfl (opv_mv rfl) ?_
        refine ssplit 31 rfl (fun hc => ?_) (fun hc => ?_)
        · replace h := ite_t hc h
          clear hc
          refine son rfl rfl rfl ?_
          refine sv rfl (opv_fieldAddr_lp fi33_4 rfl) ?_
          refine son rfl rfl rfl ?_
          refine sv rfl (opv_load1 ti4 rfl (.lp _ _ _ rfl) rfl) ?_
          refine son rfl rfl rfl ?_
          refine sv rfl (opv_fieldAddr_lp fi33_4 rfl) ?_
          refine son rfl rfl rfl ?_
          refine sv rfl (opv_load1 ti4 rfl (.lp _ _ _ rfl) rfl) ?_
          refine son rfl rfl rfl ?_
          refine sv rfl (opv_beql Tryd.underlying4 rfl rfl) ?_
          refine sv rfl (opv_pick_t rfl rfl) ?_
          refine sv rfl (opv_mv rfl) ?_
          refine ssplit 38 rfl (fun hc => ?_) (fun hc => ?_)
          · replace h := ite_t hc h
            clear hc
            refine son rfl rfl rfl ?_
            refine sv rfl (opv_fieldAddr_lp fi33_5 rfl) ?_
            refine son rfl rfl rfl ?_
            refine sv rfl (opv_load1 ti29 rfl (.lp _ _ _ rfl) rfl) ?_
            refine son rfl rfl rfl ?_
            refine sv rfl (opv_bs (l := a0.Key) Tryd.underlying29 Tryd.underlying5 Tryd.underlying9 rfl rfl rfl) ?_
            refine son rfl rfl rfl ?_
            refine sv rfl (opv_fieldAddr_lp fi33_5 rfl) ?_
            refine son rfl rfl rfl ?_
            refine sv rfl (opv_load1 ti29 rfl (.lp _ _ _ rfl) rfl) ?_
            refine son rfl rfl rfl ?_
            refine sv rfl (opv_bs (l := a1.Key) Tryd.underlying29 Tryd.underlying5 Tryd.underlying9 rfl rfl rfl) ?_
            refine son rfl rfl rfl ?_
            refine sv rfl (opv_seql' rfl rfl) ?_
            refine sv rfl (opv_pick_t rfl rfl) ?_
            refine sv rfl (opv_mv rfl) ?_
            refine ssplit 47 rfl (fun hc => ?_) (fun hc => ?_)
            · replace h := ite_t hc h
              clear hc
              refine son rfl rfl rfl ?_
              refine sv rfl (opv_fieldAddr_lp fi33_6 rfl) ?_
              refine son rfl rfl rfl ?_
              refine sv rfl (opv_load1 ti29 rfl (.lp _ _ _ rfl) rfl) ?_
              refine son rfl rfl rfl ?_
              refine sv rfl (opv_bs (l := a0.Val) Tryd.underlying29 Tryd.underlying5 Tryd.underlying9 rfl rfl rfl) ?_
              refine son rfl rfl rfl ?_
              refine sv rfl (opv_fieldAddr_lp fi33_6 rfl) ?_
              refine son rfl rfl rfl ?_
              refine sv rfl (opv_load1 ti29 rfl (.lp _ _ _ rfl) rfl) ?_
              refine son rfl rfl rfl ?_
              refine sv rfl (opv_bs (l := a1.Val) Tryd.underlying29 Tryd.underlying5 Tryd.underlying9 rfl rfl rfl) ?_
              refine son rfl rfl rfl ?_
              refine sv rfl (opv_seql' rfl rfl) ?_
              refine sv rfl (opv_pick_t rfl rfl) ?_
              refine sv rfl (opv_mv rfl) ?_
              refine ssplit 56 rfl (fun hc => ?_) (fun hc => ?_)
              · replace h := ite_t hc h
                clear hc
                refine son rfl rfl rfl ?_
                refine sv rfl (opv_fieldAddr_lp fi33_7 rfl) ?_
                refine son rfl rfl rfl ?_
                refine sv rfl (opv_fieldAddr_lp fi31_0 rfl) ?_
                refine son rfl rfl rfl ?_
                refine sv rfl (opv_load1 ti29 rfl (.lp _ _ _ rfl) rfl) ?_
                refine son rfl rfl rfl ?_
                refine sv rfl (opv_bs (l := a0.Rng.Lo) Tryd.underlying29 Tryd.underlying5 Tryd.underlying9 rfl rfl rfl) ?_
                refine son rfl rfl rfl ?_
                refine sv rfl (opv_fieldAddr_lp fi33_7 rfl) ?_
                refine son rfl rfl rfl ?_
                refine sv rfl (opv_fieldAddr_lp fi31_0 rfl) ?_
                refine son rfl rfl rfl ?_
                refine sv rfl (opv_load1 ti29 rfl (.lp _ _ _ rfl) rfl) ?_
                refine son rfl rfl rfl ?_
                refine sv rfl (opv_bs (l := a1.Rng.Lo) Tryd.underlying29 Tryd.underlying5 Tryd.underlying9 rfl rfl rfl) ?_
                refine son rfl rfl rfl ?_
                refine sv rfl (opv_seql' rfl rfl) ?_
                refine sv rfl (opv_pick_t rfl rfl) ?_
                refine sv rfl (opv_mv rfl) ?_
                refine ssplit 67 rfl (fun hc => ?_) (fun hc => ?_)
                · replace h := ite_t hc h
                  clear hc
                  refine son rfl rfl rfl ?_
                  refine sv rfl (opv_fieldAddr_lp fi33_7 rfl) ?_
                  refine son rfl rfl rfl ?_
                  refine sv rfl (opv_fieldAddr_lp fi31_1 rfl) ?_
                  refine son rfl rfl rfl ?_
                  refine sv rfl (opv_load1 ti29 rfl (.lp _ _ _ rfl) rfl) ?_
                  refine son rfl rfl rfl ?_
                  refine sv rfl (opv_bs (l := a0.Rng.Hi) Tryd.underlying29 Tryd.underlying5 Tryd.underlying9 rfl rfl rfl) ?_
                  refine son rfl rfl rfl ?_
                  refine sv rfl (opv_fieldAddr_lp fi33_7 rfl) ?_
                  refine son rfl rfl rfl ?_
                  refine sv rfl (opv_fieldAddr_lp fi31_1 rfl) ?_
                  refine son rfl rfl rfl ?_
                  refine sv rfl (opv_load1 ti29 rfl (.lp _ _ _ rfl) rfl) ?_
                  refine son rfl rfl rfl ?_
                  refine sv rfl (opv_bs (l := a1.Rng.Hi) Tryd.underlying29 Tryd.underlying5 Tryd.underlying9 rfl rfl rfl) ?_
                  refine son rfl rfl rfl ?_
                  refine sv rfl (opv_seql' rfl rfl) ?_
                  refine sv rfl (opv_pick_t rfl rfl) ?_
                  refine sv rfl (opv_mv rfl) ?_
                  refine ssplit 78 rfl (fun hc => ?_) (fun hc => ?_)
                  · replace h := ite_t hc h
                    clear hc
                    refine son rfl rfl rfl ?_
                    refine sv rfl (opv_fieldAddr_lp fi33_7 rfl) ?_
                    refine son rfl rfl rfl ?_
                    refine sv rfl (opv_fieldAddr_lp fi31_2 rfl) ?_
                    refine son rfl rfl rfl ?_
                    refine sv rfl (opv_load1 ti4 rfl (.lp _ _ _ rfl) rfl) ?_
                    refine son rfl rfl rfl ?_
                    refine sv rfl (opv_fieldAddr_lp fi33_7 rfl) ?_
                    refine son rfl rfl rfl ?_
                    refine sv rfl (opv_fieldAddr_lp fi31_2 rfl) ?_
                    refine son rfl rfl rfl ?_
                    refine sv rfl (opv_load1 ti4 rfl (.lp _ _ _ rfl) rfl) ?_
                    refine son rfl rfl rfl ?_
                    refine sv rfl (opv_beql Tryd.underlying4 rfl rfl) ?_
                    refine sv rfl (opv_pick_t rfl rfl) ?_
                    refine sv rfl (opv_as rfl) ?_
                    refine snil ?_
                    refine cret ?_
                    obtain rfl := Option.some.inj h
                    refine ⟨Or.inr rfl, _, _, _, (resVs_cons (ResV.tmp _ _ rfl) resVs_nil), (pubA_id rfl), ?_⟩
                    rfl
                  · replace h := ite_f hc h
                    clear hc
                    refine soff rfl rfl rfl rfl ?_
                    refine soff rfl rfl rfl rfl ?_
                    refine soff rfl rfl rfl rfl ?_
                    refine soff rfl rfl rfl rfl ?_
                    refine soff rfl rfl rfl rfl ?_
                    refine soff rfl rfl rfl rfl ?_
                    refine soff rfl rfl rfl rfl ?_
                    refine sv rfl (opv_pick_f rfl rfl) ?_
                    refine sv rfl (opv_as rfl) ?_
                    refine snil ?_
                    refine cret ?_
                    obtain rfl := Option.some.inj h
                    refine ⟨Or.inr rfl, _, _, _, (resVs_cons (ResV.tmp _ _ rfl) resVs_nil), (pubA_id rfl), ?_⟩
                    rfl
                · replace h := ite_f hc h
                  clear hc
                  refine soff rfl rfl rfl rfl ?_
                  refine soff rfl rfl rfl rfl ?_
                  refine soff rfl rfl rfl rfl ?_
                  refine soff rfl rfl rfl rfl ?_
                  refine soff rfl rfl rfl rfl ?_
                  refine soff rfl rfl rfl rfl ?_
                  refine soff rfl rfl rfl rfl ?_
                  refine soff rfl rfl rfl rfl ?_
                  refine soff rfl rfl rfl rfl ?_
                  refine sv rfl (opv_pick_f rfl rfl) ?_
                  refine sv rfl (opv_mv rfl) ?_
                  refine soff rfl rfl rfl rfl ?_
                  refine soff rfl rfl rfl rfl ?_
                  refine soff rfl rfl rfl rfl ?_
                  refine soff rfl rfl rfl rfl ?_
                  refine soff rfl rfl rfl rfl ?_
                  refine soff rfl rfl rfl rfl ?_
                  refine soff rfl rfl rfl rfl ?_
                  refine sv rfl (opv_pick_f rfl rfl) ?_
                  refine sv rfl (opv_as rfl) ?_
                  refine snil ?_
                  refine cret ?_
                  obtain rfl := Option.some.inj h
                  refine ⟨Or.inr rfl, _, _, _, (resVs_cons (ResV.tmp _ _ rfl) resVs_nil), (pubA_id rfl), ?_⟩
                  rfl
              · replace h := ite_f hc h
                clear hc
                refine soff rfl rfl rfl rfl ?_
                refine soff rfl rfl rfl rfl ?_
                refine soff rfl rfl rfl rfl ?_
                refine soff rfl rfl rfl rfl ?_
                refine soff rfl rfl rfl rfl ?_
                refine soff rfl rfl rfl rfl ?_
                refine soff rfl rfl rfl rfl ?_
                refine soff rfl rfl rfl rfl ?_
                refine soff rfl rfl rfl rfl ?_
                refine sv rfl (opv_pick_f rfl rfl) ?_
                refine sv rfl (opv_mv rfl) ?_
                refine soff rfl rfl rfl rfl ?_
                refine soff rfl rfl rfl rfl ?_
                refine soff rfl rfl rfl rfl ?_
                refine soff rfl rfl rfl rfl ?_
                refine soff rfl rfl rfl rfl ?_
                refine soff rfl rfl rfl rfl ?_
                refine soff rfl rfl rfl rfl ?_
                refine soff rfl rfl rfl rfl ?_
                refine soff rfl rfl rfl rfl ?_
                refine sv rfl (opv_pick_f rfl rfl) ?_
                refine sv rfl (opv_mv rfl) ?_
                refine soff rfl rfl rfl rfl ?_
                refine soff rfl rfl rfl rfl ?_
                refine soff rfl rfl rfl rfl ?_
                refine soff rfl rfl rfl rfl ?_
                refine soff rfl rfl rfl rfl ?_
                refine soff rfl rfl rfl rfl ?_
                refine soff rfl rfl rfl rfl ?_
                refine sv rfl (opv_pick_f rfl rfl) ?_
                refine sv rfl (opv_as rfl) ?_
                refine snil ?_
                refine cret ?_
                obtain rfl := Option.some.inj h
                refine ⟨Or.inr rfl, _, _, _, (resVs_cons (ResV.tmp _ _ rfl) resVs_nil), (pubA_id rfl), ?_⟩
                rfl
            · replace h := ite_f hc h
              clear hc
              refine soff rfl rfl rfl rfl ?_
              refine soff rfl rfl rfl rfl ?_
              refine soff rfl rfl rfl rfl ?_
              refine soff rfl rfl rfl rfl ?_
              refine soff rfl rfl rfl rfl ?_
              refine soff rfl rfl rfl rfl ?_
              refine soff rfl rfl rfl rfl ?_
              refine sv rfl (opv_pick_f rfl rfl) ?_
              refine sv rfl (opv_mv rfl) ?_
              refine soff rfl rfl rfl rfl ?_
              refine soff rfl rfl rfl rfl ?_
              refine soff rfl rfl rfl rfl ?_
              refine soff rfl rfl rfl rfl ?_
              refine soff rfl rfl rfl rfl ?_
              refine soff rfl rfl rfl rfl ?_
              refine soff rfl rfl rfl rfl ?_
              refine soff rfl rfl rfl rfl ?_
              refine soff rfl rfl rfl rfl ?_
              refine sv rfl (opv_pick_f rfl rfl) ?_
              refine sv rfl (opv_mv rfl) ?_
              refine soff rfl rfl rfl rfl ?_
              refine soff rfl rfl rfl rfl ?_
              refine soff rfl rfl rfl rfl ?_
              refine soff rfl rfl rfl rfl ?_
              refine soff rfl rfl rfl rfl ?_
              refine soff rfl rfl rfl rfl ?_
              refine soff rfl rfl rfl rfl ?_
              refine soff rfl rfl rfl rfl ?_
              refine soff rfl rfl rfl rfl ?_
              refine sv rfl (opv_pick_f rfl rfl) ?_
              refine sv rfl (opv_mv rfl) ?_
              refine soff rfl rfl rfl rfl ?_
              refine soff rfl rfl rfl rfl ?_
              refine soff rfl rfl rfl rfl ?_
              refine soff rfl rfl rfl rfl ?_
              refine soff rfl rfl rfl rfl ?_
              refine soff rfl rfl rfl rfl ?_
              refine soff rfl rfl rfl rfl ?_
              refine sv rfl (opv_pick_f rfl rfl) ?_
              refine sv rfl (opv_as rfl) ?_
              refine snil ?_
              refine cret ?_
              obtain rfl := Option.some.inj h
              refine ⟨Or.inr rfl, _, _, _, (resVs_cons (ResV.tmp _ _ rfl) resVs_nil), (pubA_id rfl), ?_⟩
              rfl
          · replace h := ite_f hc h
            clear hc
            refine soff rfl rfl rfl rfl ?_
            refine soff rfl rfl rfl rfl ?_
            refine soff rfl rfl rfl rfl ?_
            refine soff rfl rfl rfl rfl ?_
            refine soff rfl rfl rfl rfl ?_
            refine soff rfl rfl rfl rfl ?_
            refine soff rfl rfl rfl rfl ?_
            refine sv rfl (opv_pick_f rfl rfl) ?_
            refine sv rfl (opv_mv rfl) ?_
            refine soff rfl rfl rfl rfl ?_
            refine soff rfl rfl rfl rfl ?_
            refine soff rfl rfl rfl rfl ?_
            refine soff rfl rfl rfl rfl ?_
            refine soff rfl rfl rfl rfl ?_
            refine soff rfl rfl rfl rfl ?_
            refine soff rfl rfl rfl rfl ?_
            refine sv rfl (opv_pick_f rfl rfl) ?_
            refine sv rfl (opv_mv rfl) ?_
            refine soff rfl rfl rfl rfl ?_
            refine soff rfl rfl rfl rfl ?_
            refine soff rfl rfl rfl rfl ?_
            refine soff rfl rfl rfl rfl ?_
            refine soff rfl rfl rfl rfl ?_
            refine soff rfl rfl rfl rfl ?_
            refine soff rfl rfl rfl rfl ?_
            refine soff rfl rfl rfl rfl ?_
            refine soff rfl rfl rfl rfl ?_
            refine sv rfl (opv_pick_f rfl rfl) ?_
            refine sv rfl (opv_mv rfl) ?_
            refine soff rfl rfl rfl rfl ?_
            refine soff rfl rfl rfl rfl ?_
            refine soff rfl rfl rfl rfl ?_
            refine soff rfl rfl rfl rfl ?_
            refine soff rfl rfl rfl rfl ?_
            refine soff rfl rfl rfl rfl ?_
            refine soff rfl rfl rfl rfl ?_
            refine soff rfl rfl rfl rfl ?_
            refine soff rfl rfl rfl rfl ?_
            refine sv rfl (opv_pick_f rfl rfl) ?_
            refine sv rfl (opv_mv rfl) ?_
            refine soff rfl rfl rfl rfl ?_
            refine soff rfl rfl rfl rfl ?_
            refine soff rfl rfl rfl rfl ?_
            refine soff rfl rfl rfl rfl ?_
            refine soff rfl rfl rfl rfl ?_
            refine soff rfl rfl rfl rfl ?_
            refine soff rfl rfl rfl rfl ?_
            refine sv rfl (opv_pick_f rfl rfl) ?_
            refine sv rfl (opv_as rfl) ?_
            refine snil ?_
            refine cret ?_
            obtain rfl := Option.some.inj h
            refine ⟨Or.inr rfl, _, _, _, (resVs_cons (ResV.tmp _ _ rfl) resVs_nil), (pubA_id rfl), ?_⟩
            rfl
        · replace h := ite_f hc h
          clear hc
          refine soff rfl rfl rfl rfl ?_
          refine soff rfl rfl rfl rfl ?_
          refine soff rfl rfl rfl rfl ?_
          refine soff rfl rfl rfl rfl ?_
          refine soff rfl rfl rfl rfl ?_
          refine sv rfl (opv_pick_f rfl rfl) ?_
          refine sv rfl (opv_mv rfl) ?_
          refine soff rfl rfl rfl rfl ?_
          refine soff rfl rfl rfl rfl ?_
          refine soff rfl rfl rfl rfl ?_
          refine soff rfl rfl rfl rfl ?_
          refine soff rfl rfl rfl rfl ?_
          refine soff rfl rfl rfl rfl ?_
          refine soff rfl rfl rfl rfl ?_
          refine sv rfl (opv_pick_f rfl rfl) ?_
          refine sv rfl (opv_mv rfl) ?_
          refine soff rfl rfl rfl rfl ?_
          refine soff rfl rfl rfl rfl ?_
          refine soff rfl rfl rfl rfl ?_
          refine soff rfl rfl rfl rfl ?_
          refine soff rfl rfl rfl rfl ?_
          refine soff rfl rfl rfl rfl ?_
          refine soff rfl rfl rfl rfl ?_
          refine sv rfl (opv_pick_f rfl rfl) ?_
          refine sv rfl (opv_mv rfl) ?_
          refine soff rfl rfl rfl rfl ?_
          refine soff rfl rfl rfl rfl ?_
          refine soff rfl rfl rfl rfl ?_
          refine soff rfl rfl rfl rfl ?_
          refine soff rfl rfl rfl rfl ?_
          refine soff rfl rfl rfl rfl ?_
          refine soff rfl rfl rfl rfl ?_
          refine soff rfl rfl rfl rfl ?_
          refine soff rfl rfl rfl rfl ?_
          refine sv rfl (opv_pick_f rfl rfl) ?_
          refine sv rfl (opv_mv rfl) ?_
          refine soff rfl rfl rfl rfl ?_
          refine soff rfl rfl rfl rfl ?_
          refine soff rfl rfl rfl rfl ?_
          refine soff rfl rfl rfl rfl ?_
          refine soff rfl rfl rfl rfl ?_
          refine soff rfl rfl rfl rfl ?_
          refine soff rfl rfl rfl rfl ?_
          refine soff rfl rfl rfl rfl ?_
          refine soff rfl rfl rfl rfl ?_
          refine sv rfl (opv_pick_f rfl rfl) ?_
          refine sv rfl (opv_mv rfl) ?_
          refine soff rfl rfl rfl rfl ?_
          refine soff rfl rfl rfl rfl ?_
          refine soff rfl rfl rfl rfl ?_
          refine soff rfl rfl rfl rfl ?_
          refine soff rfl rfl rfl rfl ?_
          refine soff rfl rfl rfl rfl ?_
          refine soff rfl rfl rfl rfl ?_
          refine sv rfl (opv_pick_f rfl rfl) ?_
          refine sv rfl (opv_as rfl) ?_
          refine snil ?_
          refine cret ?_
          obtain rfl := Option.some.inj h
          refine ⟨Or.inr rfl, _, _, _, (resVs_cons (ResV.tmp _ _ rfl) resVs_nil), (pubA_id rfl), ?_⟩
          rfl
      · replace h := ite_f hc h
        clear hc
        refine soff rfl rfl rfl rfl ?_
        refine soff rfl rfl rfl rfl ?_
        refine soff rfl rfl rfl rfl ?_
        refine soff rfl rfl rfl rfl ?_
        refine soff rfl rfl rfl rfl ?_
        refine sv rfl (opv_pick_f rfl rfl) ?_
        refine sv rfl (opv_mv rfl) ?_
        refine soff rfl rfl rfl rfl ?_
        refine soff rfl rfl rfl rfl ?_
        refine soff rfl rfl rfl rfl ?_
        refine soff rfl rfl rfl rfl ?_
        refine soff rfl rfl rfl rfl ?_
        refine sv rfl (opv_pick_f rfl rfl) ?_
        refine sv rfl (opv_mv rfl) ?_
        refine soff rfl rfl rfl rfl ?_
        refine soff rfl rfl rfl rfl ?_
        refine soff rfl rfl rfl rfl ?_
        refine soff rfl rfl rfl rfl ?_
        refine soff rfl rfl rfl rfl ?_
        refine soff rfl rfl rfl rfl ?_
        refine soff rfl rfl rfl rfl ?_
        refine sv rfl (opv_pick_f rfl rfl) ?_
        refine sv rfl (opv_mv rfl) ?_
        refine soff rfl rfl rfl rfl ?_
        refine soff rfl rfl rfl rfl ?_
        refine soff rfl rfl rfl rfl ?_
        refine soff rfl rfl rfl rfl ?_
        refine soff rfl rfl rfl rfl ?_
        refine soff rfl rfl rfl rfl ?_
        refine soff rfl rfl rfl rfl ?_
        refine sv rfl (opv_pick_f rfl rfl) ?_
        refine sv rfl (opv_mv rfl) ?_
        refine soff rfl rfl rfl rfl ?_
        refine soff rfl rfl rfl rfl ?_
        refine soff rfl rfl rfl rfl ?_
        refine soff rfl rfl rfl rfl ?_
        refine soff rfl rfl rfl rfl ?_
        refine soff rfl rfl rfl rfl ?_
        refine soff rfl rfl rfl rfl ?_
        refine soff rfl rfl rfl rfl ?_
        refine soff rfl rfl rfl rfl ?_
        refine sv rfl (opv_pick_f rfl rfl) ?_
        refine sv rfl (opv_mv rfl) ?_
        refine soff rfl rfl rfl rfl ?_
        refine soff rfl rfl rfl rfl ?_
        refine soff rfl rfl rfl rfl ?_
        refine soff rfl rfl rfl rfl ?_
        refine soff rfl rfl rfl rfl ?_
        refine soff rfl rfl rfl rfl ?_
        refine soff rfl rfl rfl rfl ?_
        refine soff rfl rfl rfl rfl ?_
        refine soff rfl rfl rfl rfl ?_
        refine sv rfl (opv_pick_f rfl rfl) ?_
        refine sv rfl (opv_mv rfl) ?_
        refine soff rfl rfl rfl rfl ?_
        refine soff rfl rfl rfl rfl ?_
        refine soff rfl rfl rfl rfl ?_
        refine soff rfl rfl rfl rfl ?_
        refine soff rfl rfl rfl rfl ?_
        refine soff rfl rfl rfl rfl ?_
        refine soff rfl rfl rfl rfl ?_
        refine sv rfl (opv_pick_f rfl rfl) ?_
        refine sv rfl (opv_as rfl) ?_
        refine snil ?_
        refine cret ?_
        obtain rfl := Option.some.inj h
        refine ⟨Or.inr rfl, _, _, _, (resVs_cons (ResV.tmp _ _ rfl) resVs_nil), (pubA_id rfl), ?_⟩
        rfl
    · replace h := ite_f hc h
      clear hc
      refine soff rfl rfl rfl rfl ?_
      refine soff rfl rfl rfl rfl ?_
      refine soff rfl rfl rfl rfl ?_
      refine soff rfl rfl rfl rfl ?_
      refine soff rfl rfl rfl rfl ?_
      refine sv rfl (opv_pick_f rfl rfl) ?_
      refine sv rfl (opv_mv rfl) ?_
      refine soff rfl rfl rfl rfl ?_
      refine soff rfl rfl rfl rfl ?_
      refine soff rfl rfl rfl rfl ?_
      refine soff rfl rfl rfl rfl ?_
      refine soff rfl rfl rfl rfl ?_
      refine sv rfl (opv_pick_f rfl rfl) ?_
      refine sv rfl (opv_mv rfl) ?_
      refine soff rfl rfl rfl rfl ?_
      refine soff rfl rfl rfl rfl ?_
      refine soff rfl rfl rfl rfl ?_
      refine soff rfl rfl rfl rfl ?_
      refine soff rfl rfl rfl rfl ?_
      refine sv rfl (opv_pick_f rfl rfl) ?_
      refine sv rfl (opv_mv rfl) ?_
      refine soff rfl rfl rfl rfl ?_
      refine soff rfl rfl rfl rfl ?_
      refine soff rfl rfl rfl rfl ?_
      refine soff rfl rfl rfl rfl ?_
      refine soff rfl rfl rfl rfl ?_
      refine soff rfl rfl rfl rfl ?_
      refine soff rfl rfl rfl rfl ?_
      refine sv rfl (opv_pick_f rfl rfl) ?_
      refine sv rfl (opv_mv rfl) ?_
      refine soff rfl rfl rfl rfl ?_
      refine soff rfl rfl rfl rfl ?_
      refine soff rfl rfl rfl rfl ?_
      refine soff rfl rfl rfl rfl ?_
      refine soff rfl rfl rfl rfl ?_
      refine soff rfl rfl rfl rfl ?_
      refine soff rfl rfl rfl rfl ?_
      refine sv rfl (opv_pick_f rfl rfl) ?_
      refine sv rfl (opv_mv rfl) ?_
      refine soff rfl rfl rfl rfl ?_
      refine soff rfl rfl rfl rfl ?_
      refine soff rfl rfl rfl rfl ?_
      refine soff rfl rfl rfl rfl ?_
      refine soff rfl rfl rfl rfl ?_
      refine soff rfl rfl rfl rfl ?_
      refine soff rfl rfl rfl rfl ?_
      refine soff rfl rfl rfl rfl ?_
      refine soff rfl rfl rfl rfl ?_
      refine sv rfl (opv_pick_f rfl rfl) ?_
      refine sv rfl (opv_mv rfl) ?_
      refine soff rfl rfl rfl rfl ?_
      refine soff rfl rfl rfl rfl ?_
      refine soff rfl rfl rfl rfl ?_
      refine soff rfl rfl rfl rfl ?_
      refine soff rfl rfl rfl rfl ?_
      refine soff rfl rfl rfl rfl ?_
      refine soff rfl rfl rfl rfl ?_
      refine soff rfl rfl rfl rfl ?_
      refine soff rfl rfl rfl rfl ?_
      refine sv rfl (opv_pick_f rfl rfl) ?_
      refine sv rfl (opv_mv rfl) ?_
      refine soff rfl rfl rfl rfl ?_
      refine soff rfl rfl rfl rfl ?_
      refine soff rfl rfl rfl rfl ?_
      refine soff rfl rfl rfl rfl ?_
      refine soff rfl rfl rfl rfl ?_
      refine soff rfl rfl rfl rfl ?_
      refine soff rfl rfl rfl rfl ?_
      refine sv rfl (opv_pick_f rfl rfl) ?_
      refine sv rfl (opv_as rfl) ?_
      refine snil ?_
      refine cret ?_
      obtain rfl := Option.some.inj h
      refine ⟨Or.inr rfl, _, _, _, (resVs_cons (ResV.tmp _ _ rfl) resVs_nil), (pubA_id rfl), ?_⟩
      rfl
  · replace h := ite_f hc h
    clear hc
    refine soff rfl rfl rfl rfl ?_
    refine soff rfl rfl rfl rfl ?_
    refine soff rfl rfl rfl rfl ?_
    refine soff rfl rfl rfl rfl ?_
    refine soff rfl rfl rfl rfl ?_
    refine sv rfl (opv_pick_f rfl rfl) ?_
    refine sv rfl (opv_mv rfl) ?_
    refine soff rfl rfl rfl rfl ?_
    refine soff rfl rfl rfl rfl ?_
    refine soff rfl rfl rfl rfl ?_
    refine soff rfl rfl rfl rfl ?_
    refine soff rfl rfl rfl rfl ?_
    refine sv rfl (opv_pick_f rfl rfl) ?_
    refine sv rfl (opv_mv rfl) ?_
    refine soff rfl rfl rfl rfl ?_
    refine soff rfl rfl rfl rfl ?_
    refine soff rfl rfl rfl rfl ?_
    refine soff rfl rfl rfl rfl ?_
    refine soff rfl rfl rfl rfl ?_
    refine sv rfl (opv_pick_f rfl rfl) ?_
    refine sv rfl (opv_mv rfl) ?_
    refine soff rfl rfl rfl rfl ?_
    refine soff rfl rfl rfl rfl ?_
    refine soff rfl rfl rfl rfl ?_
    refine soff rfl rfl rfl rfl ?_
    refine soff rfl rfl rfl rfl ?_
    refine sv rfl (opv_pick_f rfl rfl) ?_
    refine sv rfl (opv_mv rfl) ?_
    refine soff rfl rfl rfl rfl ?_
    refine soff rfl rfl rfl rfl ?_
    refine soff rfl rfl rfl rfl ?_
    refine soff rfl rfl rfl rfl ?_
    refine soff rfl rfl rfl rfl ?_
    refine soff rfl rfl rfl rfl ?_
    refine soff rfl rfl rfl rfl ?_
    refine sv rfl (opv_pick_f rfl rfl) ?_
    refine sv rfl (opv_mv rfl) ?_
    refine soff rfl rfl rfl rfl ?_
    refine soff rfl rfl rfl rfl ?_
    refine soff rfl rfl rfl rfl ?_
    refine soff rfl rfl rfl rfl ?_
    refine soff rfl rfl rfl rfl ?_
    refine soff rfl rfl rfl rfl ?_
    refine soff rfl rfl rfl rfl ?_
    refine sv rfl (opv_pick_f rfl rfl) ?_
    refine sv rfl (opv_mv rfl) ?_
    refine soff rfl rfl rfl rfl ?_
    refine soff rfl rfl rfl rfl ?_
    refine soff rfl rfl rfl rfl ?_
    refine soff rfl rfl rfl rfl ?_
    refine soff rfl rfl rfl rfl ?_
    refine soff rfl rfl rfl rfl ?_
    refine soff rfl rfl rfl rfl ?_
    refine soff rfl rfl rfl rfl ?_
    refine soff rfl rfl rfl rfl ?_
    refine sv rfl (opv_pick_f rfl rfl) ?_
    refine sv rfl (opv_mv rfl) ?_
    refine soff rfl rfl rfl rfl ?_
    refine soff rfl rfl rfl rfl ?_
    refine soff rfl rfl rfl rfl ?_
    refine soff rfl rfl rfl rfl ?_
    refine soff rfl rfl rfl rfl ?_
    refine soff rfl rfl rfl rfl ?_
    refine soff rfl rfl rfl rfl ?_
    refine soff rfl rfl rfl rfl ?_
    refine soff rfl rfl rfl rfl ?_
    refine sv rfl (opv_pick_f rfl rfl) ?_
    refine sv rfl (opv_mv rfl) ?_
    refine soff rfl rfl rfl rfl ?_
    refine soff rfl rfl rfl rfl ?_
    refine soff rfl rfl rfl rfl ?_
    refine soff rfl rfl rfl rfl ?_
    refine soff rfl rfl rfl rfl ?_
    refine soff rfl rfl rfl rfl ?_
    refine soff rfl rfl rfl rfl ?_
    refine sv rfl (opv_pick_f rfl rfl) ?_
    refine sv rfl (opv_as rfl) ?_
    refine snil ?_
    refine cret ?_
    obtain rfl := Option.some.inj h
    refine ⟨Or.inr rfl, _, _, _, (resVs_cons (ResV.tmp _ _ rfl) resVs_nil), (pubA_id rfl), ?_⟩
    rfl

def m42_r05_KVs_k1 (b1 : Unit) : Option Bool :=
  some true

def m42_r05_KVs_s2 (a0 : List GApiKV) (a1 : List GApiKV) (s2 : Int) : Option (LR (Int) (Unit) (Bool)) :=
  if (decide (s2 < (a0.length : Int))) then ((idx a0 s2).bind fun u3 => (idx a1 s2).bind fun u4 => if (!(u3.Key == u4.Key)) then (some (.ret false)) else ((idx a0 s2).bind fun u5 => (idx a1 s2).bind fun u6 => if (!(u5.Val == u6.Val)) then (some (.ret false)) else (some (.cont (wI (s2 + 1)))))) else (some (.brk ()))
def m42_r05_KVs (a0 : List GApiKV) (a1 : List GApiKV) : Option Bool :=
  if (!decide ((a0.length : Int) = (a1.length : Int))) then (some false) else ((iter (m42_r05_KVs_s2 a0 a1) fuel 0).bind fun x => match x with | .inl r => some r | .inr e7 => m42_r05_KVs_k1 e7)

set_option maxRecDepth 100000 in
theorem m42_r05_KVs_c {a0 : List GApiKV} {a1 : List GApiKV} {r : Bool} (h : m42_r05_KVs a0 a1 = some r) : CallsA Tryd.prog 42 [.one (.sl a0.length (a0.flatMap eGApiKV)), .one (.sl a1.length (a1.flatMap eGApiKV))] (· = .s (.one (.b r))) := by
  unfold m42_r05_KVs at h
  refine callsA_of Tryd.func42 rfl (nt := 45) rfl (Nat.le_of_ble_eq_true rfl) ?_
  intro w0 S0
  refine cseq ?_
  refine cregion ?_
  refine sv rfl (opv_as rfl) ?_
  refine snil ?_
  refine cseq ?_
  refine cseq ?_
  refine cregion ?_
  refine sv rfl (opv_mv rfl) ?_
  refine sv rfl (opv_len_sl si35 rfl) ?_
  refine sv rfl (opv_mv rfl) ?_
  refine sv rfl (opv_len_sl si35 rfl) ?_
  refine sv rfl (opv_ineq rfl rfl) ?_
  refine snil ?_
  refine ccond rfl (fun hc => ?_) (fun hc => ?_)
  · replace h := ite_t hc h
    clear hc
    refine cseq ?_
    refine cregion ?_
    refine sv rfl (opv_as rfl) ?_
    refine snil ?_
    refine cret ?_
    refine then_ret ?_
    obtain rfl := Option.some.inj h
    refine ⟨Or.inr rfl, _, _, _, (resVs_cons (ResV.tmp _ _ rfl) resVs_nil), (pubA_id rfl), ?_⟩
    rfl
  · replace h := ite_f hc h
    clear hc
    refine cskip ?_
    refine then_normal ?_
    refine cseq ?_
    refine cseq ?_
    refine cregion ?_
    refine sv rfl (opv_as rfl) ?_
    refine snil ?_
    refine cjoin (Unit) (fun b1 => []) (fun b1 => []) (fun b1 => m42_r05_KVs_k1 b1 = some r) (fun _ _ => inbL_of rfl) (fun _ _ => blkinb_of rfl) (fun _ _ => Nat.le_of_ble_eq_true rfl) (fun b1 h => ?_) ?_
    · unfold m42_r05_KVs_k1 at h
      refine cseq ?_
      refine cregion ?_
      refine sv rfl (opv_as rfl) ?_
      refine snil ?_
      refine cret ?_
      obtain rfl := Option.some.inj h
      refine ⟨Or.inr rfl, _, _, _, (resVs_cons (ResV.tmp _ _ rfl) resVs_nil), (pubA_id rfl), ?_⟩
      rfl
    · skip
      refine cblock ?_
      obtain ⟨x2, hx2, ho2⟩ := bind_eq h
      refine awc_loop (G := Nat × (Int)) (fun g => [(0, .s (.one (.sl a0.length (a0.flatMap eGApiKV)))), (1, .s (.one (.sl a1.length (a1.flatMap eGApiKV)))), (5, .s (.one (.i .i64 g.2)))]) (fun g => []) (fun g => iter (m42_r05_KVs_s2 a0 a1) g.1 g.2 = some x2) (fun g => g.1) (fuel, 0) hx2 ⟨rfl, rfl, rfl, trivial⟩ [] rfl (fun _ _ => inbL_of rfl) (fun _ _ => blkinb_of rfl) (fun _ _ => Nat.le_of_ble_eq_true rfl) ?_
      clear hx2 h
      rintro ⟨n2, s2⟩ h
      obtain ⟨n2, y2, rfl, h, hk2⟩ := iter_eq h
      unfold m42_r05_KVs_s2 at h
      refine cseq ?_
      refine cseq ?_
      refine cregion ?_
      refine sv rfl (opv_mv rfl) ?_
      refine sv rfl (opv_mv rfl) ?_
      refine sv rfl (opv_len_sl si35 rfl) ?_
      refine sv rfl (opv_lss rfl rfl) ?_
      refine snil ?_
      refine ccond rfl (fun hc => ?_) (fun hc => ?_)
      · replace h := ite_t hc h
        clear hc
        refine cskip ?_
        refine then_normal ?_
        refine cseq ?_
        refine cblock ?_
        refine cseq ?_
        refine cdraw mixed (by kernel_rfl) ?_
        refine dv rfl (opv_mv rfl) ?_
        refine dv rfl (opv_mv rfl) ?_
        obtain ⟨u3, hu3, h⟩ := bind_eq h
        refine dv rfl (opv_ix (f := eGApiKV) si35 (fun _ => rfl) rfl rfl rfl rfl hu3) ?_
        refine dv rfl (opv_fieldAddr_cp fi83_0 rfl) ?_
        refine dv rfl (opv_load1 ti29 rfl (.cp _) rfl) ?_
        refine dv rfl (opv_bs (l := u3.Key) Tryd.underlying29 Tryd.underlying5 Tryd.underlying9 rfl rfl rfl) ?_
        refine dv rfl (opv_mv rfl) ?_
        refine dv rfl (opv_mv rfl) ?_
        obtain ⟨u4, hu4, h⟩ := bind_eq h
        refine dv rfl (opv_ix (f := eGApiKV) si35 (fun _ => rfl) rfl rfl rfl rfl hu4) ?_
        refine dv rfl (opv_fieldAddr_cp fi83_0 rfl) ?_
        refine dv rfl (opv_load1 ti29 rfl (.cp _) rfl) ?_
        refine dv rfl (opv_bs (l := u4.Key) Tryd.underlying29 Tryd.underlying5 Tryd.underlying9 rfl rfl rfl) ?_
        refine dv rfl (opv_sneq' rfl rfl) ?_
        refine dv rfl (opv_mv rfl) ?_
        refine dsplit 30 rfl (fun hc => ?_) (fun hc => ?_)
        · replace h := ite_t hc h
          clear hc
          refine doff rfl rfl rfl rfl ?_
          refine doff rfl rfl rfl rfl ?_
          refine doff rfl rfl rfl rfl ?_
          refine doff rfl rfl rfl rfl ?_
          refine doff rfl rfl rfl rfl ?_
          refine doff rfl rfl rfl rfl ?_
          refine doff rfl rfl rfl rfl ?_
          refine doff rfl rfl rfl rfl ?_
          refine doff rfl rfl rfl rfl ?_
          refine doff rfl rfl rfl rfl ?_
          refine doff rfl rfl rfl rfl ?_
          refine doff rfl rfl rfl rfl ?_
          refine doff rfl rfl rfl rfl ?_
          refine dv rfl (opv_pick_t rfl rfl) ?_
          refine dnil ?_
          refine then_normal ?_
          refine ccond rfl (fun _ => ?_) (fun hx => Bool.noConfusion hx)
          refine cseq ?_
          refine cregion ?_
          refine sv rfl (opv_as rfl) ?_
          refine snil ?_
          refine cret ?_
          refine block_ret ?_
          refine then_ret ?_
          refine then_ret ?_
          refine block_ret ?_
          refine then_ret ?_
          obtain rfl := Option.some.inj h
          obtain rfl : Sum.inl _ = x2 := hk2
          replace ho2 : some _ = some _ := ho2
          obtain rfl := Option.some.inj ho2
          refine ⟨Or.inr rfl, _, _, _, (resVs_cons (ResV.tmp _ _ rfl) resVs_nil), (pubA_id rfl), ?_⟩
          rfl
        · replace h := ite_f hc h
          clear hc
          refine dvg rfl rfl rfl (opv_mv rfl) ?_
          refine dvg rfl rfl rfl (opv_mv rfl) ?_
          obtain ⟨u5, hu5, h⟩ := bind_eq h
          refine dvg rfl rfl rfl (opv_ix (f := eGApiKV) si35 (fun _ => rfl) rfl rfl rfl rfl hu5) ?_
          refine dvg rfl rfl rfl (opv_fieldAddr_cp fi83_1 rfl) ?_
          refine dvg rfl rfl rfl (opv_load1 ti29 rfl (.cp _) rfl) ?_
          refine dvg rfl rfl rfl (opv_bs (l := u5.Val) Tryd.underlying29 Tryd.underlying5 Tryd.underlying9 rfl rfl rfl) ?_
          refine dvg rfl rfl rfl (opv_mv rfl) ?_
          refine dvg rfl rfl rfl (opv_mv rfl) ?_
          obtain ⟨u6, hu6, h⟩ := bind_eq h
          refine dvg rfl rfl rfl (opv_ix (f := eGApiKV) si35 (fun _ => rfl) rfl rfl rfl rfl hu6) ?_
          refine dvg rfl rfl rfl (opv_fieldAddr_cp fi83_1 rfl) ?_
          refine dvg rfl rfl rfl (opv_load1 ti29 rfl (.cp _) rfl) ?_
          refine dvg rfl rfl rfl (opv_bs (l := u6.Val) Tryd.underlying29 Tryd.underlying5 Tryd.underlying9 rfl rfl rfl) ?_
          refine dvg rfl rfl rfl (opv_sneq' rfl rfl) ?_
          refine dv rfl (opv_pick_f rfl rfl) ?_
          refine dnil ?_
          refine then_normal ?_
          refine ccond rfl (fun hc => ?_) (fun hc => ?_)
          · replace h := ite_t hc h
            clear hc
            refine cseq ?_
            refine cregion ?_
            refine sv rfl (opv_as rfl) ?_
            refine snil ?_
            refine cret ?_
            refine block_ret ?_
            refine then_ret ?_
            refine then_ret ?_
            refine block_ret ?_
            refine then_ret ?_
            obtain rfl := Option.some.inj h
            obtain rfl : Sum.inl _ = x2 := hk2
            replace ho2 : some _ = some _ := ho2
            obtain rfl := Option.some.inj ho2
            refine ⟨Or.inr rfl, _, _, _, (resVs_cons (ResV.tmp _ _ rfl) resVs_nil), (pubA_id rfl), ?_⟩
            rfl
          · replace h := ite_f hc h
            clear hc
            refine cskip ?_
            refine block_normal ?_
            refine then_normal ?_
            refine cregion ?_
            refine sv rfl (opv_mv rfl) ?_
            refine sv rfl (opv_add rfl rfl) ?_
            refine sv rfl (opv_as rfl) ?_
            refine snil ?_
            obtain rfl := Option.some.inj h
            exact ⟨(n2, (wI (s2 + 1))), _, hk2, ⟨rfl, rfl, rfl, trivial⟩, rfl, Nat.lt_succ_self _⟩
      · replace h := ite_f hc h
        clear hc
        refine cexit ?_
        refine then_exit ?_
        refine then_exit ?_
        refine block_hit ?_
        refine then_normal ?_
        obtain rfl := Option.some.inj h
        obtain rfl : _ = x2 := hk2
        exact ⟨(), _, ho2, trivial, rfl⟩

def m23_r05_SameReply (a0 : GR05Reply) (a1 : GR05Reply) : Option Bool :=
  if (decide (a0.Kind = a1.Kind)) then (if (decide (a0.Seq = a1.Seq)) then (if (decide (a0.Code = a1.Code)) then (if (decide (a0.N = a1.N)) then (if (a0.Found == a1.Found) then (if (a0.Val == a1.Val) then ((m42_r05_KVs a0.List a1.List).bind fun v1 => some v1) else (some false)) else (some false)) else (some false)) else (some false)) else (some false)) else (some false)

set_option maxRecDepth 100000 in
theorem m23_r05_SameReply_c {a0 : GR05Reply} {a1 : GR05Reply} {r : Bool} (h : m23_r05_SameReply a0 a1 = some r) : CallsA Tryd.prog 23 [.agg a0, .agg a1] (· = .s (.one (.b r))) := by
  unfold m23_r05_SameReply at h
  refine callsA_of Tryd.func23 rfl (nt := 54) rfl (Nat.le_of_ble_eq_true rfl) ?_
  intro w0 S0
  refine cseq ?_
  refine cregion ?_
  refine sbox rfl rfl ?_
  refine sbox rfl rfl ?_
  refine sv rfl (opv_as rfl) ?_
  refine snil ?_
  refine cseq ?_
  refine cregion ?_
  refine sv rfl (opv_fieldAddr_lp fi37_0 rfl) ?_
  refine sv rfl (opv_load1 ti3 rfl (.lp _ _ _ rfl) rfl) ?_
  refine sv rfl (opv_fieldAddr_lp fi37_0 rfl) ?_
  refine sv rfl (opv_load1 ti3 rfl (.lp _ _ _ rfl) rfl) ?_
  refine sv rfl (opv_ieql rfl rfl) ?_
  refine sv rfl (opv_mv rfl) ?_
  refine ssplit 10 rfl (fun hc => ?_) (fun hc => ?_)
  · replace h := ite_t hc h
    clear hc
    refine son rfl rfl rfl ?_
    refine sv rfl (opv_fieldAddr_lp fi37_1 rfl) ?_
    refine son rfl rfl rfl ?_
    refine sv rfl (opv_load1 ti3 rfl (.lp _ _ _ rfl) rfl) ?_
    refine son rfl rfl rfl ?_
    refine sv rfl (opv_fieldAddr_lp fi37_1 rfl) ?_
    refine son rfl rfl rfl ?_
    refine sv rfl (opv_load1 ti3 rfl (.lp _ _ _ rfl) rfl) ?_
    refine son rfl rfl rfl ?_
    refine sv rfl (opv_ieql rfl rfl) ?_
    refine sv rfl (opv_pick_t rfl rfl) ?_
    refine sv rfl (opv_mv rfl) ?_
    refine ssplit 17 rfl (fun hc => ?_) (fun hc => ?_)
    · replace h := ite_t hc h
      clear hc
      refine son rfl rfl rfl ?_
      refine sv rfl (opv_fieldAddr_lp fi37_2 rfl) ?_
      refine son rfl rfl rfl ?_
      refine sv rfl (opv_load1 ti34 rfl (.lp _ _ _ rfl) rfl) ?_
      refine son rfl rfl rfl ?_
      refine sv rfl (opv_fieldAddr_lp fi37_2 rfl) ?_
      refine son rfl rfl rfl ?_
      refine sv rfl (opv_load1 ti34 rfl (.lp _ _ _ rfl) rfl) ?_
      refine son rfl rfl rfl ?_
      refine sv rfl (opv_ieql rfl rfl) ?_
      refine sv rfl (opv_pick_t rfl rfl) ?_
      refine sv rfl (opv_mv rfl) ?_
      refine ssplit 24 rfl (fun hc => ?_) (fun hc => ?_)
      · replace h := ite_t hc h
        clear hc
        refine son rfl rfl rfl ?_
        refine sv rfl (opv_fieldAddr_lp fi37_3 rfl) ?_
        refine son rfl rfl rfl ?_
        refine sv rfl (opv_load1 ti3 rfl (.lp _ _ _ rfl) rfl) ?_
        refine son rfl rfl rfl ?_
        refine sv rfl (opv_fieldAddr_lp fi37_3 rfl) ?_
        refine son rfl rfl rfl ?_
        refine sv rfl (opv_load1 ti3 rfl (.lp _ _ _ rfl) rfl) ?_
        refine son rfl rfl rfl ?_
        refine sv rfl (opv_ieql rfl rfl) ?_
        refine sv rfl (opv_pick_t rfl rfl) ?_
        refine sv rfl (opv_mv rfl) ?_
        refine ssplit 31 rfl (fun hc => ?_) (fun hc => ?_)
        · replace h := ite_t hc h
          clear hc
          refine son rfl rfl rfl ?_
          refine sv rfl (opv_fieldAddr_lp fi37_4 rfl) ?_
          refine son rfl rfl rfl ?_
          refine sv rfl (opv_load1 ti4 rfl (.lp _ _ _ rfl) rfl) ?_
          refine son rfl rfl rfl ?_
          refine sv rfl (opv_fieldAddr_lp fi37_4 rfl) ?_
          refine son rfl rfl rfl ?_
          refine sv rfl (opv_load1 ti4 rfl (.lp _ _ _ rfl) rfl) ?_
          refine son rfl rfl rfl ?_
          refine sv rfl (opv_beql Tryd.underlying4 rfl rfl) ?_
          refine sv rfl (opv_pick_t rfl rfl) ?_
          refine sv rfl (opv_mv rfl) ?_
          refine ssplit 38 rfl (fun hc => ?_) (fun hc => ?_)
          · replace h := ite_t hc h
            clear hc
            refine son rfl rfl rfl ?_
            refine sv rfl (opv_fieldAddr_lp fi37_5 rfl) ?_
            refine son rfl rfl rfl ?_
            refine sv rfl (opv_load1 ti29 rfl (.lp _ _ _ rfl) rfl) ?_
            refine son rfl rfl rfl ?_
            refine sv rfl (opv_bs (l := a0.Val) Tryd.underlying29 Tryd.underlying5 Tryd.underlying9 rfl rfl rfl) ?_
            refine son rfl rfl rfl ?_
            refine sv rfl (opv_fieldAddr_lp fi37_5 rfl) ?_
            refine son rfl rfl rfl ?_
            refine sv rfl (opv_load1 ti29 rfl (.lp _ _ _ rfl) rfl) ?_
            refine son rfl rfl rfl ?_
            refine sv rfl (opv_bs (l := a1.Val) Tryd.underlying29 Tryd.underlying5 Tryd.underlying9 rfl rfl rfl) ?_
            refine son rfl rfl rfl ?_
            refine sv rfl (opv_seql' rfl rfl) ?_
            refine sv rfl (opv_pick_t rfl rfl) ?_
            refine sv rfl (opv_mv rfl) ?_
            refine ssplit 47 rfl (fun hc => ?_) (fun hc => ?_)
            · replace h := ite_t hc h
              clear hc
              refine son rfl rfl rfl ?_
              refine sv rfl (opv_fieldAddr_lp fi37_6 rfl) ?_
              refine son rfl rfl rfl ?_
              refine sv rfl (opv_load1 ti35 rfl (.lp _ _ _ rfl) rfl) ?_
              refine son rfl rfl rfl ?_
              refine sv rfl (opv_fieldAddr_lp fi37_6 rfl) ?_
              refine son rfl rfl rfl ?_
              refine sv rfl (opv_load1 ti35 rfl (.lp _ _ _ rfl) rfl) ?_
              refine son rfl rfl rfl ?_
              obtain ⟨v1, hv1, h⟩ := bind_eq h
              refine scall1 rfl fn42 (opnds_cons rfl (opnds_cons rfl opnds_nil)) (pubA_id rfl) (m42_r05_KVs_c hv1) ?_
              refine sv rfl (opv_pick_t rfl rfl) ?_
              refine sv rfl (opv_as rfl) ?_
              refine snil ?_
              refine cret ?_
              obtain rfl := Option.some.inj h
              refine ⟨Or.inr rfl, _, _, _, (resVs_cons (ResV.tmp _ _ rfl) resVs_nil), (pubA_id rfl), ?_⟩
              rfl
            · replace h := ite_f hc h
              clear hc
              refine soff rfl rfl rfl rfl ?_
              refine soff rfl rfl rfl rfl ?_
              refine soff rfl rfl rfl rfl ?_
              refine soff rfl rfl rfl rfl ?_
              refine soff rfl rfl rfl rfl ?_
              refine sv rfl (opv_pick_f rfl rfl) ?_
              refine sv rfl (opv_as rfl) ?_
              refine snil ?_
              refine cret ?_
              obtain rfl := Option.some.inj h
              refine ⟨Or.inr rfl, _, _, _, (resVs_cons (ResV.tmp _ _ rfl) resVs_nil), (pubA_id rfl), ?_⟩
              rfl
          · replace h := ite_f hc h
            clear hc
            refine soff rfl rfl rfl rfl ?_
            refine soff rfl rfl rfl rfl ?_
            refine soff rfl rfl rfl rfl ?_
            refine soff rfl rfl rfl rfl ?_
            refine soff rfl rfl rfl rfl ?_
            refine soff rfl rfl rfl rfl ?_
            refine soff rfl rfl rfl rfl ?_
            refine sv rfl (opv_pick_f rfl rfl) ?_
            refine sv rfl (opv_mv rfl) ?_
            refine soff rfl rfl rfl rfl ?_
            refine soff rfl rfl rfl rfl ?_
            refine soff rfl rfl rfl rfl ?_
            refine soff rfl rfl rfl rfl ?_
            refine soff rfl rfl rfl rfl ?_
            refine sv rfl (opv_pick_f rfl rfl) ?_
            refine sv rfl (opv_as rfl) ?_
            refine snil ?_
            refine cret ?_
            obtain rfl := Option.some.inj h
            refine ⟨Or.inr rfl, _, _, _, (resVs_cons (ResV.tmp _ _ rfl) resVs_nil), (pubA_id rfl), ?_⟩
            rfl
        · replace h := ite_f hc h
          clear hc
          refine soff rfl rfl rfl rfl ?_
          refine soff rfl rfl rfl rfl ?_
          refine soff rfl rfl rfl rfl ?_
          refine soff rfl rfl rfl rfl ?_
          refine soff rfl rfl rfl rfl ?_
          refine sv rfl (opv_pick_f rfl rfl) ?_
          refine sv rfl (opv_mv rfl) ?_
          refine soff rfl rfl rfl rfl ?_
          refine soff rfl rfl rfl rfl ?_
          refine soff rfl rfl rfl rfl ?_
          refine soff rfl rfl rfl rfl ?_
          refine soff rfl rfl rfl rfl ?_
          refine soff rfl rfl rfl rfl ?_
          refine soff rfl rfl rfl rfl ?_
          refine sv rfl (opv_pick_f rfl rfl) ?_
          refine sv rfl (opv_mv rfl) ?_
          refine soff rfl rfl rfl rfl ?_
          refine soff rfl rfl rfl rfl ?_
          refine soff rfl rfl rfl rfl ?_
          refine soff rfl rfl rfl rfl ?_
          refine soff rfl rfl rfl rfl ?_
          refine sv rfl (opv_pick_f rfl rfl) ?_
          refine sv rfl (opv_as rfl) ?_
          refine snil ?_
          refine cret ?_
          obtain rfl := Option.some.inj h
          refine ⟨Or.inr rfl, _, _, _, (resVs_cons (ResV.tmp _ _ rfl) resVs_nil), (pubA_id rfl), ?_⟩
          rfl
      · replace h := ite_f hc h
        clear hc
        refine soff rfl rfl rfl rfl ?_
        refine soff rfl rfl rfl rfl ?_
        refine soff rfl rfl rfl rfl ?_
        refine soff rfl rfl rfl rfl ?_
        refine soff rfl rfl rfl rfl ?_
        refine sv rfl (opv_pick_f rfl rfl) ?_
        refine sv rfl (opv_mv rfl) ?_
        refine soff rfl rfl rfl rfl ?_
        refine soff rfl rfl rfl rfl ?_
        refine soff rfl rfl rfl rfl ?_
        refine soff rfl rfl rfl rfl ?_
        refine soff rfl rfl rfl rfl ?_
        refine sv rfl (opv_pick_f rfl rfl) ?_
        refine sv rfl (opv_mv rfl) ?_
        refine soff rfl rfl rfl rfl ?_
        refine soff rfl rfl rfl rfl ?_
        refine soff rfl rfl rfl rfl ?_
        refine soff rfl rfl rfl rfl ?_
        refine soff rfl rfl rfl rfl ?_
        refine soff rfl rfl rfl rfl ?_
        refine soff rfl rfl rfl rfl ?_
        refine sv rfl (opv_pick_f rfl rfl) ?_
        refine sv rfl (opv_mv rfl) ?_
        refine soff rfl rfl rfl rfl ?_
        refine soff rfl rfl rfl rfl ?_
        refine soff rfl rfl rfl rfl ?_
        refine soff rfl rfl rfl rfl ?_
        refine soff rfl rfl rfl rfl ?_
        refine sv rfl (opv_pick_f rfl rfl) ?_
        refine sv rfl (opv_as rfl) ?_
        refine snil ?_
        refine cret ?_
        obtain rfl := Option.some.inj h
        refine ⟨Or.inr rfl, _, _, _, (resVs_cons (ResV.tmp _ _ rfl) resVs_nil), (pubA_id rfl), ?_⟩
        rfl
    · replace h := ite_f hc h
      clear hc
      refine soff rfl rfl rfl rfl ?_
      refine soff rfl rfl rfl rfl ?_
      refine soff rfl rfl rfl rfl ?_
      refine soff rfl rfl rfl rfl ?_
      refine soff rfl rfl rfl rfl ?_
      refine sv rfl (opv_pick_f rfl rfl) ?_
      refine sv rfl (opv_mv rfl) ?_
      refine soff rfl rfl rfl rfl ?_
      refine soff rfl rfl rfl rfl ?_
      refine soff rfl rfl rfl rfl ?_
      refine soff rfl rfl rfl rfl ?_
      refine soff rfl rfl rfl rfl ?_
      refine sv rfl (opv_pick_f rfl rfl) ?_
      refine sv rfl (opv_mv rfl) ?_
      refine soff rfl rfl rfl rfl ?_
      refine soff rfl rfl rfl rfl ?_
      refine soff rfl rfl rfl rfl ?_
      refine soff rfl rfl rfl rfl ?_
      refine soff rfl rfl rfl rfl ?_
      refine sv rfl (opv_pick_f rfl rfl) ?_
      refine sv rfl (opv_mv rfl) ?_
      refine soff rfl rfl rfl rfl ?_
      refine soff rfl rfl rfl rfl ?_
      refine soff rfl rfl rfl rfl ?_
      refine soff rfl rfl rfl rfl ?_
      refine soff rfl rfl rfl rfl ?_
      refine soff rfl rfl rfl rfl ?_
      refine soff rfl rfl rfl rfl ?_
      refine sv rfl (opv_pick_f rfl rfl) ?_
      refine sv rfl (opv_mv rfl) ?_
      refine soff rfl rfl rfl rfl ?_
      refine soff rfl rfl rfl rfl ?_
      refine soff rfl rfl rfl rfl ?_
      refine soff rfl rfl rfl rfl ?_
      refine soff rfl rfl rfl rfl ?_
      refine sv rfl (opv_pick_f rfl rfl) ?_
      refine sv rfl (opv_as rfl) ?_
      refine snil ?_
      refine cret ?_
      obtain rfl := Option.some.inj h
      refine ⟨Or.inr rfl, _, _, _, (resVs_cons (ResV.tmp _ _ rfl) resVs_nil), (pubA_id rfl), ?_⟩
      rfl
  · replace h := ite_f hc h
    clear hc
    refine soff rfl rfl rfl rfl ?_
    refine soff rfl rfl rfl rfl ?_
    refine soff rfl rfl rfl rfl ?_
    refine soff rfl rfl rfl rfl ?_
    refine soff rfl rfl rfl rfl ?_
    refine sv rfl (opv_pick_f rfl rfl) ?_
    refine sv rfl (opv_mv rfl) ?_
    refine soff rfl rfl rfl rfl ?_
    refine soff rfl rfl rfl rfl ?_
    refine soff rfl rfl rfl rfl ?_
    refine soff rfl rfl rfl rfl ?_
    refine soff rfl rfl rfl rfl ?_
    refine sv rfl (opv_pick_f rfl rfl) ?_
    refine sv rfl (opv_mv rfl) ?_
    refine soff rfl rfl rfl rfl ?_
    refine soff rfl rfl rfl rfl ?_
    refine soff rfl rfl rfl rfl ?_
    refine soff rfl rfl rfl rfl ?_
    refine soff rfl rfl rfl rfl ?_
    refine sv rfl (opv_pick_f rfl rfl) ?_
    refine sv rfl (opv_mv rfl) ?_
    refine soff rfl rfl rfl rfl ?_
    refine soff rfl rfl rfl rfl ?_
    refine soff rfl rfl rfl rfl ?_
    refine soff rfl rfl rfl rfl ?_
    refine soff rfl rfl rfl rfl ?_
    refine sv rfl (opv_pick_f rfl rfl) ?_
    refine sv rfl (opv_mv rfl) ?_
    refine soff rfl rfl rfl rfl ?_
    refine soff rfl rfl rfl rfl ?_
    refine soff rfl rfl rfl rfl ?_
    refine soff rfl rfl rfl rfl ?_
    refine soff rfl rfl rfl rfl ?_
    refine soff rfl rfl rfl rfl ?_
    refine soff rfl rfl rfl rfl ?_
    refine sv rfl (opv_pick_f rfl rfl) ?_
    refine sv rfl (opv_mv rfl) ?_
    refine soff rfl rfl rfl rfl ?_
    refine soff rfl rfl rfl rfl ?_
    refine soff rfl rfl rfl rfl ?_
    refine soff rfl rfl rfl rfl ?_
    refine soff rfl rfl rfl rfl ?_
    refine sv rfl (opv_pick_f rfl rfl) ?_
    refine sv rfl (opv_as rfl) ?_
    refine snil ?_
    refine cret ?_
    obtain rfl := Option.some.inj h
    refine ⟨Or.inr rfl, _, _, _, (resVs_cons (ResV.tmp _ _ rfl) resVs_nil), (pubA_id rfl), ?_⟩
    rfl

def m21_r16_Same_k3 (b3 : Unit) : Option Bool :=
  some true

def m21_r16_Same_s4 (a0 : GR16Pipe) (a1 : GR16Pipe) (s4 : Int) : Option (LR (Int) (Unit) (Bool)) :=
  if (decide (s4 < (a0.Past.length : Int))) then ((idx a0.Past s4).bind fun u5 => (idx a1.Past s4).bind fun u6 => (m23_r05_SameReply u5 u6).bind fun v7 => if (!v7) then (some (.ret false)) else (some (.cont (wI (s4 + 1))))) else (some (.brk ()))

def m21_r16_Same_k2 (a0 : GR16Pipe) (a1 : GR16Pipe) (b2 : Unit) : Option Bool :=
  (iter (m21_r16_Same_s4 a0 a1) fuel 0).bind fun x => match x with | .inl r => some r | .inr e8 => m21_r16_Same_k3 e8

def m21_r16_Same_s9 (a0 : GR16Pipe) (a1 : GR16Pipe) (s9 : Int) : Option (LR (Int) (Unit) (Bool)) :=
  if (decide (s9 < (a0.Wait.length : Int))) then ((idx a0.Wait s9).bind fun u10 => (idx a1.Wait s9).bind fun u11 => (m25_r05_SameReq (GR05Req.mk u10.Kind u10.Seq u10.Token u10.Attempt u10.RO u10.Key u10.Val (GApiRange.mk u10.Rng.Lo u10.Rng.Hi u10.Rng.Open)) (GR05Req.mk u11.Kind u11.Seq u11.Token u11.Attempt u11.RO u11.Key u11.Val (GApiRange.mk u11.Rng.Lo u11.Rng.Hi u11.Rng.Open))).bind fun v12 => if (!v12) then (some (.ret false)) else (some (.cont (wI (s9 + 1))))) else (some (.brk ()))

def m21_r16_Same_k1 (a0 : GR16Pipe) (a1 : GR16Pipe) (b1 : Unit) : Option Bool :=
  (iter (m21_r16_Same_s9 a0 a1) fuel 0).bind fun x => match x with | .inl r => some r | .inr e13 => m21_r16_Same_k2 a0 a1 e13
end Go.Proofs.YtlpanhfojeaamaaDoor.Abs
