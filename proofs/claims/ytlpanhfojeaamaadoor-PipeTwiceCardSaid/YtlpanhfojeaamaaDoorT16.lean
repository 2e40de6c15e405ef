/-
  t
-/
import Derived.Test.YtlpanhfojeaamaaDoorT16b
namespace Go.Proofs.YtlpanhfojeaamaaDoor.Abs
open Go.RowKit Go.Proofs
def m23_r05_SameReply (a0 : GR05Reply) (a1 : GR05Reply) : Option Bool :=
  if (decide (a0.Kind = a1.Kind)) then (if (decide (a0.Seq = a1.Seq)) then (if (decide (a0.Code = a1.Code)) then (if (decide (a0.N = a1.N)) then (if (a0.Found == a1.Found) then (if (a0.Val == a1.Val) then ((m42_r05_KVs a0.List a1.List).bind fun v1 => some v1) else (some false)) else (some false)) else (some false)) else (some false)) else (some false)) else (some false)

set_option maxRecDepth 100000 in
theorem m23_r05_SameReply_c {a0 : GR05Reply} {a1 : GR05Reply} {r : Bool} (h : m23_r05_SameReply a0 a1 = some r) : CallsA Tryd.prog 23 [.agg [.i .i64 a0.Kind, .i .i64 a0.Seq, .i .i64 a0.Code, .i .i64 a0.N, .b a0.Found, .sl a0.Val.length (a0.Val.flatMap eU8), .sl a0.List.length (a0.List.flatMap eGApiKV)], .agg [.i .i64 a1.Kind, .i .i64 a1.Seq, .i .i64 a1.Code, .i .i64 a1.N, .b a1.Found, .sl a1.Val.length (a1.Val.flatMap eU8), .sl a1.List.length (a1.List.flatMap eGApiKV)]] (· = .s (.one (.b r))) := by
  unfold m23_r05_SameReply at h
  refine callsA_of Tryd.func23 rfl (nt := 54) rfl (Nat.le_of_ble_eq_true rfl) ?_
  intro w0 S0
  refine cseq ?_
  refine cregion ?_
  refine sbox rfl rfl ?_
  refine sbox rfl rfl ?_
  refine sv rfl (opv_as rfl) ?_
  refine snil ?_
  refine cseq ?_
  refine cregion ?_
  refine sv rfl (opv_fieldAddr_lp fi37_0 rfl) ?_
  refine sv rfl (opv_load1 ti3 rfl (.lp _ _ _ rfl) rfl) ?_
  refine sv rfl (opv_fieldAddr_lp fi37_0 rfl) ?_
  refine sv rfl (opv_load1 ti3 rfl (.lp _ _ _ rfl) rfl) ?_
  refine sv rfl (opv_ieql rfl rfl) ?_
  refine sv rfl (opv_mv rfl) ?_
  refine ssplit 10 rfl (fun hc => ?_) (fun hc => ?_)
  · replace h := ite_t hc h
    clear hc
    refine son rfl rfl rfl ?_
    refine sv rfl (opv_fieldAddr_lp fi37_1 rfl) ?_
    refine son rfl rfl rfl ?_
    refine sv rfl (opv_load1 ti3 rfl (.lp _ _ _ rfl) rfl) ?_
    refine son rfl rfl rfl ?_
    refine sv rfl (opv_fieldAddr_lp fi37_1 rfl) ?_
    refine son rfl rfl rfl ?_
    refine sv rfl (opv_load1 ti3 rfl (.lp _ _ _ rfl) rfl) ?_
    refine son rfl rfl rfl ?_
    refine sv rfl (opv_ieql rfl rfl) ?_
    refine sv rfl (opv_pick_t rfl rfl) ?_
    refine sv rfl (opv_mv rfl) ?_
    refine ssplit 17 rfl (fun hc => ?_) (fun hc => ?_)
    · replace h := ite_t hc h
      clear hc
      refine son rfl rfl rfl ?_
      refine sv rfl (opv_fieldAddr_lp fi37_2 rfl) ?_
      refine son rfl rfl rfl ?_
      refine sv rfl (opv_load1 ti34 rfl (.lp _ _ _ rfl) rfl) ?_
      refine son rfl rfl rfl ?_
      refine sv rfl (opv_fieldAddr_lp fi37_2 rfl) ?_
      refine son rfl rfl rfl ?_
      refine sv rfl (opv_load1 ti34 rfl (.lp _ _ _ rfl) rfl) ?_
      refine son rfl rfl rfl ?_
      refine sv rfl (opv_ieql rfl rfl) ?_
      refine sv rfl (opv_pick_t rfl rfl) ?_
      refine sv rfl (opv_mv rfl) ?_
      refine ssplit 24 rfl (fun hc => ?_) (fun hc => ?_)
      · replace h := ite_t hc h
        clear hc
        refine son rfl rfl rfl ?_
        refine sv rfl (opv_fieldAddr_lp fi37_3 rfl) ?_
        refine son rfl rfl rfl ?_
        refine sv rfl (opv_load1 ti3 rfl (.lp _ _ _ rfl) rfl) ?_
        refine son rfl rfl rfl ?_
        refine sv rfl (opv_fieldAddr_lp fi37_3 rfl) ?_
        refine son rfl rfl rfl ?_
        refine sv rfl (opv_load1 ti3 rfl (.lp _ _ _ rfl) rfl) ?_
        refine son rfl rfl rfl ?_
        refine sv rfl (opv_ieql rfl rfl) ?_
        refine sv rfl (opv_pick_t rfl rfl) ?_
        refine sv rfl (opv_mv rfl) ?_
        refine ssplit 31 rfl (fun hc => ?_) (fun hc => ?_)
        · replace h := ite_t hc h
          clear hc
          refine son rfl rfl rfl ?_
          refine sv rfl (opv_fieldAddr_lp fi37_4 rfl) ?_
          refine son rfl rfl rfl ?_
          refine sv rfl (opv_load1 ti4 rfl (.lp _ _ _ rfl) rfl) ?_
          refine son rfl rfl rfl ?_
          refine sv rfl (opv_fieldAddr_lp fi37_4 rfl) ?_
          refine son rfl rfl rfl ?_
          refine sv rfl (opv_load1 ti4 rfl (.lp _ _ _ rfl) rfl) ?_
          refine son rfl rfl rfl ?_
          refine sv rfl (opv_beql Tryd.underlying4 rfl rfl) ?_
          refine sv rfl (opv_pick_t rfl rfl) ?_
          refine sv rfl (opv_mv rfl) ?_
          refine ssplit 38 rfl (fun hc => ?_) (fun hc => ?_)
          · replace h := ite_t hc h
            clear hc
            refine son rfl rfl rfl ?_
            refine sv rfl (opv_fieldAddr_lp fi37_5 rfl) ?_
            refine son rfl rfl rfl ?_
            refine sv rfl (opv_load1 ti29 rfl (.lp _ _ _ rfl) rfl) ?_
            refine son rfl rfl rfl ?_
            refine sv rfl (opv_bs (l := a0.Val) Tryd.underlying29 Tryd.underlying5 Tryd.underlying9 rfl rfl rfl) ?_
            refine son rfl rfl rfl ?_
            refine sv rfl (opv_fieldAddr_lp fi37_5 rfl) ?_
            refine son rfl rfl rfl ?_
            refine sv rfl (opv_load1 ti29 rfl (.lp _ _ _ rfl) rfl) ?_
            refine son rfl rfl rfl ?_
            refine sv rfl (opv_bs (l := a1.Val) Tryd.underlying29 Tryd.underlying5 Tryd.underlying9 rfl rfl rfl) ?_
            refine son rfl rfl rfl ?_
            refine sv rfl (opv_seql' rfl rfl) ?_
            refine sv rfl (opv_pick_t rfl rfl) ?_
            refine sv rfl (opv_mv rfl) ?_
            refine ssplit 47 rfl (fun hc => ?_) (fun hc => ?_)
            · replace h := ite_t hc h
              clear hc
              refine son rfl rfl rfl ?_
              refine sv rfl (opv_fieldAddr_lp fi37_6 rfl) ?_
              refine son rfl rfl rfl ?_
              refine sv rfl (opv_load1 ti35 rfl (.lp _ _ _ rfl) rfl) ?_
              refine son rfl rfl rfl ?_
              refine sv rfl (opv_fieldAddr_lp fi37_6 rfl) ?_
              refine son rfl rfl rfl ?_
              refine sv rfl (opv_load1 ti35 rfl (.lp _ _ _ rfl) rfl) ?_
              refine son rfl rfl rfl ?_
              obtain ⟨v1, hv1, h⟩ := bind_eq h
              refine scall1 rfl fn42 (opnds_cons rfl (opnds_cons rfl opnds_nil)) (pubA_id rfl) (m42_r05_KVs_c hv1) ?_
              refine sv rfl (opv_pick_t rfl rfl) ?_
              refine sv rfl (opv_as rfl) ?_
              refine snil ?_
              refine cret ?_
              obtain rfl := Option.some.inj h
              refine ⟨Or.inr rfl, _, _, _, (resVs_cons (ResV.tmp _ _ rfl) resVs_nil), (pubA_id rfl), ?_⟩
              rfl
            · replace h := ite_f hc h
              clear hc
              refine soff rfl rfl rfl rfl ?_
              refine soff rfl rfl rfl rfl ?_
              refine soff rfl rfl rfl rfl ?_
              refine soff rfl rfl rfl rfl ?_
              refine soff rfl rfl rfl rfl ?_
              refine sv rfl (opv_pick_f rfl rfl) ?_
              refine sv rfl (opv_as rfl) ?_
              refine snil ?_
              refine cret ?_
              obtain rfl := Option.some.inj h
              refine ⟨Or.inr rfl, _, _, _, (resVs_cons (ResV.tmp _ _ rfl) resVs_nil), (pubA_id rfl), ?_⟩
              rfl
          · replace h := ite_f hc h
            clear hc
            refine soff rfl rfl rfl rfl ?_
            refine soff rfl rfl rfl rfl ?_
            refine soff rfl rfl rfl rfl ?_
            refine soff rfl rfl rfl rfl ?_
            refine soff rfl rfl rfl rfl ?_
            refine soff rfl rfl rfl rfl ?_
            refine soff rfl rfl rfl rfl ?_
            refine sv rfl (opv_pick_f rfl rfl) ?_
            refine sv rfl (opv_mv rfl) ?_
            refine soff rfl rfl rfl rfl ?_
            refine soff rfl rfl rfl rfl ?_
            refine soff rfl rfl rfl rfl ?_
            refine soff rfl rfl rfl rfl ?_
            refine soff rfl rfl rfl rfl ?_
            refine sv rfl (opv_pick_f rfl rfl) ?_
            refine sv rfl (opv_as rfl) ?_
            refine snil ?_
            refine cret ?_
            obtain rfl := Option.some.inj h
            refine ⟨Or.inr rfl, _, _, _, (resVs_cons (ResV.tmp _ _ rfl) resVs_nil), (pubA_id rfl), ?_⟩
            rfl
        · replace h := ite_f hc h
          clear hc
          refine soff rfl rfl rfl rfl ?_
          refine soff rfl rfl rfl rfl ?_
          refine soff rfl rfl rfl rfl ?_
          refine soff rfl rfl rfl rfl ?_
          refine soff rfl rfl rfl rfl ?_
          refine sv rfl (opv_pick_f rfl rfl) ?_
          refine sv rfl (opv_mv rfl) ?_
          refine soff rfl rfl rfl rfl ?_
          refine soff rfl rfl rfl rfl ?_
          refine soff rfl rfl rfl rfl ?_
          refine soff rfl rfl rfl rfl ?_
          refine soff rfl rfl rfl rfl ?_
          refine soff rfl rfl rfl rfl ?_
          refine soff rfl rfl rfl rfl ?_
          refine sv rfl (opv_pick_f rfl rfl) ?_
          refine sv rfl (opv_mv rfl) ?_
          refine soff rfl rfl rfl rfl ?_
          refine soff rfl rfl rfl rfl ?_
          refine soff rfl rfl rfl rfl ?_
          refine soff rfl rfl rfl rfl ?_
          refine soff rfl rfl rfl rfl ?_
          refine sv rfl (opv_pick_f rfl rfl) ?_
          refine sv rfl (opv_as rfl) ?_
          refine snil ?_
          refine cret ?_
          obtain rfl := Option.some.inj h
          refine ⟨Or.inr rfl, _, _, _, (resVs_cons (ResV.tmp _ _ rfl) resVs_nil), (pubA_id rfl), ?_⟩
          rfl
      · replace h := ite_f hc h
        clear hc
        refine soff rfl rfl rfl rfl ?_
        refine soff rfl rfl rfl rfl ?_
        refine soff rfl rfl rfl rfl ?_
        refine soff rfl rfl rfl rfl ?_
        refine soff rfl rfl rfl rfl ?_
        refine sv rfl (opv_pick_f rfl rfl) ?_
        refine sv rfl (opv_mv rfl) ?_
        refine soff rfl rfl rfl rfl ?_
        refine soff rfl rfl rfl rfl ?_
        refine soff rfl rfl rfl rfl ?_
        refine soff rfl rfl rfl rfl ?_
        refine soff rfl rfl rfl rfl ?_
        refine sv rfl (opv_pick_f rfl rfl) ?_
        refine sv rfl (opv_mv rfl) ?_
        refine soff rfl rfl rfl rfl ?_
        refine soff rfl rfl rfl rfl ?_
        refine soff rfl rfl rfl rfl ?_
        refine soff rfl rfl rfl rfl ?_
        refine soff rfl rfl rfl rfl ?_
        refine soff rfl rfl rfl rfl ?_
        refine soff rfl rfl rfl rfl ?_
        refine sv rfl (opv_pick_f rfl rfl) ?_
        refine sv rfl (opv_mv rfl) ?_
        refine soff rfl rfl rfl rfl ?_
        refine soff rfl rfl rfl rfl ?_
        refine soff rfl rfl rfl rfl ?_
        refine soff rfl rfl rfl rfl ?_
        refine soff rfl rfl rfl rfl ?_
        refine sv rfl (opv_pick_f rfl rfl) ?_
        refine sv rfl (opv_as rfl) ?_
        refine snil ?_
        refine cret ?_
        obtain rfl := Option.some.inj h
        refine ⟨Or.inr rfl, _, _, _, (resVs_cons (ResV.tmp _ _ rfl) resVs_nil), (pubA_id rfl), ?_⟩
        rfl
    · replace h := ite_f hc h
      clear hc
      refine soff rfl rfl rfl rfl ?_
      refine soff rfl rfl rfl rfl ?_
      refine soff rfl rfl rfl rfl ?_
      refine soff rfl rfl rfl rfl ?_
      refine soff rfl rfl rfl rfl ?_
      refine sv rfl (opv_pick_f rfl rfl) ?_
      refine sv rfl (opv_mv rfl) ?_
      refine soff rfl rfl rfl rfl ?_
      refine soff rfl rfl rfl rfl ?_
      refine soff rfl rfl rfl rfl ?_
      refine soff rfl rfl rfl rfl ?_
      refine soff rfl rfl rfl rfl ?_
      refine sv rfl (opv_pick_f rfl rfl) ?_
      refine sv rfl (opv_mv rfl) ?_
      refine soff rfl rfl rfl rfl ?_
      refine soff rfl rfl rfl rfl ?_
      refine soff rfl rfl rfl rfl ?_
      refine soff rfl rfl rfl rfl ?_
      refine soff rfl rfl rfl rfl ?_
      refine sv rfl (opv_pick_f rfl rfl) ?_
      refine sv rfl (opv_mv rfl) ?_
      refine soff rfl rfl rfl rfl ?_
      refine soff rfl rfl rfl rfl ?_
      refine soff rfl rfl rfl rfl ?_
      refine soff rfl rfl rfl rfl ?_
      refine soff rfl rfl rfl rfl ?_
      refine soff rfl rfl rfl rfl ?_
      refine soff rfl rfl rfl rfl ?_
      refine sv rfl (opv_pick_f rfl rfl) ?_
      refine sv rfl (opv_mv rfl) ?_
      refine soff rfl rfl rfl rfl ?_
      refine soff rfl rfl rfl rfl ?_
      refine soff rfl rfl rfl rfl ?_
      refine soff rfl rfl rfl rfl ?_
      refine soff rfl rfl rfl rfl ?_
      refine sv rfl (opv_pick_f rfl rfl) ?_
      refine sv rfl (opv_as rfl) ?_
      refine snil ?_
      refine cret ?_
      obtain rfl := Option.some.inj h
      refine ⟨Or.inr rfl, _, _, _, (resVs_cons (ResV.tmp _ _ rfl) resVs_nil), (pubA_id rfl), ?_⟩
      rfl
  · replace h := ite_f hc h
    clear hc
    refine soff rfl rfl rfl rfl ?_
    refine soff rfl rfl rfl rfl ?_
    refine soff rfl rfl rfl rfl ?_
    refine soff rfl rfl rfl rfl ?_
    refine soff rfl rfl rfl rfl ?_
    refine sv rfl (opv_pick_f rfl rfl) ?_
    refine sv rfl (opv_mv rfl) ?_
    refine soff rfl rfl rfl rfl ?_
    refine soff rfl rfl rfl rfl ?_
    refine soff rfl rfl rfl rfl ?_
    refine soff rfl rfl rfl rfl ?_
    refine soff rfl rfl rfl rfl ?_
    refine sv rfl (opv_pick_f rfl rfl) ?_
    refine sv rfl (opv_mv rfl) ?_
    refine soff rfl rfl rfl rfl ?_
    refine soff rfl rfl rfl rfl ?_
    refine soff rfl rfl rfl rfl ?_
    refine soff rfl rfl rfl rfl ?_
    refine soff rfl rfl rfl rfl ?_
    refine sv rfl (opv_pick_f rfl rfl) ?_
    refine sv rfl (opv_mv rfl) ?_
    refine soff rfl rfl rfl rfl ?_
    refine soff rfl rfl rfl rfl ?_
    refine soff rfl rfl rfl rfl ?_
    refine soff rfl rfl rfl rfl ?_
    refine soff rfl rfl rfl rfl ?_
    refine sv rfl (opv_pick_f rfl rfl) ?_
    refine sv rfl (opv_mv rfl) ?_
    refine soff rfl rfl rfl rfl ?_
    refine soff rfl rfl rfl rfl ?_
    refine soff rfl rfl rfl rfl ?_
    refine soff rfl rfl rfl rfl ?_
    refine soff rfl rfl rfl rfl ?_
    refine soff rfl rfl rfl rfl ?_
    refine soff rfl rfl rfl rfl ?_
    refine sv rfl (opv_pick_f rfl rfl) ?_
    refine sv rfl (opv_mv rfl) ?_
    refine soff rfl rfl rfl rfl ?_
    refine soff rfl rfl rfl rfl ?_
    refine soff rfl rfl rfl rfl ?_
    refine soff rfl rfl rfl rfl ?_
    refine soff rfl rfl rfl rfl ?_
    refine sv rfl (opv_pick_f rfl rfl) ?_
    refine sv rfl (opv_as rfl) ?_
    refine snil ?_
    refine cret ?_
    obtain rfl := Option.some.inj h
    refine ⟨Or.inr rfl, _, _, _, (resVs_cons (ResV.tmp _ _ rfl) resVs_nil), (pubA_id rfl), ?_⟩
    rfl

def m21_r16_Same_k3 (b3 : Unit) : Option Bool :=
  some true

def m21_r16_Same_s4 (a0 : GR16Pipe) (a1 : GR16Pipe) (s4 : Int) : Option (LR (Int) (Unit) (Bool)) :=
  if (decide (s4 < (a0.Past.length : Int))) then ((idx a0.Past s4).bind fun u5 => (idx a1.Past s4).bind fun u6 => (m23_r05_SameReply u5 u6).bind fun v7 => if (!v7) then (some (.ret false)) else (some (.cont (wI (s4 + 1))))) else (some (.brk ()))

def m21_r16_Same_k2 (a0 : GR16Pipe) (a1 : GR16Pipe) (b2 : Unit) : Option Bool :=
  (iter (m21_r16_Same_s4 a0 a1) fuel 0).bind fun x => match x with | .inl r => some r | .inr e8 => m21_r16_Same_k3 e8

def m21_r16_Same_s9 (a0 : GR16Pipe) (a1 : GR16Pipe) (s9 : Int) : Option (LR (Int) (Unit) (Bool)) :=
  if (decide (s9 < (a0.Wait.length : Int))) then ((idx a0.Wait s9).bind fun u10 => (idx a1.Wait s9).bind fun u11 => (m25_r05_SameReq (GR05Req.mk u10.Kind u10.Seq u10.Token u10.Attempt u10.RO u10.Key u10.Val (GApiRange.mk u10.Rng.Lo u10.Rng.Hi u10.Rng.Open)) (GR05Req.mk u11.Kind u11.Seq u11.Token u11.Attempt u11.RO u11.Key u11.Val (GApiRange.mk u11.Rng.Lo u11.Rng.Hi u11.Rng.Open))).bind fun v12 => if (!v12) then (some (.ret false)) else (some (.cont (wI (s9 + 1))))) else (some (.brk ()))

def m21_r16_Same_k1 (a0 : GR16Pipe) (a1 : GR16Pipe) (b1 : Unit) : Option Bool :=
  (iter (m21_r16_Same_s9 a0 a1) fuel 0).bind fun x => match x with | .inl r => some r | .inr e13 => m21_r16_Same_k2 a0 a1 e13
def m21_r16_Same (a0 : GR16Pipe) (a1 : GR16Pipe) : Option Bool :=
  if (!((decide (a0.Win.Base = a1.Win.Base)) && ((decide ((a0.Win.Bits.toNat : Int) = (a1.Win.Bits.toNat : Int))) && true))) then (some false) else (if (!decide (a0.Next = a1.Next)) then (some false) else (if (!decide ((a0.Wait.length : Int) = (a1.Wait.length : Int))) then (some false) else (if (!decide ((a0.Past.length : Int) = (a1.Past.length : Int))) then (some false) else (m21_r16_Same_k1 a0 a1 ()))))

set_option maxRecDepth 100000 in
theorem m21_r16_Same_c {a0 : GR16Pipe} {a1 : GR16Pipe} {r : Bool} (h : m21_r16_Same a0 a1 = some r) : CallsA Tryd.prog 21 [.agg [.i .i64 a0.Win.Base, .i .u64 (a0.Win.Bits.toNat : Int), .i .i64 a0.Next, .sl a0.Wait.length (a0.Wait.flatMap eGR05Req), .sl a0.Past.length (a0.Past.flatMap eGR05Reply)], .agg [.i .i64 a1.Win.Base, .i .u64 (a1.Win.Bits.toNat : Int), .i .i64 a1.Next, .sl a1.Wait.length (a1.Wait.flatMap eGR05Req), .sl a1.Past.length (a1.Past.flatMap eGR05Reply)]] (· = .s (.one (.b r))) := by
  unfold m21_r16_Same at h
  refine callsA_of Tryd.func21 rfl (nt := 75) rfl (Nat.le_of_ble_eq_true rfl) ?_
  intro w0 S0
  refine cseq ?_
  refine cregion ?_
  refine sbox rfl rfl ?_
  refine sbox rfl rfl ?_
  refine sv rfl (opv_as rfl) ?_
  refine snil ?_
  refine cseq ?_
  refine cseq ?_
  refine cjoin3 (Unit) (fun b1 => [(2, .s (.one (.lp 0 0))), (3, .s (.one (.lp 1 0)))]) (fun b1 => [.box [.i .i64 a0.Win.Base, .i .u64 (a0.Win.Bits.toNat : Int), .i .i64 a0.Next, .sl a0.Wait.length (a0.Wait.flatMap eGR05Req), .sl a0.Past.length (a0.Past.flatMap eGR05Reply)], .box [.i .i64 a1.Win.Base, .i .u64 (a1.Win.Bits.toNat : Int), .i .i64 a1.Next, .sl a1.Wait.length (a1.Wait.flatMap eGR05Req), .sl a1.Past.length (a1.Past.flatMap eGR05Reply)]]) (fun b1 => m21_r16_Same_k1 a0 a1 b1 = some r) (fun _ _ => inbL_of rfl) (fun _ _ => blkinb_of rfl) (fun _ _ => Nat.le_of_ble_eq_true rfl) (fun b1 h => ?_) ?_
  · unfold m21_r16_Same_k1 at h
    refine cseq ?_
    refine cseq ?_
    refine cregion ?_
    refine sv rfl (opv_as rfl) ?_
    refine snil ?_
    refine cjoin (Unit) (fun b2 => [(2, .s (.one (.lp 0 0))), (3, .s (.one (.lp 1 0)))]) (fun b2 => [.box [.i .i64 a0.Win.Base, .i .u64 (a0.Win.Bits.toNat : Int), .i .i64 a0.Next, .sl a0.Wait.length (a0.Wait.flatMap eGR05Req), .sl a0.Past.length (a0.Past.flatMap eGR05Reply)], .box [.i .i64 a1.Win.Base, .i .u64 (a1.Win.Bits.toNat : Int), .i .i64 a1.Next, .sl a1.Wait.length (a1.Wait.flatMap eGR05Req), .sl a1.Past.length (a1.Past.flatMap eGR05Reply)]]) (fun b2 => m21_r16_Same_k2 a0 a1 b2 = some r) (fun _ _ => inbL_of rfl) (fun _ _ => blkinb_of rfl) (fun _ _ => Nat.le_of_ble_eq_true rfl) (fun b2 h => ?_) ?_
    · unfold m21_r16_Same_k2 at h
      refine cseq ?_
      refine cseq ?_
      refine cregion ?_
      refine sv rfl (opv_as rfl) ?_
      refine snil ?_
      refine cjoin (Unit) (fun b3 => []) (fun b3 => [.box [.i .i64 a0.Win.Base, .i .u64 (a0.Win.Bits.toNat : Int), .i .i64 a0.Next, .sl a0.Wait.length (a0.Wait.flatMap eGR05Req), .sl a0.Past.length (a0.Past.flatMap eGR05Reply)], .box [.i .i64 a1.Win.Base, .i .u64 (a1.Win.Bits.toNat : Int), .i .i64 a1.Next, .sl a1.Wait.length (a1.Wait.flatMap eGR05Req), .sl a1.Past.length (a1.Past.flatMap eGR05Reply)]]) (fun b3 => m21_r16_Same_k3 b3 = some r) (fun _ _ => inbL_of rfl) (fun _ _ => blkinb_of rfl) (fun _ _ => Nat.le_of_ble_eq_true rfl) (fun b3 h => ?_) ?_
      · unfold m21_r16_Same_k3 at h
        refine cseq ?_
        refine cregion ?_
        refine sv rfl (opv_as rfl) ?_
        refine snil ?_
        refine cret ?_
        obtain rfl := Option.some.inj h
        refine ⟨Or.inr rfl, _, _, _, (resVs_cons (ResV.tmp _ _ rfl) resVs_nil), (pubA_id rfl), ?_⟩
        rfl
      · skip
        refine cblock ?_
        obtain ⟨x4, hx4, ho4⟩ := bind_eq h
        refine awc_loop (G := Nat × (Int)) (fun g => [(2, .s (.one (.lp 0 0))), (3, .s (.one (.lp 1 0))), (6, .s (.one (.i .i64 g.2)))]) (fun g => [.box [.i .i64 a0.Win.Base, .i .u64 (a0.Win.Bits.toNat : Int), .i .i64 a0.Next, .sl a0.Wait.length (a0.Wait.flatMap eGR05Req), .sl a0.Past.length (a0.Past.flatMap eGR05Reply)], .box [.i .i64 a1.Win.Base, .i .u64 (a1.Win.Bits.toNat : Int), .i .i64 a1.Next, .sl a1.Wait.length (a1.Wait.flatMap eGR05Req), .sl a1.Past.length (a1.Past.flatMap eGR05Reply)]]) (fun g => iter (m21_r16_Same_s4 a0 a1) g.1 g.2 = some x4) (fun g => g.1) (fuel, 0) hx4 ⟨rfl, rfl, rfl, trivial⟩ [] rfl (fun _ _ => inbL_of rfl) (fun _ _ => blkinb_of rfl) (fun _ _ => Nat.le_of_ble_eq_true rfl) ?_
        clear hx4 h
        rintro ⟨n4, s4⟩ h
        obtain ⟨n4, y4, rfl, h, hk4⟩ := iter_eq h
        unfold m21_r16_Same_s4 at h
        refine cseq ?_
        refine cseq ?_
        refine cregion ?_
        refine sv rfl (opv_mv rfl) ?_
        refine sv rfl (opv_fieldAddr_lp fi28_3 rfl) ?_
        refine sv rfl (opv_load1 ti26 rfl (.lp _ _ _ rfl) rfl) ?_
        refine sv rfl (opv_len_sl si26 rfl) ?_
        refine sv rfl (opv_lss rfl rfl) ?_
        refine snil ?_
        refine ccond rfl (fun hc => ?_) (fun hc => ?_)
        · replace h := ite_t hc h
          clear hc
          refine cskip ?_
          refine then_normal ?_
          refine cseq ?_
          refine cblock ?_
          refine cseq ?_
          refine cdraw mixed (by kernel_rfl) ?_
          refine dv rfl (opv_fieldAddr_lp fi28_3 rfl) ?_
          refine dv rfl (opv_load1 ti26 rfl (.lp _ _ _ rfl) rfl) ?_
          refine dv rfl (opv_mv rfl) ?_
          obtain ⟨u5, hu5, h⟩ := bind_eq h
          refine dv rfl (opv_ix (f := eGR05Reply) si26 (fun _ => rfl) rfl rfl rfl rfl hu5) ?_
          refine dv rfl (opv_loadNe (ys := [.i .i64 u5.Kind, .i .i64 u5.Seq, .i .i64 u5.Code, .i .i64 u5.N, .b u5.Found, .sl u5.Val.length (u5.Val.flatMap eU8), .sl u5.List.length (u5.List.flatMap eGApiKV)]) ti37 rfl (.cp _) rfl rfl) ?_
          refine dv rfl (opv_fieldAddr_lp fi28_3 rfl) ?_
          refine dv rfl (opv_load1 ti26 rfl (.lp _ _ _ rfl) rfl) ?_
          refine dv rfl (opv_mv rfl) ?_
          obtain ⟨u6, hu6, h⟩ := bind_eq h
          refine dv rfl (opv_ix (f := eGR05Reply) si26 (fun _ => rfl) rfl rfl rfl rfl hu6) ?_
          refine dv rfl (opv_loadNe (ys := [.i .i64 u6.Kind, .i .i64 u6.Seq, .i .i64 u6.Code, .i .i64 u6.N, .b u6.Found, .sl u6.Val.length (u6.Val.flatMap eU8), .sl u6.List.length (u6.List.flatMap eGApiKV)]) ti37 rfl (.cp _) rfl rfl) ?_
          obtain ⟨v7, hv7, h⟩ := bind_eq h
          refine dd rfl (opD_call fn23 (opnds_cons rfl (opnds_cons rfl opnds_nil)) rfl (m23_r05_SameReply_c hv7)) ?_
          refine dv rfl (opv_not rfl) ?_
          refine dnil ?_
          refine then_normal ?_
          refine ccond rfl (fun hc => ?_) (fun hc => ?_)
          · replace h := ite_t hc h
            clear hc
            refine cseq ?_
            refine cregion ?_
            refine sv rfl (opv_as rfl) ?_
            refine snil ?_
            refine cret ?_
            refine block_ret ?_
            refine then_ret ?_
            refine then_ret ?_
            refine block_ret ?_
            refine then_ret ?_
            obtain rfl := Option.some.inj h
            obtain rfl : Sum.inl _ = x4 := hk4
            replace ho4 : some _ = some _ := ho4
            obtain rfl := Option.some.inj ho4
            refine ⟨Or.inr rfl, _, _, _, (resVs_cons (ResV.tmp _ _ rfl) resVs_nil), (pubA_id rfl), ?_⟩
            rfl
          · replace h := ite_f hc h
            clear hc
            refine cskip ?_
            refine block_normal ?_
            refine then_normal ?_
            refine cregion ?_
            refine sv rfl (opv_mv rfl) ?_
            refine sv rfl (opv_add rfl rfl) ?_
            refine sv rfl (opv_as rfl) ?_
            refine snil ?_
            obtain rfl := Option.some.inj h
            exact ⟨(n4, (wI (s4 + 1))), _, hk4, ⟨rfl, rfl, rfl, trivial⟩, rfl, Nat.lt_succ_self _⟩
        · replace h := ite_f hc h
          clear hc
          refine cexit ?_
          refine then_exit ?_
          refine then_exit ?_
          refine block_hit ?_
          refine then_normal ?_
          obtain rfl := Option.some.inj h
          obtain rfl : _ = x4 := hk4
          exact ⟨(), _, ho4, trivial, rfl⟩
    · skip
      refine cblock ?_
      obtain ⟨x9, hx9, ho9⟩ := bind_eq h
      refine awc_loop (G := Nat × (Int)) (fun g => [(2, .s (.one (.lp 0 0))), (3, .s (.one (.lp 1 0))), (5, .s (.one (.i .i64 g.2)))]) (fun g => [.box [.i .i64 a0.Win.Base, .i .u64 (a0.Win.Bits.toNat : Int), .i .i64 a0.Next, .sl a0.Wait.length (a0.Wait.flatMap eGR05Req), .sl a0.Past.length (a0.Past.flatMap eGR05Reply)], .box [.i .i64 a1.Win.Base, .i .u64 (a1.Win.Bits.toNat : Int), .i .i64 a1.Next, .sl a1.Wait.length (a1.Wait.flatMap eGR05Req), .sl a1.Past.length (a1.Past.flatMap eGR05Reply)]]) (fun g => iter (m21_r16_Same_s9 a0 a1) g.1 g.2 = some x9) (fun g => g.1) (fuel, 0) hx9 ⟨rfl, rfl, rfl, trivial⟩ [] rfl (fun _ _ => inbL_of rfl) (fun _ _ => blkinb_of rfl) (fun _ _ => Nat.le_of_ble_eq_true rfl) ?_
      clear hx9 h
      rintro ⟨n9, s9⟩ h
      obtain ⟨n9, y9, rfl, h, hk9⟩ := iter_eq h
      unfold m21_r16_Same_s9 at h
      refine cseq ?_
      refine cseq ?_
      refine cregion ?_
      refine sv rfl (opv_mv rfl) ?_
      refine sv rfl (opv_fieldAddr_lp fi28_2 rfl) ?_
      refine sv rfl (opv_load1 ti25 rfl (.lp _ _ _ rfl) rfl) ?_
      refine sv rfl (opv_len_sl si25 rfl) ?_
      refine sv rfl (opv_lss rfl rfl) ?_
      refine snil ?_
      refine ccond rfl (fun hc => ?_) (fun hc => ?_)
      · replace h := ite_t hc h
        clear hc
        refine cskip ?_
        refine then_normal ?_
        refine cseq ?_
        refine cblock ?_
        refine cseq ?_
        refine cdraw mixed (by kernel_rfl) ?_
        refine dv rfl (opv_fieldAddr_lp fi28_2 rfl) ?_
        refine dv rfl (opv_load1 ti25 rfl (.lp _ _ _ rfl) rfl) ?_
        refine dv rfl (opv_mv rfl) ?_
        obtain ⟨u10, hu10, h⟩ := bind_eq h
        refine dv rfl (opv_ix (f := eGR05Req) si25 (fun _ => rfl) rfl rfl rfl rfl hu10) ?_
        refine dv rfl (opv_loadNe (ys := [.i .i64 u10.Kind, .i .i64 u10.Seq, .i .i64 u10.Token, .i .i64 u10.Attempt, .b u10.RO, .sl u10.Key.length (u10.Key.flatMap eU8), .sl u10.Val.length (u10.Val.flatMap eU8), .sl u10.Rng.Lo.length (u10.Rng.Lo.flatMap eU8), .sl u10.Rng.Hi.length (u10.Rng.Hi.flatMap eU8), .b u10.Rng.Open]) ti33 rfl (.cp _) rfl rfl) ?_
        refine dv rfl (opv_fieldAddr_lp fi28_2 rfl) ?_
        refine dv rfl (opv_load1 ti25 rfl (.lp _ _ _ rfl) rfl) ?_
        refine dv rfl (opv_mv rfl) ?_
        obtain ⟨u11, hu11, h⟩ := bind_eq h
        refine dv rfl (opv_ix (f := eGR05Req) si25 (fun _ => rfl) rfl rfl rfl rfl hu11) ?_
        refine dv rfl (opv_loadNe (ys := [.i .i64 u11.Kind, .i .i64 u11.Seq, .i .i64 u11.Token, .i .i64 u11.Attempt, .b u11.RO, .sl u11.Key.length (u11.Key.flatMap eU8), .sl u11.Val.length (u11.Val.flatMap eU8), .sl u11.Rng.Lo.length (u11.Rng.Lo.flatMap eU8), .sl u11.Rng.Hi.length (u11.Rng.Hi.flatMap eU8), .b u11.Rng.Open]) ti33 rfl (.cp _) rfl rfl) ?_
        obtain ⟨v12, hv12, h⟩ := bind_eq h
        refine dd rfl (opD_call fn25 (opnds_cons rfl (opnds_cons rfl opnds_nil)) rfl (m25_r05_SameReq_c hv12)) ?_
        refine dv rfl (opv_not rfl) ?_
        refine dnil ?_
        refine then_normal ?_
        refine ccond rfl (fun hc => ?_) (fun hc => ?_)
        · replace h := ite_t hc h
          clear hc
          refine cseq ?_
          refine cregion ?_
          refine sv rfl (opv_as rfl) ?_
          refine snil ?_
          refine cret ?_
          refine block_ret ?_
          refine then_ret ?_
          refine then_ret ?_
          refine block_ret ?_
          refine then_ret ?_
          obtain rfl := Option.some.inj h
          obtain rfl : Sum.inl _ = x9 := hk9
          replace ho9 : some _ = some _ := ho9
          obtain rfl := Option.some.inj ho9
          refine ⟨Or.inr rfl, _, _, _, (resVs_cons (ResV.tmp _ _ rfl) resVs_nil), (pubA_id rfl), ?_⟩
          rfl
        · replace h := ite_f hc h
          clear hc
          refine cskip ?_
          refine block_normal ?_
          refine then_normal ?_
          refine cregion ?_
          refine sv rfl (opv_mv rfl) ?_
          refine sv rfl (opv_add rfl rfl) ?_
          refine sv rfl (opv_as rfl) ?_
          refine snil ?_
          obtain rfl := Option.some.inj h
          exact ⟨(n9, (wI (s9 + 1))), _, hk9, ⟨rfl, rfl, rfl, trivial⟩, rfl, Nat.lt_succ_self _⟩
      · replace h := ite_f hc h
        clear hc
        refine cexit ?_
        refine then_exit ?_
        refine then_exit ?_
        refine block_hit ?_
        refine then_normal ?_
        obtain rfl := Option.some.inj h
        obtain rfl : _ = x9 := hk9
        exact ⟨(), _, ho9, ⟨rfl, rfl, trivial⟩, rfl⟩
  · skip
    refine cregion ?_
    refine sv rfl (opv_fieldAddr_lp fi28_0 rfl) ?_
    refine sv rfl (opv_loadN ti24 rfl (.lp _ _ _ rfl) (Nat.le_of_ble_eq_true rfl)) ?_
    refine sv rfl (opv_fieldAddr_lp fi28_0 rfl) ?_
    refine sv rfl (opv_loadN ti24 rfl (.lp _ _ _ rfl) (Nat.le_of_ble_eq_true rfl)) ?_
    refine sv rfl (opv_stneq et24 rfl rfl rfl rfl rfl) ?_
    refine sv rfl (opv_mv rfl) ?_
    refine ssplit 12 rfl (fun hc => ?_) (fun hc => ?_)
    · replace h := ite_t hc h
      clear hc
      refine soff rfl rfl rfl rfl ?_
      refine soff rfl rfl rfl rfl ?_
      refine soff rfl rfl rfl rfl ?_
      refine soff rfl rfl rfl rfl ?_
      refine soff rfl rfl rfl rfl ?_
      refine sv rfl (opv_pick_t rfl rfl) ?_
      refine sv rfl (opv_mv rfl) ?_
      refine soff rfl rfl rfl rfl ?_
      refine soff rfl rfl rfl rfl ?_
      refine soff rfl rfl rfl rfl ?_
      refine soff rfl rfl rfl rfl ?_
      refine soff rfl rfl rfl rfl ?_
      refine soff rfl rfl rfl rfl ?_
      refine soff rfl rfl rfl rfl ?_
      refine sv rfl (opv_pick_t rfl rfl) ?_
      refine sv rfl (opv_mv rfl) ?_
      refine soff rfl rfl rfl rfl ?_
      refine soff rfl rfl rfl rfl ?_
      refine soff rfl rfl rfl rfl ?_
      refine soff rfl rfl rfl rfl ?_
      refine soff rfl rfl rfl rfl ?_
      refine soff rfl rfl rfl rfl ?_
      refine soff rfl rfl rfl rfl ?_
      refine sv rfl (opv_pick_t rfl rfl) ?_
      refine snil ?_
      refine ccond rfl (fun _ => ?_) (fun hx => Bool.noConfusion hx)
      refine cseq ?_
      refine cregion ?_
      refine sv rfl (opv_as rfl) ?_
      refine snil ?_
      refine cret ?_
      refine then_ret ?_
      obtain rfl := Option.some.inj h
      refine ⟨Or.inr rfl, _, _, _, (resVs_cons (ResV.tmp _ _ rfl) resVs_nil), (pubA_id rfl), ?_⟩
      rfl
    · replace h := ite_f hc h
      clear hc
      refine son rfl rfl rfl ?_
      refine sv rfl (opv_fieldAddr_lp fi28_1 rfl) ?_
      refine son rfl rfl rfl ?_
      refine sv rfl (opv_load1 ti3 rfl (.lp _ _ _ rfl) rfl) ?_
      refine son rfl rfl rfl ?_
      refine sv rfl (opv_fieldAddr_lp fi28_1 rfl) ?_
      refine son rfl rfl rfl ?_
      refine sv rfl (opv_load1 ti3 rfl (.lp _ _ _ rfl) rfl) ?_
      refine son rfl rfl rfl ?_
      refine sv rfl (opv_ineq rfl rfl) ?_
      refine sv rfl (opv_pick_f rfl rfl) ?_
      refine sv rfl (opv_mv rfl) ?_
      refine ssplit 19 rfl (fun hc => ?_) (fun hc => ?_)
      · replace h := ite_t hc h
        clear hc
        refine soff rfl rfl rfl rfl ?_
        refine soff rfl rfl rfl rfl ?_
        refine soff rfl rfl rfl rfl ?_
        refine soff rfl rfl rfl rfl ?_
        refine soff rfl rfl rfl rfl ?_
        refine soff rfl rfl rfl rfl ?_
        refine soff rfl rfl rfl rfl ?_
        refine sv rfl (opv_pick_t rfl rfl) ?_
        refine sv rfl (opv_mv rfl) ?_
        refine soff rfl rfl rfl rfl ?_
        refine soff rfl rfl rfl rfl ?_
        refine soff rfl rfl rfl rfl ?_
        refine soff rfl rfl rfl rfl ?_
        refine soff rfl rfl rfl rfl ?_
        refine soff rfl rfl rfl rfl ?_
        refine soff rfl rfl rfl rfl ?_
        refine sv rfl (opv_pick_t rfl rfl) ?_
        refine snil ?_
        refine ccond rfl (fun _ => ?_) (fun hx => Bool.noConfusion hx)
        refine cseq ?_
        refine cregion ?_
        refine sv rfl (opv_as rfl) ?_
        refine snil ?_
        refine cret ?_
        refine then_ret ?_
        obtain rfl := Option.some.inj h
        refine ⟨Or.inr rfl, _, _, _, (resVs_cons (ResV.tmp _ _ rfl) resVs_nil), (pubA_id rfl), ?_⟩
        rfl
      · replace h := ite_f hc h
        clear hc
        refine son rfl rfl rfl ?_
        refine sv rfl (opv_fieldAddr_lp fi28_2 rfl) ?_
        refine son rfl rfl rfl ?_
        refine sv rfl (opv_load1 ti25 rfl (.lp _ _ _ rfl) rfl) ?_
        refine son rfl rfl rfl ?_
        refine sv rfl (opv_len_sl si25 rfl) ?_
        refine son rfl rfl rfl ?_
        refine sv rfl (opv_fieldAddr_lp fi28_2 rfl) ?_
        refine son rfl rfl rfl ?_
        refine sv rfl (opv_load1 ti25 rfl (.lp _ _ _ rfl) rfl) ?_
        refine son rfl rfl rfl ?_
        refine sv rfl (opv_len_sl si25 rfl) ?_
        refine son rfl rfl rfl ?_
        refine sv rfl (opv_ineq rfl rfl) ?_
        refine sv rfl (opv_pick_f rfl rfl) ?_
        refine sv rfl (opv_mv rfl) ?_
        refine ssplit 28 rfl (fun hc => ?_) (fun hc => ?_)
        · replace h := ite_t hc h
          clear hc
          refine soff rfl rfl rfl rfl ?_
          refine soff rfl rfl rfl rfl ?_
          refine soff rfl rfl rfl rfl ?_
          refine soff rfl rfl rfl rfl ?_
          refine soff rfl rfl rfl rfl ?_
          refine soff rfl rfl rfl rfl ?_
          refine soff rfl rfl rfl rfl ?_
          refine sv rfl (opv_pick_t rfl rfl) ?_
          refine snil ?_
          refine ccond rfl (fun _ => ?_) (fun hx => Bool.noConfusion hx)
          refine cseq ?_
          refine cregion ?_
          refine sv rfl (opv_as rfl) ?_
          refine snil ?_
          refine cret ?_
          refine then_ret ?_
          obtain rfl := Option.some.inj h
          refine ⟨Or.inr rfl, _, _, _, (resVs_cons (ResV.tmp _ _ rfl) resVs_nil), (pubA_id rfl), ?_⟩
          rfl
        · replace h := ite_f hc h
          clear hc
          refine son rfl rfl rfl ?_
          refine sv rfl (opv_fieldAddr_lp fi28_3 rfl) ?_
          refine son rfl rfl rfl ?_
          refine sv rfl (opv_load1 ti26 rfl (.lp _ _ _ rfl) rfl) ?_
          refine son rfl rfl rfl ?_
          refine sv rfl (opv_len_sl si26 rfl) ?_
          refine son rfl rfl rfl ?_
          refine sv rfl (opv_fieldAddr_lp fi28_3 rfl) ?_
          refine son rfl rfl rfl ?_
          refine sv rfl (opv_load1 ti26 rfl (.lp _ _ _ rfl) rfl) ?_
          refine son rfl rfl rfl ?_
          refine sv rfl (opv_len_sl si26 rfl) ?_
          refine son rfl rfl rfl ?_
          refine sv rfl (opv_ineq rfl rfl) ?_
          refine sv rfl (opv_pick_f rfl rfl) ?_
          refine snil ?_
          refine ccond rfl (fun hc => ?_) (fun hc => ?_)
          · replace h := ite_t hc h
            clear hc
            refine cseq ?_
            refine cregion ?_
            refine sv rfl (opv_as rfl) ?_
            refine snil ?_
            refine cret ?_
            refine then_ret ?_
            obtain rfl := Option.some.inj h
            refine ⟨Or.inr rfl, _, _, _, (resVs_cons (ResV.tmp _ _ rfl) resVs_nil), (pubA_id rfl), ?_⟩
            rfl
          · replace h := ite_f hc h
            clear hc
            refine cskip ?_
            refine then_normal ?_
            exact ⟨(), _, h, ⟨rfl, rfl, trivial⟩, rfl⟩

def m6_l16_PipeTwice_k10 (v1 : Bool) (v5 : GPipePipe × GMsgReply × Bool × Int) (v9 : GPipePipe × GMsgReply × Bool × Int) (b10 : Unit) : Option Bool :=
  if v1 then (if (decide (v9.2.2.2 = 0)) then (if (v9.2.2.1 == v5.2.2.1) then ((m22_l16_theirs (GPipePipe.mk (GSeqsWindow.mk v5.1.Win.Base v5.1.Win.Bits) v5.1.Next v5.1.Wait v5.1.Past)).bind fun v11 => (m22_l16_theirs (GPipePipe.mk (GSeqsWindow.mk v9.1.Win.Base v9.1.Win.Bits) v9.1.Next v9.1.Wait v9.1.Past)).bind fun v12 => (m21_r16_Same (GR16Pipe.mk (GR15Window.mk v11.Win.Base v11.Win.Bits) v11.Next v11.Wait v11.Past) (GR16Pipe.mk (GR15Window.mk v12.Win.Base v12.Win.Bits) v12.Next v12.Wait v12.Past)).bind fun v13 => if v13 then ((m27_pipe_Sane (GPipePipe.mk (GSeqsWindow.mk v5.1.Win.Base v5.1.Win.Bits) v5.1.Next v5.1.Wait v5.1.Past)).bind fun v14 => some v14) else (some false)) else (some false)) else (some false)) else (some false)

def m6_l16_PipeTwice_k2 (a0 : GR16Pipe) (a1 : GR05Req) (v1 : Bool) (b2 : Unit) : Option Bool :=
  (m12_l16_ours (GR16Pipe.mk (GR15Window.mk a0.Win.Base a0.Win.Bits) a0.Next a0.Wait a0.Past)).bind fun v3 => (m14_l16_req (GR05Req.mk a1.Kind a1.Seq a1.Token a1.Attempt a1.RO a1.Key a1.Val (GApiRange.mk a1.Rng.Lo a1.Rng.Hi a1.Rng.Open))).bind fun v4 => (m13_pipe_Offer (GPipePipe.mk (GSeqsWindow.mk v3.Win.Base v3.Win.Bits) v3.Next v3.Wait v3.Past) (GMsgReq.mk v4.Kind v4.Seq v4.Token v4.Attempt v4.RO v4.Key v4.Val (GApiRange.mk v4.Rng.Lo v4.Rng.Hi v4.Rng.Open))).bind fun v5 => if (!decide (v5.2.2.2 = 0)) then (if v1 then ((m22_l16_theirs (GPipePipe.mk (GSeqsWindow.mk v5.1.Win.Base v5.1.Win.Bits) v5.1.Next v5.1.Wait v5.1.Past)).bind fun v6 => (m21_r16_Same (GR16Pipe.mk (GR15Window.mk v6.Win.Base v6.Win.Bits) v6.Next v6.Wait v6.Past) (GR16Pipe.mk (GR15Window.mk 0 (0#64)) 0 ([] : List GR05Req) ([] : List GR05Reply))).bind fun v7 => if v7 then (some (!v5.2.2.1)) else (some false)) else (some false)) else ((m14_l16_req (GR05Req.mk a1.Kind a1.Seq a1.Token a1.Attempt a1.RO a1.Key a1.Val (GApiRange.mk a1.Rng.Lo a1.Rng.Hi a1.Rng.Open))).bind fun v8 => (m13_pipe_Offer (GPipePipe.mk (GSeqsWindow.mk v5.1.Win.Base v5.1.Win.Bits) v5.1.Next v5.1.Wait v5.1.Past) (GMsgReq.mk v8.Kind v8.Seq v8.Token v8.Attempt v8.RO v8.Key v8.Val (GApiRange.mk v8.Rng.Lo v8.Rng.Hi v8.Rng.Open))).bind fun v9 => if v5.2.2.1 then ((m22_l16_theirs (GPipePipe.mk (GSeqsWindow.mk v5.1.Win.Base v5.1.Win.Bits) v5.1.Next v5.1.Wait v5.1.Past)).bind fun v15 => (m21_r16_Same (GR16Pipe.mk (GR15Window.mk v15.Win.Base v15.Win.Bits) v15.Next v15.Wait v15.Past) (GR16Pipe.mk (GR15Window.mk a0.Win.Base a0.Win.Bits) a0.Next a0.Wait a0.Past)).bind fun v16 => if (!v16) then (some false) else (m6_l16_PipeTwice_k10 v1 v5 v9 ())) else (m6_l16_PipeTwice_k10 v1 v5 v9 ()))
def m6_l16_PipeTwice (a0 : GR16Pipe) (a1 : GR05Req) : Option Bool :=
  (m8_l16_awake).bind fun v1 => (m9_r16_Few (GR16Pipe.mk (GR15Window.mk a0.Win.Base a0.Win.Bits) a0.Next a0.Wait a0.Past)).bind fun v17 => if (!v17) then (some v1) else ((m10_r05_Few (GR05Req.mk a1.Kind a1.Seq a1.Token a1.Attempt a1.RO a1.Key a1.Val (GApiRange.mk a1.Rng.Lo a1.Rng.Hi a1.Rng.Open))).bind fun v18 => if (!v18) then (some v1) else (m6_l16_PipeTwice_k2 a0 a1 v1 ()))

set_option maxRecDepth 100000 in
theorem m6_l16_PipeTwice_c {a0 : GR16Pipe} {a1 : GR05Req} {r : Bool} (h : m6_l16_PipeTwice a0 a1 = some r) : CallsA Tryd.prog 6 [.agg [.i .i64 a0.Win.Base, .i .u64 (a0.Win.Bits.toNat : Int), .i .i64 a0.Next, .sl a0.Wait.length (a0.Wait.flatMap eGR05Req), .sl a0.Past.length (a0.Past.flatMap eGR05Reply)], .agg [.i .i64 a1.Kind, .i .i64 a1.Seq, .i .i64 a1.Token, .i .i64 a1.Attempt, .b a1.RO, .sl a1.Key.length (a1.Key.flatMap eU8), .sl a1.Val.length (a1.Val.flatMap eU8), .sl a1.Rng.Lo.length (a1.Rng.Lo.flatMap eU8), .sl a1.Rng.Hi.length (a1.Rng.Hi.flatMap eU8), .b a1.Rng.Open]] (· = .s (.one (.b r))) := by
  unfold m6_l16_PipeTwice at h
  refine callsA_of Tryd.func6 rfl (nt := 87) rfl (Nat.le_of_ble_eq_true rfl) ?_
  intro w0 S0
  refine cseq ?_
  refine cregion ?_
  refine sbox rfl rfl ?_
  refine sbox rfl rfl ?_
  refine sv rfl (opv_as rfl) ?_
  refine snil ?_
  refine cseq ?_
  refine cregion ?_
  obtain ⟨v1, hv1, h⟩ := bind_eq h
  refine scall1 rfl fn8 opnds_nil (pubA_id rfl) (m8_l16_awake_c hv1) ?_
  refine sv rfl (opv_as rfl) ?_
  refine snil ?_
  refine cseq ?_
  refine cseq ?_
  refine cjoin3 (Unit) (fun b2 => [(2, .s (.one (.lp 0 0))), (3, .s (.one (.lp 1 0))), (5, .s (.one (.b v1)))]) (fun b2 => [.box [.i .i64 a0.Win.Base, .i .u64 (a0.Win.Bits.toNat : Int), .i .i64 a0.Next, .sl a0.Wait.length (a0.Wait.flatMap eGR05Req), .sl a0.Past.length (a0.Past.flatMap eGR05Reply)], .box [.i .i64 a1.Kind, .i .i64 a1.Seq, .i .i64 a1.Token, .i .i64 a1.Attempt, .b a1.RO, .sl a1.Key.length (a1.Key.flatMap eU8), .sl a1.Val.length (a1.Val.flatMap eU8), .sl a1.Rng.Lo.length (a1.Rng.Lo.flatMap eU8), .sl a1.Rng.Hi.length (a1.Rng.Hi.flatMap eU8), .b a1.Rng.Open]]) (fun b2 => m6_l16_PipeTwice_k2 a0 a1 v1 b2 = some r) (fun _ _ => inbL_of rfl) (fun _ _ => blkinb_of rfl) (fun _ _ => Nat.le_of_ble_eq_true rfl) (fun b2 h => ?_) ?_
  · unfold m6_l16_PipeTwice_k2 at h
    refine cseq ?_
    refine cregion ?_
    refine sv rfl (opv_loadN ti28 rfl (.lp _ _ _ rfl) (Nat.le_of_ble_eq_true rfl)) ?_
    obtain ⟨v3, hv3, h⟩ := bind_eq h
    refine scall1 rfl fn12 (opnds_cons rfl opnds_nil) (pubA_id rfl) (m12_l16_ours_c hv3) ?_
    refine salloc rfl zi46 ?_
    refine sstore sz46 rfl rfl rfl rfl (Nat.le_of_ble_eq_true rfl) ?_
    refine smem [.box [.i .i64 a0.Win.Base, .i .u64 (a0.Win.Bits.toNat : Int), .i .i64 a0.Next, .sl a0.Wait.length (a0.Wait.flatMap eGR05Req), .sl a0.Past.length (a0.Past.flatMap eGR05Reply)], .box [.i .i64 a1.Kind, .i .i64 a1.Seq, .i .i64 a1.Token, .i .i64 a1.Attempt, .b a1.RO, .sl a1.Key.length (a1.Key.flatMap eU8), .sl a1.Val.length (a1.Val.flatMap eU8), .sl a1.Rng.Lo.length (a1.Rng.Lo.flatMap eU8), .sl a1.Rng.Hi.length (a1.Rng.Hi.flatMap eU8), .b a1.Rng.Open], .box [.i .i64 v3.Win.Base, .i .u64 (v3.Win.Bits.toNat : Int), .i .i64 v3.Next, .sl v3.Wait.length (v3.Wait.flatMap eGMsgReq), .sl v3.Past.length (v3.Past.flatMap eGMsgReply)]] rfl ?_
    refine snil ?_
    refine cseq ?_
    refine chole ?_
    refine chole ?_
    obtain ⟨v4, hv4, h⟩ := bind_eq h
    obtain ⟨v5, hv5, h⟩ := bind_eq h
    refine cdraw_m [9, 10, 11, 12] [0, 0, 2, 7, 15, 31, 31, 31, 31, 0, 0, 1599, 3711, 7935, 16383] [([false, false, false, false], [.box [.i .i64 a0.Win.Base, .i .u64 (a0.Win.Bits.toNat : Int), .i .i64 a0.Next, .sl a0.Wait.length (a0.Wait.flatMap eGR05Req), .sl a0.Past.length (a0.Past.flatMap eGR05Reply)], .box [.i .i64 a1.Kind, .i .i64 a1.Seq, .i .i64 a1.Token, .i .i64 a1.Attempt, .b a1.RO, .sl a1.Key.length (a1.Key.flatMap eU8), .sl a1.Val.length (a1.Val.flatMap eU8), .sl a1.Rng.Lo.length (a1.Rng.Lo.flatMap eU8), .sl a1.Rng.Hi.length (a1.Rng.Hi.flatMap eU8), .b a1.Rng.Open], .box [.i .i64 v3.Win.Base, .i .u64 (v3.Win.Bits.toNat : Int), .i .i64 v3.Next, .sl v3.Wait.length (v3.Wait.flatMap eGMsgReq), .sl v3.Past.length (v3.Past.flatMap eGMsgReply)], .hole, .hole]), ([false, true, false, false], [.box [.i .i64 a0.Win.Base, .i .u64 (a0.Win.Bits.toNat : Int), .i .i64 a0.Next, .sl a0.Wait.length (a0.Wait.flatMap eGR05Req), .sl a0.Past.length (a0.Past.flatMap eGR05Reply)], .box [.i .i64 a1.Kind, .i .i64 a1.Seq, .i .i64 a1.Token, .i .i64 a1.Attempt, .b a1.RO, .sl a1.Key.length (a1.Key.flatMap eU8), .sl a1.Val.length (a1.Val.flatMap eU8), .sl a1.Rng.Lo.length (a1.Rng.Lo.flatMap eU8), .sl a1.Rng.Hi.length (a1.Rng.Hi.flatMap eU8), .b a1.Rng.Open], .box [.i .i64 v3.Win.Base, .i .u64 (v3.Win.Bits.toNat : Int), .i .i64 v3.Next, .sl v3.Wait.length (v3.Wait.flatMap eGMsgReq), .sl v3.Past.length (v3.Past.flatMap eGMsgReply)], .hole, .box [.i .i64 0, .i .i64 0, .i .i64 0, .i .i64 0, .b false, .raw (.slice none 0 0), .raw (.slice none 0 0)]]), ([true, false, false, false], [.box [.i .i64 a0.Win.Base, .i .u64 (a0.Win.Bits.toNat : Int), .i .i64 a0.Next, .sl a0.Wait.length (a0.Wait.flatMap eGR05Req), .sl a0.Past.length (a0.Past.flatMap eGR05Reply)], .box [.i .i64 a1.Kind, .i .i64 a1.Seq, .i .i64 a1.Token, .i .i64 a1.Attempt, .b a1.RO, .sl a1.Key.length (a1.Key.flatMap eU8), .sl a1.Val.length (a1.Val.flatMap eU8), .sl a1.Rng.Lo.length (a1.Rng.Lo.flatMap eU8), .sl a1.Rng.Hi.length (a1.Rng.Hi.flatMap eU8), .b a1.Rng.Open], .box [.i .i64 v3.Win.Base, .i .u64 (v3.Win.Bits.toNat : Int), .i .i64 v3.Next, .sl v3.Wait.length (v3.Wait.flatMap eGMsgReq), .sl v3.Past.length (v3.Past.flatMap eGMsgReply)], .box [.i .i64 0, .i .u64 ((0#64).toNat : Int), .i .i64 0, .raw (.slice none 0 0), .raw (.slice none 0 0)], .hole]), ([true, true, false, false], [.box [.i .i64 a0.Win.Base, .i .u64 (a0.Win.Bits.toNat : Int), .i .i64 a0.Next, .sl a0.Wait.length (a0.Wait.flatMap eGR05Req), .sl a0.Past.length (a0.Past.flatMap eGR05Reply)], .box [.i .i64 a1.Kind, .i .i64 a1.Seq, .i .i64 a1.Token, .i .i64 a1.Attempt, .b a1.RO, .sl a1.Key.length (a1.Key.flatMap eU8), .sl a1.Val.length (a1.Val.flatMap eU8), .sl a1.Rng.Lo.length (a1.Rng.Lo.flatMap eU8), .sl a1.Rng.Hi.length (a1.Rng.Hi.flatMap eU8), .b a1.Rng.Open], .box [.i .i64 v3.Win.Base, .i .u64 (v3.Win.Bits.toNat : Int), .i .i64 v3.Next, .sl v3.Wait.length (v3.Wait.flatMap eGMsgReq), .sl v3.Past.length (v3.Past.flatMap eGMsgReply)], .box [.i .i64 0, .i .u64 ((0#64).toNat : Int), .i .i64 0, .raw (.slice none 0 0), .raw (.slice none 0 0)], .box [.i .i64 0, .i .i64 0, .i .i64 0, .i .i64 0, .b false, .raw (.slice none 0 0), .raw (.slice none 0 0)]]), ([true, true, true, false], [.box [.i .i64 a0.Win.Base, .i .u64 (a0.Win.Bits.toNat : Int), .i .i64 a0.Next, .sl a0.Wait.length (a0.Wait.flatMap eGR05Req), .sl a0.Past.length (a0.Past.flatMap eGR05Reply)], .box [.i .i64 a1.Kind, .i .i64 a1.Seq, .i .i64 a1.Token, .i .i64 a1.Attempt, .b a1.RO, .sl a1.Key.length (a1.Key.flatMap eU8), .sl a1.Val.length (a1.Val.flatMap eU8), .sl a1.Rng.Lo.length (a1.Rng.Lo.flatMap eU8), .sl a1.Rng.Hi.length (a1.Rng.Hi.flatMap eU8), .b a1.Rng.Open], .box [.i .i64 v3.Win.Base, .i .u64 (v3.Win.Bits.toNat : Int), .i .i64 v3.Next, .sl v3.Wait.length (v3.Wait.flatMap eGMsgReq), .sl v3.Past.length (v3.Past.flatMap eGMsgReply)], .box [.i .i64 v5.1.Win.Base, .i .u64 (v5.1.Win.Bits.toNat : Int), .i .i64 v5.1.Next, .sl v5.1.Wait.length (v5.1.Wait.flatMap eGMsgReq), .sl v5.1.Past.length (v5.1.Past.flatMap eGMsgReply)], .box [.i .i64 0, .i .i64 0, .i .i64 0, .i .i64 0, .b false, .raw (.slice none 0 0), .raw (.slice none 0 0)]]), ([true, true, true, true], [.box [.i .i64 a0.Win.Base, .i .u64 (a0.Win.Bits.toNat : Int), .i .i64 a0.Next, .sl a0.Wait.length (a0.Wait.flatMap eGR05Req), .sl a0.Past.length (a0.Past.flatMap eGR05Reply)], .box [.i .i64 a1.Kind, .i .i64 a1.Seq, .i .i64 a1.Token, .i .i64 a1.Attempt, .b a1.RO, .sl a1.Key.length (a1.Key.flatMap eU8), .sl a1.Val.length (a1.Val.flatMap eU8), .sl a1.Rng.Lo.length (a1.Rng.Lo.flatMap eU8), .sl a1.Rng.Hi.length (a1.Rng.Hi.flatMap eU8), .b a1.Rng.Open], .box [.i .i64 v3.Win.Base, .i .u64 (v3.Win.Bits.toNat : Int), .i .i64 v3.Next, .sl v3.Wait.length (v3.Wait.flatMap eGMsgReq), .sl v3.Past.length (v3.Past.flatMap eGMsgReply)], .box [.i .i64 v5.1.Win.Base, .i .u64 (v5.1.Win.Bits.toNat : Int), .i .i64 v5.1.Next, .sl v5.1.Wait.length (v5.1.Wait.flatMap eGMsgReq), .sl v5.1.Past.length (v5.1.Past.flatMap eGMsgReply)], .box [.i .i64 v5.2.1.Kind, .i .i64 v5.2.1.Seq, .i .i64 v5.2.1.Code, .i .i64 v5.2.1.N, .b v5.2.1.Found, .sl v5.2.1.Val.length (v5.2.1.Val.flatMap eU8), .sl v5.2.1.List.length (v5.2.1.List.flatMap eGApiKV)]])] (by kernel_rfl) mixed (by kernel_rfl) (by decide) rfl (by kernel_rfl) rfl rfl ?_
    refine mev (md := [.box [.i .i64 a0.Win.Base, .i .u64 (a0.Win.Bits.toNat : Int), .i .i64 a0.Next, .sl a0.Wait.length (a0.Wait.flatMap eGR05Req), .sl a0.Past.length (a0.Past.flatMap eGR05Reply)], .box [.i .i64 a1.Kind, .i .i64 a1.Seq, .i .i64 a1.Token, .i .i64 a1.Attempt, .b a1.RO, .sl a1.Key.length (a1.Key.flatMap eU8), .sl a1.Val.length (a1.Val.flatMap eU8), .sl a1.Rng.Lo.length (a1.Rng.Lo.flatMap eU8), .sl a1.Rng.Hi.length (a1.Rng.Hi.flatMap eU8), .b a1.Rng.Open], .box [.i .i64 v3.Win.Base, .i .u64 (v3.Win.Bits.toNat : Int), .i .i64 v3.Next, .sl v3.Wait.length (v3.Wait.flatMap eGMsgReq), .sl v3.Past.length (v3.Past.flatMap eGMsgReply)], .dead, .dead]) (alle_t rfl ⟨rfl, ⟨rfl, ⟨rfl, ⟨trivial, ⟨trivial, trivial⟩⟩⟩⟩⟩ (alle_t rfl ⟨rfl, ⟨rfl, ⟨rfl, ⟨trivial, ⟨trivial, trivial⟩⟩⟩⟩⟩ (alle_t rfl ⟨rfl, ⟨rfl, ⟨rfl, ⟨trivial, ⟨trivial, trivial⟩⟩⟩⟩⟩ (alle_t rfl ⟨rfl, ⟨rfl, ⟨rfl, ⟨trivial, ⟨trivial, trivial⟩⟩⟩⟩⟩ (alle_f rfl (alle_f rfl alle_nil)))))) rfl rfl (opv_loadN ti46 rfl (.lp _ _ _ rfl) (Nat.le_of_ble_eq_true rfl)) ?_
    refine mev (md := [.box [.i .i64 a0.Win.Base, .i .u64 (a0.Win.Bits.toNat : Int), .i .i64 a0.Next, .sl a0.Wait.length (a0.Wait.flatMap eGR05Req), .sl a0.Past.length (a0.Past.flatMap eGR05Reply)], .box [.i .i64 a1.Kind, .i .i64 a1.Seq, .i .i64 a1.Token, .i .i64 a1.Attempt, .b a1.RO, .sl a1.Key.length (a1.Key.flatMap eU8), .sl a1.Val.length (a1.Val.flatMap eU8), .sl a1.Rng.Lo.length (a1.Rng.Lo.flatMap eU8), .sl a1.Rng.Hi.length (a1.Rng.Hi.flatMap eU8), .b a1.Rng.Open], .box [.i .i64 v3.Win.Base, .i .u64 (v3.Win.Bits.toNat : Int), .i .i64 v3.Next, .sl v3.Wait.length (v3.Wait.flatMap eGMsgReq), .sl v3.Past.length (v3.Past.flatMap eGMsgReply)], .dead, .dead]) (alle_t rfl ⟨rfl, ⟨rfl, ⟨rfl, ⟨trivial, ⟨trivial, trivial⟩⟩⟩⟩⟩ (alle_t rfl ⟨rfl, ⟨rfl, ⟨rfl, ⟨trivial, ⟨trivial, trivial⟩⟩⟩⟩⟩ (alle_t rfl ⟨rfl, ⟨rfl, ⟨rfl, ⟨trivial, ⟨trivial, trivial⟩⟩⟩⟩⟩ (alle_t rfl ⟨rfl, ⟨rfl, ⟨rfl, ⟨trivial, ⟨trivial, trivial⟩⟩⟩⟩⟩ (alle_f rfl (alle_f rfl alle_nil)))))) rfl rfl (opv_loadN ti33 rfl (.lp _ _ _ rfl) (Nat.le_of_ble_eq_true rfl)) ?_
    refine med (md := [.box [.i .i64 a0.Win.Base, .i .u64 (a0.Win.Bits.toNat : Int), .i .i64 a0.Next, .sl a0.Wait.length (a0.Wait.flatMap eGR05Req), .sl a0.Past.length (a0.Past.flatMap eGR05Reply)], .box [.i .i64 a1.Kind, .i .i64 a1.Seq, .i .i64 a1.Token, .i .i64 a1.Attempt, .b a1.RO, .sl a1.Key.length (a1.Key.flatMap eU8), .sl a1.Val.length (a1.Val.flatMap eU8), .sl a1.Rng.Lo.length (a1.Rng.Lo.flatMap eU8), .sl a1.Rng.Hi.length (a1.Rng.Hi.flatMap eU8), .b a1.Rng.Open], .box [.i .i64 v3.Win.Base, .i .u64 (v3.Win.Bits.toNat : Int), .i .i64 v3.Next, .sl v3.Wait.length (v3.Wait.flatMap eGMsgReq), .sl v3.Past.length (v3.Past.flatMap eGMsgReply)], .dead, .dead]) (alle_t rfl ⟨rfl, ⟨rfl, ⟨rfl, ⟨trivial, ⟨trivial, trivial⟩⟩⟩⟩⟩ (alle_t rfl ⟨rfl, ⟨rfl, ⟨rfl, ⟨trivial, ⟨trivial, trivial⟩⟩⟩⟩⟩ (alle_t rfl ⟨rfl, ⟨rfl, ⟨rfl, ⟨trivial, ⟨trivial, trivial⟩⟩⟩⟩⟩ (alle_t rfl ⟨rfl, ⟨rfl, ⟨rfl, ⟨trivial, ⟨trivial, trivial⟩⟩⟩⟩⟩ (alle_f rfl (alle_f rfl alle_nil)))))) rfl rfl (opD_call fn14 (opnds_cons rfl opnds_nil) rfl (m14_l16_req_c hv4)) ?_
    refine med (md := [.box [.i .i64 a0.Win.Base, .i .u64 (a0.Win.Bits.toNat : Int), .i .i64 a0.Next, .sl a0.Wait.length (a0.Wait.flatMap eGR05Req), .sl a0.Past.length (a0.Past.flatMap eGR05Reply)], .box [.i .i64 a1.Kind, .i .i64 a1.Seq, .i .i64 a1.Token, .i .i64 a1.Attempt, .b a1.RO, .sl a1.Key.length (a1.Key.flatMap eU8), .sl a1.Val.length (a1.Val.flatMap eU8), .sl a1.Rng.Lo.length (a1.Rng.Lo.flatMap eU8), .sl a1.Rng.Hi.length (a1.Rng.Hi.flatMap eU8), .b a1.Rng.Open], .box [.i .i64 v3.Win.Base, .i .u64 (v3.Win.Bits.toNat : Int), .i .i64 v3.Next, .sl v3.Wait.length (v3.Wait.flatMap eGMsgReq), .sl v3.Past.length (v3.Past.flatMap eGMsgReply)], .dead, .dead]) (alle_t rfl ⟨rfl, ⟨rfl, ⟨rfl, ⟨trivial, ⟨trivial, trivial⟩⟩⟩⟩⟩ (alle_t rfl ⟨rfl, ⟨rfl, ⟨rfl, ⟨trivial, ⟨trivial, trivial⟩⟩⟩⟩⟩ (alle_t rfl ⟨rfl, ⟨rfl, ⟨rfl, ⟨trivial, ⟨trivial, trivial⟩⟩⟩⟩⟩ (alle_t rfl ⟨rfl, ⟨rfl, ⟨rfl, ⟨trivial, ⟨trivial, trivial⟩⟩⟩⟩⟩ (alle_f rfl (alle_f rfl alle_nil)))))) rfl rfl (opD_call fn13 (opnds_cons rfl (opnds_cons rfl opnds_nil)) rfl (m13_pipe_Offer_c hv5)) ?_
    refine mem2 rfl rfl (fun _ => opv_mvt rfl) ?_
    refine mev (md := [.box [.i .i64 a0.Win.Base, .i .u64 (a0.Win.Bits.toNat : Int), .i .i64 a0.Next, .sl a0.Wait.length (a0.Wait.flatMap eGR05Req), .sl a0.Past.length (a0.Past.flatMap eGR05Reply)], .box [.i .i64 a1.Kind, .i .i64 a1.Seq, .i .i64 a1.Token, .i .i64 a1.Attempt, .b a1.RO, .sl a1.Key.length (a1.Key.flatMap eU8), .sl a1.Val.length (a1.Val.flatMap eU8), .sl a1.Rng.Lo.length (a1.Rng.Lo.flatMap eU8), .sl a1.Rng.Hi.length (a1.Rng.Hi.flatMap eU8), .b a1.Rng.Open], .box [.i .i64 v3.Win.Base, .i .u64 (v3.Win.Bits.toNat : Int), .i .i64 v3.Next, .sl v3.Wait.length (v3.Wait.flatMap eGMsgReq), .sl v3.Past.length (v3.Past.flatMap eGMsgReply)], .dead, .dead]) (alle_t rfl ⟨rfl, ⟨rfl, ⟨rfl, ⟨trivial, ⟨trivial, trivial⟩⟩⟩⟩⟩ (alle_t rfl ⟨rfl, ⟨rfl, ⟨rfl, ⟨trivial, ⟨trivial, trivial⟩⟩⟩⟩⟩ (alle_t rfl ⟨rfl, ⟨rfl, ⟨rfl, ⟨trivial, ⟨trivial, trivial⟩⟩⟩⟩⟩ (alle_t rfl ⟨rfl, ⟨rfl, ⟨rfl, ⟨trivial, ⟨trivial, trivial⟩⟩⟩⟩⟩ (alle_f rfl (alle_f rfl alle_nil)))))) rfl rfl (opv_extract rfl rfl) ?_
    refine mev (md := [.box [.i .i64 a0.Win.Base, .i .u64 (a0.Win.Bits.toNat : Int), .i .i64 a0.Next, .sl a0.Wait.length (a0.Wait.flatMap eGR05Req), .sl a0.Past.length (a0.Past.flatMap eGR05Reply)], .box [.i .i64 a1.Kind, .i .i64 a1.Seq, .i .i64 a1.Token, .i .i64 a1.Attempt, .b a1.RO, .sl a1.Key.length (a1.Key.flatMap eU8), .sl a1.Val.length (a1.Val.flatMap eU8), .sl a1.Rng.Lo.length (a1.Rng.Lo.flatMap eU8), .sl a1.Rng.Hi.length (a1.Rng.Hi.flatMap eU8), .b a1.Rng.Open], .box [.i .i64 v3.Win.Base, .i .u64 (v3.Win.Bits.toNat : Int), .i .i64 v3.Next, .sl v3.Wait.length (v3.Wait.flatMap eGMsgReq), .sl v3.Past.length (v3.Past.flatMap eGMsgReply)], .dead, .dead]) (alle_t rfl ⟨rfl, ⟨rfl, ⟨rfl, ⟨trivial, ⟨trivial, trivial⟩⟩⟩⟩⟩ (alle_t rfl ⟨rfl, ⟨rfl, ⟨rfl, ⟨trivial, ⟨trivial, trivial⟩⟩⟩⟩⟩ (alle_t rfl ⟨rfl, ⟨rfl, ⟨rfl, ⟨trivial, ⟨trivial, trivial⟩⟩⟩⟩⟩ (alle_t rfl ⟨rfl, ⟨rfl, ⟨rfl, ⟨trivial, ⟨trivial, trivial⟩⟩⟩⟩⟩ (alle_t rfl ⟨rfl, ⟨rfl, ⟨rfl, ⟨trivial, ⟨trivial, trivial⟩⟩⟩⟩⟩ (alle_f rfl alle_nil)))))) rfl rfl (opv_extract rfl rfl) ?_
    refine mev (md := [.box [.i .i64 a0.Win.Base, .i .u64 (a0.Win.Bits.toNat : Int), .i .i64 a0.Next, .sl a0.Wait.length (a0.Wait.flatMap eGR05Req), .sl a0.Past.length (a0.Past.flatMap eGR05Reply)], .box [.i .i64 a1.Kind, .i .i64 a1.Seq, .i .i64 a1.Token, .i .i64 a1.Attempt, .b a1.RO, .sl a1.Key.length (a1.Key.flatMap eU8), .sl a1.Val.length (a1.Val.flatMap eU8), .sl a1.Rng.Lo.length (a1.Rng.Lo.flatMap eU8), .sl a1.Rng.Hi.length (a1.Rng.Hi.flatMap eU8), .b a1.Rng.Open], .box [.i .i64 v3.Win.Base, .i .u64 (v3.Win.Bits.toNat : Int), .i .i64 v3.Next, .sl v3.Wait.length (v3.Wait.flatMap eGMsgReq), .sl v3.Past.length (v3.Past.flatMap eGMsgReply)], .dead, .dead]) (alle_t rfl ⟨rfl, ⟨rfl, ⟨rfl, ⟨trivial, ⟨trivial, trivial⟩⟩⟩⟩⟩ (alle_t rfl ⟨rfl, ⟨rfl, ⟨rfl, ⟨trivial, ⟨trivial, trivial⟩⟩⟩⟩⟩ (alle_t rfl ⟨rfl, ⟨rfl, ⟨rfl, ⟨trivial, ⟨trivial, trivial⟩⟩⟩⟩⟩ (alle_t rfl ⟨rfl, ⟨rfl, ⟨rfl, ⟨trivial, ⟨trivial, trivial⟩⟩⟩⟩⟩ (alle_t rfl ⟨rfl, ⟨rfl, ⟨rfl, ⟨trivial, ⟨trivial, trivial⟩⟩⟩⟩⟩ (alle_t rfl ⟨rfl, ⟨rfl, ⟨rfl, ⟨trivial, ⟨trivial, trivial⟩⟩⟩⟩⟩ alle_nil)))))) rfl rfl (opv_extract rfl rfl) ?_
    refine mev (md := [.box [.i .i64 a0.Win.Base, .i .u64 (a0.Win.Bits.toNat : Int), .i .i64 a0.Next, .sl a0.Wait.length (a0.Wait.flatMap eGR05Req), .sl a0.Past.length (a0.Past.flatMap eGR05Reply)], .box [.i .i64 a1.Kind, .i .i64 a1.Seq, .i .i64 a1.Token, .i .i64 a1.Attempt, .b a1.RO, .sl a1.Key.length (a1.Key.flatMap eU8), .sl a1.Val.length (a1.Val.flatMap eU8), .sl a1.Rng.Lo.length (a1.Rng.Lo.flatMap eU8), .sl a1.Rng.Hi.length (a1.Rng.Hi.flatMap eU8), .b a1.Rng.Open], .box [.i .i64 v3.Win.Base, .i .u64 (v3.Win.Bits.toNat : Int), .i .i64 v3.Next, .sl v3.Wait.length (v3.Wait.flatMap eGMsgReq), .sl v3.Past.length (v3.Past.flatMap eGMsgReply)], .dead, .dead]) (alle_t rfl ⟨rfl, ⟨rfl, ⟨rfl, ⟨trivial, ⟨trivial, trivial⟩⟩⟩⟩⟩ (alle_t rfl ⟨rfl, ⟨rfl, ⟨rfl, ⟨trivial, ⟨trivial, trivial⟩⟩⟩⟩⟩ (alle_t rfl ⟨rfl, ⟨rfl, ⟨rfl, ⟨trivial, ⟨trivial, trivial⟩⟩⟩⟩⟩ (alle_t rfl ⟨rfl, ⟨rfl, ⟨rfl, ⟨trivial, ⟨trivial, trivial⟩⟩⟩⟩⟩ (alle_t rfl ⟨rfl, ⟨rfl, ⟨rfl, ⟨trivial, ⟨trivial, trivial⟩⟩⟩⟩⟩ (alle_t rfl ⟨rfl, ⟨rfl, ⟨rfl, ⟨trivial, ⟨trivial, trivial⟩⟩⟩⟩⟩ alle_nil)))))) rfl rfl (opv_extract rfl rfl) ?_
    refine mee (x := .s (.one (.lp 3 0))) 0 rfl rfl ?_ ?_
    · refine alle_t rfl ⟨_, rfl, fun ζ => ?_⟩ ?_
      · refine salloc_at 3 rfl zi46 rfl ?_
        exact eend
      refine alle_t rfl ⟨_, rfl, fun ζ => ?_⟩ ?_
      · refine salloc_at 3 rfl zi46 rfl ?_
        exact eend
      refine alle_f rfl ?_
      refine alle_f rfl ?_
      refine alle_f rfl ?_
      refine alle_f rfl ?_
      exact alle_nil
    refine mee (x := .s (.one (.lp 4 0))) 1 rfl rfl ?_ ?_
    · refine alle_t rfl ⟨_, rfl, fun ζ => ?_⟩ ?_
      · refine salloc_at 4 rfl zi48 rfl ?_
        exact eend
      refine alle_f rfl ?_
      refine alle_t rfl ⟨_, rfl, fun ζ => ?_⟩ ?_
      · refine salloc_at 4 rfl zi48 rfl ?_
        exact eend
      refine alle_f rfl ?_
      refine alle_f rfl ?_
      refine alle_f rfl ?_
      exact alle_nil
    refine mee0 2 rfl ?_ ?_
    · refine alle_f rfl ?_
      refine alle_f rfl ?_
      refine alle_f rfl ?_
      refine alle_t rfl ⟨_, rfl, fun ζ => ?_⟩ ?_
      · refine sstore sz46 rfl rfl rfl rfl (Nat.le_of_ble_eq_true rfl) ?_
        refine smem [.box [.i .i64 a0.Win.Base, .i .u64 (a0.Win.Bits.toNat : Int), .i .i64 a0.Next, .sl a0.Wait.length (a0.Wait.flatMap eGR05Req), .sl a0.Past.length (a0.Past.flatMap eGR05Reply)], .box [.i .i64 a1.Kind, .i .i64 a1.Seq, .i .i64 a1.Token, .i .i64 a1.Attempt, .b a1.RO, .sl a1.Key.length (a1.Key.flatMap eU8), .sl a1.Val.length (a1.Val.flatMap eU8), .sl a1.Rng.Lo.length (a1.Rng.Lo.flatMap eU8), .sl a1.Rng.Hi.length (a1.Rng.Hi.flatMap eU8), .b a1.Rng.Open], .box [.i .i64 v3.Win.Base, .i .u64 (v3.Win.Bits.toNat : Int), .i .i64 v3.Next, .sl v3.Wait.length (v3.Wait.flatMap eGMsgReq), .sl v3.Past.length (v3.Past.flatMap eGMsgReply)], .box [.i .i64 v5.1.Win.Base, .i .u64 (v5.1.Win.Bits.toNat : Int), .i .i64 v5.1.Next, .sl v5.1.Wait.length (v5.1.Wait.flatMap eGMsgReq), .sl v5.1.Past.length (v5.1.Past.flatMap eGMsgReply)], .box [.i .i64 0, .i .i64 0, .i .i64 0, .i .i64 0, .b false, .raw (.slice none 0 0), .raw (.slice none 0 0)]] rfl ?_
        exact eend
      refine alle_f rfl ?_
      refine alle_f rfl ?_
      exact alle_nil
    refine mee0 3 rfl ?_ ?_
    · refine alle_f rfl ?_
      refine alle_f rfl ?_
      refine alle_f rfl ?_
      refine alle_f rfl ?_
      refine alle_t rfl ⟨_, rfl, fun ζ => ?_⟩ ?_
      · refine sstore sz48 rfl rfl rfl rfl (Nat.le_of_ble_eq_true rfl) ?_
        refine smem [.box [.i .i64 a0.Win.Base, .i .u64 (a0.Win.Bits.toNat : Int), .i .i64 a0.Next, .sl a0.Wait.length (a0.Wait.flatMap eGR05Req), .sl a0.Past.length (a0.Past.flatMap eGR05Reply)], .box [.i .i64 a1.Kind, .i .i64 a1.Seq, .i .i64 a1.Token, .i .i64 a1.Attempt, .b a1.RO, .sl a1.Key.length (a1.Key.flatMap eU8), .sl a1.Val.length (a1.Val.flatMap eU8), .sl a1.Rng.Lo.length (a1.Rng.Lo.flatMap eU8), .sl a1.Rng.Hi.length (a1.Rng.Hi.flatMap eU8), .b a1.Rng.Open], .box [.i .i64 v3.Win.Base, .i .u64 (v3.Win.Bits.toNat : Int), .i .i64 v3.Next, .sl v3.Wait.length (v3.Wait.flatMap eGMsgReq), .sl v3.Past.length (v3.Past.flatMap eGMsgReply)], .box [.i .i64 v5.1.Win.Base, .i .u64 (v5.1.Win.Bits.toNat : Int), .i .i64 v5.1.Next, .sl v5.1.Wait.length (v5.1.Wait.flatMap eGMsgReq), .sl v5.1.Past.length (v5.1.Past.flatMap eGMsgReply)], .box [.i .i64 v5.2.1.Kind, .i .i64 v5.2.1.Seq, .i .i64 v5.2.1.Code, .i .i64 v5.2.1.N, .b v5.2.1.Found, .sl v5.2.1.Val.length (v5.2.1.Val.flatMap eU8), .sl v5.2.1.List.length (v5.2.1.List.flatMap eGApiKV)]] rfl ?_
        exact eend
      refine alle_f rfl ?_
      exact alle_nil
    refine mem2 rfl rfl (fun _ => opv_as rfl) ?_
    refine mem2 rfl rfl (fun _ => opv_as rfl) ?_
    refine mnil2 ?_
    refine then_normal ?_
    refine cseq ?_
    refine cseq ?_
    refine cregion ?_
    refine sv rfl (opv_mv rfl) ?_
    refine sv rfl (opv_ineq rfl rfl) ?_
    refine snil ?_
    refine ccond rfl (fun hc => ?_) (fun hc => ?_)
    · replace h := ite_t hc h
      clear hc
      refine cseq ?_
      refine cregion ?_
      refine sv rfl (opv_mv rfl) ?_
      refine sv rfl (opv_mv rfl) ?_
      refine ssplit 39 rfl (fun hc => ?_) (fun hc => ?_)
      · replace h := ite_t hc h
        clear hc
        refine son rfl rfl rfl ?_
        refine sv rfl (opv_loadN ti46 rfl (.lp _ _ _ rfl) (Nat.le_of_ble_eq_true rfl)) ?_
        refine son rfl rfl rfl ?_
        obtain ⟨v6, hv6, h⟩ := bind_eq h
        refine scall1 rfl fn22 (opnds_cons rfl opnds_nil) (pubA_id rfl) (m22_l16_theirs_c hv6) ?_
        refine son rfl rfl rfl ?_
        refine sv rfl (opv_build zi28 pi28 parts_nil (.nil _)) ?_
        refine son rfl rfl rfl ?_
        obtain ⟨v7, hv7, h⟩ := bind_eq h
        refine scall1 rfl fn21 (opnds_cons rfl (opnds_cons rfl opnds_nil)) (pubC rfl) (m21_r16_Same_c hv7) ?_
        refine sv rfl (opv_pick_t rfl rfl) ?_
        refine sv rfl (opv_mv rfl) ?_
        refine ssplit 45 rfl (fun hc => ?_) (fun hc => ?_)
        · replace h := ite_t hc h
          clear hc
          refine son rfl rfl rfl ?_
          refine sv rfl (opv_mv rfl) ?_
          refine son rfl rfl rfl ?_
          refine sv rfl (opv_not rfl) ?_
          refine sv rfl (opv_pick_t rfl rfl) ?_
          refine sv rfl (opv_as rfl) ?_
          refine snil ?_
          refine cret ?_
          refine then_ret ?_
          obtain rfl := Option.some.inj h
          refine ⟨Or.inr rfl, _, _, _, (resVs_cons (ResV.tmp _ _ rfl) resVs_nil), (pubA_id rfl), ?_⟩
          rfl
        · replace h := ite_f hc h
          clear hc
          refine soff rfl rfl rfl rfl ?_
          refine soff rfl rfl rfl rfl ?_
          refine sv rfl (opv_pick_f rfl rfl) ?_
          refine sv rfl (opv_as rfl) ?_
          refine snil ?_
          refine cret ?_
          refine then_ret ?_
          obtain rfl := Option.some.inj h
          refine ⟨Or.inr rfl, _, _, _, (resVs_cons (ResV.tmp _ _ rfl) resVs_nil), (pubA_id rfl), ?_⟩
          rfl
      · replace h := ite_f hc h
        clear hc
        refine soff rfl rfl rfl rfl ?_
        refine soff rfl rfl rfl rfl ?_
        refine soff rfl rfl rfl rfl ?_
        refine soff rfl rfl rfl rfl ?_
        refine sv rfl (opv_pick_f rfl rfl) ?_
        refine sv rfl (opv_mv rfl) ?_
        refine soff rfl rfl rfl rfl ?_
        refine soff rfl rfl rfl rfl ?_
        refine sv rfl (opv_pick_f rfl rfl) ?_
        refine sv rfl (opv_as rfl) ?_
        refine snil ?_
        refine cret ?_
        refine then_ret ?_
        obtain rfl := Option.some.inj h
        refine ⟨Or.inr rfl, _, _, _, (resVs_cons (ResV.tmp _ _ rfl) resVs_nil), (pubA_id rfl), ?_⟩
        rfl
    · replace h := ite_f hc h
      clear hc
      refine cskip ?_
      refine then_normal ?_
      refine cseq ?_
      refine chole ?_
      refine chole ?_
      obtain ⟨v8, hv8, h⟩ := bind_eq h
      obtain ⟨v9, hv9, h⟩ := bind_eq h
      refine cdraw_m [9, 10, 11, 12] [0, 0, 2, 7, 15, 31, 31, 31, 31, 0, 0, 1599, 3711, 7935, 16383] [([false, false, false, false], [.box [.i .i64 a0.Win.Base, .i .u64 (a0.Win.Bits.toNat : Int), .i .i64 a0.Next, .sl a0.Wait.length (a0.Wait.flatMap eGR05Req), .sl a0.Past.length (a0.Past.flatMap eGR05Reply)], .box [.i .i64 a1.Kind, .i .i64 a1.Seq, .i .i64 a1.Token, .i .i64 a1.Attempt, .b a1.RO, .sl a1.Key.length (a1.Key.flatMap eU8), .sl a1.Val.length (a1.Val.flatMap eU8), .sl a1.Rng.Lo.length (a1.Rng.Lo.flatMap eU8), .sl a1.Rng.Hi.length (a1.Rng.Hi.flatMap eU8), .b a1.Rng.Open], .box [.i .i64 v3.Win.Base, .i .u64 (v3.Win.Bits.toNat : Int), .i .i64 v3.Next, .sl v3.Wait.length (v3.Wait.flatMap eGMsgReq), .sl v3.Past.length (v3.Past.flatMap eGMsgReply)], .box [.i .i64 v5.1.Win.Base, .i .u64 (v5.1.Win.Bits.toNat : Int), .i .i64 v5.1.Next, .sl v5.1.Wait.length (v5.1.Wait.flatMap eGMsgReq), .sl v5.1.Past.length (v5.1.Past.flatMap eGMsgReply)], .box [.i .i64 v5.2.1.Kind, .i .i64 v5.2.1.Seq, .i .i64 v5.2.1.Code, .i .i64 v5.2.1.N, .b v5.2.1.Found, .sl v5.2.1.Val.length (v5.2.1.Val.flatMap eU8), .sl v5.2.1.List.length (v5.2.1.List.flatMap eGApiKV)], .hole, .hole]), ([false, true, false, false], [.box [.i .i64 a0.Win.Base, .i .u64 (a0.Win.Bits.toNat : Int), .i .i64 a0.Next, .sl a0.Wait.length (a0.Wait.flatMap eGR05Req), .sl a0.Past.length (a0.Past.flatMap eGR05Reply)], .box [.i .i64 a1.Kind, .i .i64 a1.Seq, .i .i64 a1.Token, .i .i64 a1.Attempt, .b a1.RO, .sl a1.Key.length (a1.Key.flatMap eU8), .sl a1.Val.length (a1.Val.flatMap eU8), .sl a1.Rng.Lo.length (a1.Rng.Lo.flatMap eU8), .sl a1.Rng.Hi.length (a1.Rng.Hi.flatMap eU8), .b a1.Rng.Open], .box [.i .i64 v3.Win.Base, .i .u64 (v3.Win.Bits.toNat : Int), .i .i64 v3.Next, .sl v3.Wait.length (v3.Wait.flatMap eGMsgReq), .sl v3.Past.length (v3.Past.flatMap eGMsgReply)], .box [.i .i64 v5.1.Win.Base, .i .u64 (v5.1.Win.Bits.toNat : Int), .i .i64 v5.1.Next, .sl v5.1.Wait.length (v5.1.Wait.flatMap eGMsgReq), .sl v5.1.Past.length (v5.1.Past.flatMap eGMsgReply)], .box [.i .i64 v5.2.1.Kind, .i .i64 v5.2.1.Seq, .i .i64 v5.2.1.Code, .i .i64 v5.2.1.N, .b v5.2.1.Found, .sl v5.2.1.Val.length (v5.2.1.Val.flatMap eU8), .sl v5.2.1.List.length (v5.2.1.List.flatMap eGApiKV)], .hole, .box [.i .i64 0, .i .i64 0, .i .i64 0, .i .i64 0, .b false, .raw (.slice none 0 0), .raw (.slice none 0 0)]]), ([true, false, false, false], [.box [.i .i64 a0.Win.Base, .i .u64 (a0.Win.Bits.toNat : Int), .i .i64 a0.Next, .sl a0.Wait.length (a0.Wait.flatMap eGR05Req), .sl a0.Past.length (a0.Past.flatMap eGR05Reply)], .box [.i .i64 a1.Kind, .i .i64 a1.Seq, .i .i64 a1.Token, .i .i64 a1.Attempt, .b a1.RO, .sl a1.Key.length (a1.Key.flatMap eU8), .sl a1.Val.length (a1.Val.flatMap eU8), .sl a1.Rng.Lo.length (a1.Rng.Lo.flatMap eU8), .sl a1.Rng.Hi.length (a1.Rng.Hi.flatMap eU8), .b a1.Rng.Open], .box [.i .i64 v3.Win.Base, .i .u64 (v3.Win.Bits.toNat : Int), .i .i64 v3.Next, .sl v3.Wait.length (v3.Wait.flatMap eGMsgReq), .sl v3.Past.length (v3.Past.flatMap eGMsgReply)], .box [.i .i64 v5.1.Win.Base, .i .u64 (v5.1.Win.Bits.toNat : Int), .i .i64 v5.1.Next, .sl v5.1.Wait.length (v5.1.Wait.flatMap eGMsgReq), .sl v5.1.Past.length (v5.1.Past.flatMap eGMsgReply)], .box [.i .i64 v5.2.1.Kind, .i .i64 v5.2.1.Seq, .i .i64 v5.2.1.Code, .i .i64 v5.2.1.N, .b v5.2.1.Found, .sl v5.2.1.Val.length (v5.2.1.Val.flatMap eU8), .sl v5.2.1.List.length (v5.2.1.List.flatMap eGApiKV)], .box [.i .i64 0, .i .u64 ((0#64).toNat : Int), .i .i64 0, .raw (.slice none 0 0), .raw (.slice none 0 0)], .hole]), ([true, true, false, false], [.box [.i .i64 a0.Win.Base, .i .u64 (a0.Win.Bits.toNat : Int), .i .i64 a0.Next, .sl a0.Wait.length (a0.Wait.flatMap eGR05Req), .sl a0.Past.length (a0.Past.flatMap eGR05Reply)], .box [.i .i64 a1.Kind, .i .i64 a1.Seq, .i .i64 a1.Token, .i .i64 a1.Attempt, .b a1.RO, .sl a1.Key.length (a1.Key.flatMap eU8), .sl a1.Val.length (a1.Val.flatMap eU8), .sl a1.Rng.Lo.length (a1.Rng.Lo.flatMap eU8), .sl a1.Rng.Hi.length (a1.Rng.Hi.flatMap eU8), .b a1.Rng.Open], .box [.i .i64 v3.Win.Base, .i .u64 (v3.Win.Bits.toNat : Int), .i .i64 v3.Next, .sl v3.Wait.length (v3.Wait.flatMap eGMsgReq), .sl v3.Past.length (v3.Past.flatMap eGMsgReply)], .box [.i .i64 v5.1.Win.Base, .i .u64 (v5.1.Win.Bits.toNat : Int), .i .i64 v5.1.Next, .sl v5.1.Wait.length (v5.1.Wait.flatMap eGMsgReq), .sl v5.1.Past.length (v5.1.Past.flatMap eGMsgReply)], .box [.i .i64 v5.2.1.Kind, .i .i64 v5.2.1.Seq, .i .i64 v5.2.1.Code, .i .i64 v5.2.1.N, .b v5.2.1.Found, .sl v5.2.1.Val.length (v5.2.1.Val.flatMap eU8), .sl v5.2.1.List.length (v5.2.1.List.flatMap eGApiKV)], .box [.i .i64 0, .i .u64 ((0#64).toNat : Int), .i .i64 0, .raw (.slice none 0 0), .raw (.slice none 0 0)], .box [.i .i64 0, .i .i64 0, .i .i64 0, .i .i64 0, .b false, .raw (.slice none 0 0), .raw (.slice none 0 0)]]), ([true, true, true, false], [.box [.i .i64 a0.Win.Base, .i .u64 (a0.Win.Bits.toNat : Int), .i .i64 a0.Next, .sl a0.Wait.length (a0.Wait.flatMap eGR05Req), .sl a0.Past.length (a0.Past.flatMap eGR05Reply)], .box [.i .i64 a1.Kind, .i .i64 a1.Seq, .i .i64 a1.Token, .i .i64 a1.Attempt, .b a1.RO, .sl a1.Key.length (a1.Key.flatMap eU8), .sl a1.Val.length (a1.Val.flatMap eU8), .sl a1.Rng.Lo.length (a1.Rng.Lo.flatMap eU8), .sl a1.Rng.Hi.length (a1.Rng.Hi.flatMap eU8), .b a1.Rng.Open], .box [.i .i64 v3.Win.Base, .i .u64 (v3.Win.Bits.toNat : Int), .i .i64 v3.Next, .sl v3.Wait.length (v3.Wait.flatMap eGMsgReq), .sl v3.Past.length (v3.Past.flatMap eGMsgReply)], .box [.i .i64 v5.1.Win.Base, .i .u64 (v5.1.Win.Bits.toNat : Int), .i .i64 v5.1.Next, .sl v5.1.Wait.length (v5.1.Wait.flatMap eGMsgReq), .sl v5.1.Past.length (v5.1.Past.flatMap eGMsgReply)], .box [.i .i64 v5.2.1.Kind, .i .i64 v5.2.1.Seq, .i .i64 v5.2.1.Code, .i .i64 v5.2.1.N, .b v5.2.1.Found, .sl v5.2.1.Val.length (v5.2.1.Val.flatMap eU8), .sl v5.2.1.List.length (v5.2.1.List.flatMap eGApiKV)], .box [.i .i64 v9.1.Win.Base, .i .u64 (v9.1.Win.Bits.toNat : Int), .i .i64 v9.1.Next, .sl v9.1.Wait.length (v9.1.Wait.flatMap eGMsgReq), .sl v9.1.Past.length (v9.1.Past.flatMap eGMsgReply)], .box [.i .i64 0, .i .i64 0, .i .i64 0, .i .i64 0, .b false, .raw (.slice none 0 0), .raw (.slice none 0 0)]]), ([true, true, true, true], [.box [.i .i64 a0.Win.Base, .i .u64 (a0.Win.Bits.toNat : Int), .i .i64 a0.Next, .sl a0.Wait.length (a0.Wait.flatMap eGR05Req), .sl a0.Past.length (a0.Past.flatMap eGR05Reply)], .box [.i .i64 a1.Kind, .i .i64 a1.Seq, .i .i64 a1.Token, .i .i64 a1.Attempt, .b a1.RO, .sl a1.Key.length (a1.Key.flatMap eU8), .sl a1.Val.length (a1.Val.flatMap eU8), .sl a1.Rng.Lo.length (a1.Rng.Lo.flatMap eU8), .sl a1.Rng.Hi.length (a1.Rng.Hi.flatMap eU8), .b a1.Rng.Open], .box [.i .i64 v3.Win.Base, .i .u64 (v3.Win.Bits.toNat : Int), .i .i64 v3.Next, .sl v3.Wait.length (v3.Wait.flatMap eGMsgReq), .sl v3.Past.length (v3.Past.flatMap eGMsgReply)], .box [.i .i64 v5.1.Win.Base, .i .u64 (v5.1.Win.Bits.toNat : Int), .i .i64 v5.1.Next, .sl v5.1.Wait.length (v5.1.Wait.flatMap eGMsgReq), .sl v5.1.Past.length (v5.1.Past.flatMap eGMsgReply)], .box [.i .i64 v5.2.1.Kind, .i .i64 v5.2.1.Seq, .i .i64 v5.2.1.Code, .i .i64 v5.2.1.N, .b v5.2.1.Found, .sl v5.2.1.Val.length (v5.2.1.Val.flatMap eU8), .sl v5.2.1.List.length (v5.2.1.List.flatMap eGApiKV)], .box [.i .i64 v9.1.Win.Base, .i .u64 (v9.1.Win.Bits.toNat : Int), .i .i64 v9.1.Next, .sl v9.1.Wait.length (v9.1.Wait.flatMap eGMsgReq), .sl v9.1.Past.length (v9.1.Past.flatMap eGMsgReply)], .box [.i .i64 v9.2.1.Kind, .i .i64 v9.2.1.Seq, .i .i64 v9.2.1.Code, .i .i64 v9.2.1.N, .b v9.2.1.Found, .sl v9.2.1.Val.length (v9.2.1.Val.flatMap eU8), .sl v9.2.1.List.length (v9.2.1.List.flatMap eGApiKV)]])] (by kernel_rfl) mixed (by kernel_rfl) (by decide) rfl (by kernel_rfl) rfl rfl ?_
      refine mev (md := [.box [.i .i64 a0.Win.Base, .i .u64 (a0.Win.Bits.toNat : Int), .i .i64 a0.Next, .sl a0.Wait.length (a0.Wait.flatMap eGR05Req), .sl a0.Past.length (a0.Past.flatMap eGR05Reply)], .box [.i .i64 a1.Kind, .i .i64 a1.Seq, .i .i64 a1.Token, .i .i64 a1.Attempt, .b a1.RO, .sl a1.Key.length (a1.Key.flatMap eU8), .sl a1.Val.length (a1.Val.flatMap eU8), .sl a1.Rng.Lo.length (a1.Rng.Lo.flatMap eU8), .sl a1.Rng.Hi.length (a1.Rng.Hi.flatMap eU8), .b a1.Rng.Open], .box [.i .i64 v3.Win.Base, .i .u64 (v3.Win.Bits.toNat : Int), .i .i64 v3.Next, .sl v3.Wait.length (v3.Wait.flatMap eGMsgReq), .sl v3.Past.length (v3.Past.flatMap eGMsgReply)], .box [.i .i64 v5.1.Win.Base, .i .u64 (v5.1.Win.Bits.toNat : Int), .i .i64 v5.1.Next, .sl v5.1.Wait.length (v5.1.Wait.flatMap eGMsgReq), .sl v5.1.Past.length (v5.1.Past.flatMap eGMsgReply)], .box [.i .i64 v5.2.1.Kind, .i .i64 v5.2.1.Seq, .i .i64 v5.2.1.Code, .i .i64 v5.2.1.N, .b v5.2.1.Found, .sl v5.2.1.Val.length (v5.2.1.Val.flatMap eU8), .sl v5.2.1.List.length (v5.2.1.List.flatMap eGApiKV)], .dead, .dead]) (alle_t rfl ⟨rfl, ⟨rfl, ⟨rfl, ⟨rfl, ⟨rfl, ⟨trivial, ⟨trivial, trivial⟩⟩⟩⟩⟩⟩⟩ (alle_t rfl ⟨rfl, ⟨rfl, ⟨rfl, ⟨rfl, ⟨rfl, ⟨trivial, ⟨trivial, trivial⟩⟩⟩⟩⟩⟩⟩ (alle_t rfl ⟨rfl, ⟨rfl, ⟨rfl, ⟨rfl, ⟨rfl, ⟨trivial, ⟨trivial, trivial⟩⟩⟩⟩⟩⟩⟩ (alle_t rfl ⟨rfl, ⟨rfl, ⟨rfl, ⟨rfl, ⟨rfl, ⟨trivial, ⟨trivial, trivial⟩⟩⟩⟩⟩⟩⟩ (alle_f rfl (alle_f rfl alle_nil)))))) rfl rfl (opv_loadN ti46 rfl (.lp _ _ _ rfl) (Nat.le_of_ble_eq_true rfl)) ?_
      refine mev (md := [.box [.i .i64 a0.Win.Base, .i .u64 (a0.Win.Bits.toNat : Int), .i .i64 a0.Next, .sl a0.Wait.length (a0.Wait.flatMap eGR05Req), .sl a0.Past.length (a0.Past.flatMap eGR05Reply)], .box [.i .i64 a1.Kind, .i .i64 a1.Seq, .i .i64 a1.Token, .i .i64 a1.Attempt, .b a1.RO, .sl a1.Key.length (a1.Key.flatMap eU8), .sl a1.Val.length (a1.Val.flatMap eU8), .sl a1.Rng.Lo.length (a1.Rng.Lo.flatMap eU8), .sl a1.Rng.Hi.length (a1.Rng.Hi.flatMap eU8), .b a1.Rng.Open], .box [.i .i64 v3.Win.Base, .i .u64 (v3.Win.Bits.toNat : Int), .i .i64 v3.Next, .sl v3.Wait.length (v3.Wait.flatMap eGMsgReq), .sl v3.Past.length (v3.Past.flatMap eGMsgReply)], .box [.i .i64 v5.1.Win.Base, .i .u64 (v5.1.Win.Bits.toNat : Int), .i .i64 v5.1.Next, .sl v5.1.Wait.length (v5.1.Wait.flatMap eGMsgReq), .sl v5.1.Past.length (v5.1.Past.flatMap eGMsgReply)], .box [.i .i64 v5.2.1.Kind, .i .i64 v5.2.1.Seq, .i .i64 v5.2.1.Code, .i .i64 v5.2.1.N, .b v5.2.1.Found, .sl v5.2.1.Val.length (v5.2.1.Val.flatMap eU8), .sl v5.2.1.List.length (v5.2.1.List.flatMap eGApiKV)], .dead, .dead]) (alle_t rfl ⟨rfl, ⟨rfl, ⟨rfl, ⟨rfl, ⟨rfl, ⟨trivial, ⟨trivial, trivial⟩⟩⟩⟩⟩⟩⟩ (alle_t rfl ⟨rfl, ⟨rfl, ⟨rfl, ⟨rfl, ⟨rfl, ⟨trivial, ⟨trivial, trivial⟩⟩⟩⟩⟩⟩⟩ (alle_t rfl ⟨rfl, ⟨rfl, ⟨rfl, ⟨rfl, ⟨rfl, ⟨trivial, ⟨trivial, trivial⟩⟩⟩⟩⟩⟩⟩ (alle_t rfl ⟨rfl, ⟨rfl, ⟨rfl, ⟨rfl, ⟨rfl, ⟨trivial, ⟨trivial, trivial⟩⟩⟩⟩⟩⟩⟩ (alle_f rfl (alle_f rfl alle_nil)))))) rfl rfl (opv_loadN ti33 rfl (.lp _ _ _ rfl) (Nat.le_of_ble_eq_true rfl)) ?_
      refine med (md := [.box [.i .i64 a0.Win.Base, .i .u64 (a0.Win.Bits.toNat : Int), .i .i64 a0.Next, .sl a0.Wait.length (a0.Wait.flatMap eGR05Req), .sl a0.Past.length (a0.Past.flatMap eGR05Reply)], .box [.i .i64 a1.Kind, .i .i64 a1.Seq, .i .i64 a1.Token, .i .i64 a1.Attempt, .b a1.RO, .sl a1.Key.length (a1.Key.flatMap eU8), .sl a1.Val.length (a1.Val.flatMap eU8), .sl a1.Rng.Lo.length (a1.Rng.Lo.flatMap eU8), .sl a1.Rng.Hi.length (a1.Rng.Hi.flatMap eU8), .b a1.Rng.Open], .box [.i .i64 v3.Win.Base, .i .u64 (v3.Win.Bits.toNat : Int), .i .i64 v3.Next, .sl v3.Wait.length (v3.Wait.flatMap eGMsgReq), .sl v3.Past.length (v3.Past.flatMap eGMsgReply)], .box [.i .i64 v5.1.Win.Base, .i .u64 (v5.1.Win.Bits.toNat : Int), .i .i64 v5.1.Next, .sl v5.1.Wait.length (v5.1.Wait.flatMap eGMsgReq), .sl v5.1.Past.length (v5.1.Past.flatMap eGMsgReply)], .box [.i .i64 v5.2.1.Kind, .i .i64 v5.2.1.Seq, .i .i64 v5.2.1.Code, .i .i64 v5.2.1.N, .b v5.2.1.Found, .sl v5.2.1.Val.length (v5.2.1.Val.flatMap eU8), .sl v5.2.1.List.length (v5.2.1.List.flatMap eGApiKV)], .dead, .dead]) (alle_t rfl ⟨rfl, ⟨rfl, ⟨rfl, ⟨rfl, ⟨rfl, ⟨trivial, ⟨trivial, trivial⟩⟩⟩⟩⟩⟩⟩ (alle_t rfl ⟨rfl, ⟨rfl, ⟨rfl, ⟨rfl, ⟨rfl, ⟨trivial, ⟨trivial, trivial⟩⟩⟩⟩⟩⟩⟩ (alle_t rfl ⟨rfl, ⟨rfl, ⟨rfl, ⟨rfl, ⟨rfl, ⟨trivial, ⟨trivial, trivial⟩⟩⟩⟩⟩⟩⟩ (alle_t rfl ⟨rfl, ⟨rfl, ⟨rfl, ⟨rfl, ⟨rfl, ⟨trivial, ⟨trivial, trivial⟩⟩⟩⟩⟩⟩⟩ (alle_f rfl (alle_f rfl alle_nil)))))) rfl rfl (opD_call fn14 (opnds_cons rfl opnds_nil) rfl (m14_l16_req_c hv8)) ?_
      refine med (md := [.box [.i .i64 a0.Win.Base, .i .u64 (a0.Win.Bits.toNat : Int), .i .i64 a0.Next, .sl a0.Wait.length (a0.Wait.flatMap eGR05Req), .sl a0.Past.length (a0.Past.flatMap eGR05Reply)], .box [.i .i64 a1.Kind, .i .i64 a1.Seq, .i .i64 a1.Token, .i .i64 a1.Attempt, .b a1.RO, .sl a1.Key.length (a1.Key.flatMap eU8), .sl a1.Val.length (a1.Val.flatMap eU8), .sl a1.Rng.Lo.length (a1.Rng.Lo.flatMap eU8), .sl a1.Rng.Hi.length (a1.Rng.Hi.flatMap eU8), .b a1.Rng.Open], .box [.i .i64 v3.Win.Base, .i .u64 (v3.Win.Bits.toNat : Int), .i .i64 v3.Next, .sl v3.Wait.length (v3.Wait.flatMap eGMsgReq), .sl v3.Past.length (v3.Past.flatMap eGMsgReply)], .box [.i .i64 v5.1.Win.Base, .i .u64 (v5.1.Win.Bits.toNat : Int), .i .i64 v5.1.Next, .sl v5.1.Wait.length (v5.1.Wait.flatMap eGMsgReq), .sl v5.1.Past.length (v5.1.Past.flatMap eGMsgReply)], .box [.i .i64 v5.2.1.Kind, .i .i64 v5.2.1.Seq, .i .i64 v5.2.1.Code, .i .i64 v5.2.1.N, .b v5.2.1.Found, .sl v5.2.1.Val.length (v5.2.1.Val.flatMap eU8), .sl v5.2.1.List.length (v5.2.1.List.flatMap eGApiKV)], .dead, .dead]) (alle_t rfl ⟨rfl, ⟨rfl, ⟨rfl, ⟨rfl, ⟨rfl, ⟨trivial, ⟨trivial, trivial⟩⟩⟩⟩⟩⟩⟩ (alle_t rfl ⟨rfl, ⟨rfl, ⟨rfl, ⟨rfl, ⟨rfl, ⟨trivial, ⟨trivial, trivial⟩⟩⟩⟩⟩⟩⟩ (alle_t rfl ⟨rfl, ⟨rfl, ⟨rfl, ⟨rfl, ⟨rfl, ⟨trivial, ⟨trivial, trivial⟩⟩⟩⟩⟩⟩⟩ (alle_t rfl ⟨rfl, ⟨rfl, ⟨rfl, ⟨rfl, ⟨rfl, ⟨trivial, ⟨trivial, trivial⟩⟩⟩⟩⟩⟩⟩ (alle_f rfl (alle_f rfl alle_nil)))))) rfl rfl (opD_call fn13 (opnds_cons rfl (opnds_cons rfl opnds_nil)) rfl (m13_pipe_Offer_c hv9)) ?_
      refine mem2 rfl rfl (fun _ => opv_mvt rfl) ?_
      refine mev (md := [.box [.i .i64 a0.Win.Base, .i .u64 (a0.Win.Bits.toNat : Int), .i .i64 a0.Next, .sl a0.Wait.length (a0.Wait.flatMap eGR05Req), .sl a0.Past.length (a0.Past.flatMap eGR05Reply)], .box [.i .i64 a1.Kind, .i .i64 a1.Seq, .i .i64 a1.Token, .i .i64 a1.Attempt, .b a1.RO, .sl a1.Key.length (a1.Key.flatMap eU8), .sl a1.Val.length (a1.Val.flatMap eU8), .sl a1.Rng.Lo.length (a1.Rng.Lo.flatMap eU8), .sl a1.Rng.Hi.length (a1.Rng.Hi.flatMap eU8), .b a1.Rng.Open], .box [.i .i64 v3.Win.Base, .i .u64 (v3.Win.Bits.toNat : Int), .i .i64 v3.Next, .sl v3.Wait.length (v3.Wait.flatMap eGMsgReq), .sl v3.Past.length (v3.Past.flatMap eGMsgReply)], .box [.i .i64 v5.1.Win.Base, .i .u64 (v5.1.Win.Bits.toNat : Int), .i .i64 v5.1.Next, .sl v5.1.Wait.length (v5.1.Wait.flatMap eGMsgReq), .sl v5.1.Past.length (v5.1.Past.flatMap eGMsgReply)], .box [.i .i64 v5.2.1.Kind, .i .i64 v5.2.1.Seq, .i .i64 v5.2.1.Code, .i .i64 v5.2.1.N, .b v5.2.1.Found, .sl v5.2.1.Val.length (v5.2.1.Val.flatMap eU8), .sl v5.2.1.List.length (v5.2.1.List.flatMap eGApiKV)], .dead, .dead]) (alle_t rfl ⟨rfl, ⟨rfl, ⟨rfl, ⟨rfl, ⟨rfl, ⟨trivial, ⟨trivial, trivial⟩⟩⟩⟩⟩⟩⟩ (alle_t rfl ⟨rfl, ⟨rfl, ⟨rfl, ⟨rfl, ⟨rfl, ⟨trivial, ⟨trivial, trivial⟩⟩⟩⟩⟩⟩⟩ (alle_t rfl ⟨rfl, ⟨rfl, ⟨rfl, ⟨rfl, ⟨rfl, ⟨trivial, ⟨trivial, trivial⟩⟩⟩⟩⟩⟩⟩ (alle_t rfl ⟨rfl, ⟨rfl, ⟨rfl, ⟨rfl, ⟨rfl, ⟨trivial, ⟨trivial, trivial⟩⟩⟩⟩⟩⟩⟩ (alle_f rfl (alle_f rfl alle_nil)))))) rfl rfl (opv_extract rfl rfl) ?_
      refine mev (md := [.box [.i .i64 a0.Win.Base, .i .u64 (a0.Win.Bits.toNat : Int), .i .i64 a0.Next, .sl a0.Wait.length (a0.Wait.flatMap eGR05Req), .sl a0.Past.length (a0.Past.flatMap eGR05Reply)], .box [.i .i64 a1.Kind, .i .i64 a1.Seq, .i .i64 a1.Token, .i .i64 a1.Attempt, .b a1.RO, .sl a1.Key.length (a1.Key.flatMap eU8), .sl a1.Val.length (a1.Val.flatMap eU8), .sl a1.Rng.Lo.length (a1.Rng.Lo.flatMap eU8), .sl a1.Rng.Hi.length (a1.Rng.Hi.flatMap eU8), .b a1.Rng.Open], .box [.i .i64 v3.Win.Base, .i .u64 (v3.Win.Bits.toNat : Int), .i .i64 v3.Next, .sl v3.Wait.length (v3.Wait.flatMap eGMsgReq), .sl v3.Past.length (v3.Past.flatMap eGMsgReply)], .box [.i .i64 v5.1.Win.Base, .i .u64 (v5.1.Win.Bits.toNat : Int), .i .i64 v5.1.Next, .sl v5.1.Wait.length (v5.1.Wait.flatMap eGMsgReq), .sl v5.1.Past.length (v5.1.Past.flatMap eGMsgReply)], .box [.i .i64 v5.2.1.Kind, .i .i64 v5.2.1.Seq, .i .i64 v5.2.1.Code, .i .i64 v5.2.1.N, .b v5.2.1.Found, .sl v5.2.1.Val.length (v5.2.1.Val.flatMap eU8), .sl v5.2.1.List.length (v5.2.1.List.flatMap eGApiKV)], .dead, .dead]) (alle_t rfl ⟨rfl, ⟨rfl, ⟨rfl, ⟨rfl, ⟨rfl, ⟨trivial, ⟨trivial, trivial⟩⟩⟩⟩⟩⟩⟩ (alle_t rfl ⟨rfl, ⟨rfl, ⟨rfl, ⟨rfl, ⟨rfl, ⟨trivial, ⟨trivial, trivial⟩⟩⟩⟩⟩⟩⟩ (alle_t rfl ⟨rfl, ⟨rfl, ⟨rfl, ⟨rfl, ⟨rfl, ⟨trivial, ⟨trivial, trivial⟩⟩⟩⟩⟩⟩⟩ (alle_t rfl ⟨rfl, ⟨rfl, ⟨rfl, ⟨rfl, ⟨rfl, ⟨trivial, ⟨trivial, trivial⟩⟩⟩⟩⟩⟩⟩ (alle_t rfl ⟨rfl, ⟨rfl, ⟨rfl, ⟨rfl, ⟨rfl, ⟨trivial, ⟨trivial, trivial⟩⟩⟩⟩⟩⟩⟩ (alle_f rfl alle_nil)))))) rfl rfl (opv_extract rfl rfl) ?_
      refine mev (md := [.box [.i .i64 a0.Win.Base, .i .u64 (a0.Win.Bits.toNat : Int), .i .i64 a0.Next, .sl a0.Wait.length (a0.Wait.flatMap eGR05Req), .sl a0.Past.length (a0.Past.flatMap eGR05Reply)], .box [.i .i64 a1.Kind, .i .i64 a1.Seq, .i .i64 a1.Token, .i .i64 a1.Attempt, .b a1.RO, .sl a1.Key.length (a1.Key.flatMap eU8), .sl a1.Val.length (a1.Val.flatMap eU8), .sl a1.Rng.Lo.length (a1.Rng.Lo.flatMap eU8), .sl a1.Rng.Hi.length (a1.Rng.Hi.flatMap eU8), .b a1.Rng.Open], .box [.i .i64 v3.Win.Base, .i .u64 (v3.Win.Bits.toNat : Int), .i .i64 v3.Next, .sl v3.Wait.length (v3.Wait.flatMap eGMsgReq), .sl v3.Past.length (v3.Past.flatMap eGMsgReply)], .box [.i .i64 v5.1.Win.Base, .i .u64 (v5.1.Win.Bits.toNat : Int), .i .i64 v5.1.Next, .sl v5.1.Wait.length (v5.1.Wait.flatMap eGMsgReq), .sl v5.1.Past.length (v5.1.Past.flatMap eGMsgReply)], .box [.i .i64 v5.2.1.Kind, .i .i64 v5.2.1.Seq, .i .i64 v5.2.1.Code, .i .i64 v5.2.1.N, .b v5.2.1.Found, .sl v5.2.1.Val.length (v5.2.1.Val.flatMap eU8), .sl v5.2.1.List.length (v5.2.1.List.flatMap eGApiKV)], .dead, .dead]) (alle_t rfl ⟨rfl, ⟨rfl, ⟨rfl, ⟨rfl, ⟨rfl, ⟨trivial, ⟨trivial, trivial⟩⟩⟩⟩⟩⟩⟩ (alle_t rfl ⟨rfl, ⟨rfl, ⟨rfl, ⟨rfl, ⟨rfl, ⟨trivial, ⟨trivial, trivial⟩⟩⟩⟩⟩⟩⟩ (alle_t rfl ⟨rfl, ⟨rfl, ⟨rfl, ⟨rfl, ⟨rfl, ⟨trivial, ⟨trivial, trivial⟩⟩⟩⟩⟩⟩⟩ (alle_t rfl ⟨rfl, ⟨rfl, ⟨rfl, ⟨rfl, ⟨rfl, ⟨trivial, ⟨trivial, trivial⟩⟩⟩⟩⟩⟩⟩ (alle_t rfl ⟨rfl, ⟨rfl, ⟨rfl, ⟨rfl, ⟨rfl, ⟨trivial, ⟨trivial, trivial⟩⟩⟩⟩⟩⟩⟩ (alle_t rfl ⟨rfl, ⟨rfl, ⟨rfl, ⟨rfl, ⟨rfl, ⟨trivial, ⟨trivial, trivial⟩⟩⟩⟩⟩⟩⟩ alle_nil)))))) rfl rfl (opv_extract rfl rfl) ?_
      refine mev (md := [.box [.i .i64 a0.Win.Base, .i .u64 (a0.Win.Bits.toNat : Int), .i .i64 a0.Next, .sl a0.Wait.length (a0.Wait.flatMap eGR05Req), .sl a0.Past.length (a0.Past.flatMap eGR05Reply)], .box [.i .i64 a1.Kind, .i .i64 a1.Seq, .i .i64 a1.Token, .i .i64 a1.Attempt, .b a1.RO, .sl a1.Key.length (a1.Key.flatMap eU8), .sl a1.Val.length (a1.Val.flatMap eU8), .sl a1.Rng.Lo.length (a1.Rng.Lo.flatMap eU8), .sl a1.Rng.Hi.length (a1.Rng.Hi.flatMap eU8), .b a1.Rng.Open], .box [.i .i64 v3.Win.Base, .i .u64 (v3.Win.Bits.toNat : Int), .i .i64 v3.Next, .sl v3.Wait.length (v3.Wait.flatMap eGMsgReq), .sl v3.Past.length (v3.Past.flatMap eGMsgReply)], .box [.i .i64 v5.1.Win.Base, .i .u64 (v5.1.Win.Bits.toNat : Int), .i .i64 v5.1.Next, .sl v5.1.Wait.length (v5.1.Wait.flatMap eGMsgReq), .sl v5.1.Past.length (v5.1.Past.flatMap eGMsgReply)], .box [.i .i64 v5.2.1.Kind, .i .i64 v5.2.1.Seq, .i .i64 v5.2.1.Code, .i .i64 v5.2.1.N, .b v5.2.1.Found, .sl v5.2.1.Val.length (v5.2.1.Val.flatMap eU8), .sl v5.2.1.List.length (v5.2.1.List.flatMap eGApiKV)], .dead, .dead]) (alle_t rfl ⟨rfl, ⟨rfl, ⟨rfl, ⟨rfl, ⟨rfl, ⟨trivial, ⟨trivial, trivial⟩⟩⟩⟩⟩⟩⟩ (alle_t rfl ⟨rfl, ⟨rfl, ⟨rfl, ⟨rfl, ⟨rfl, ⟨trivial, ⟨trivial, trivial⟩⟩⟩⟩⟩⟩⟩ (alle_t rfl ⟨rfl, ⟨rfl, ⟨rfl, ⟨rfl, ⟨rfl, ⟨trivial, ⟨trivial, trivial⟩⟩⟩⟩⟩⟩⟩ (alle_t rfl ⟨rfl, ⟨rfl, ⟨rfl, ⟨rfl, ⟨rfl, ⟨trivial, ⟨trivial, trivial⟩⟩⟩⟩⟩⟩⟩ (alle_t rfl ⟨rfl, ⟨rfl, ⟨rfl, ⟨rfl, ⟨rfl, ⟨trivial, ⟨trivial, trivial⟩⟩⟩⟩⟩⟩⟩ (alle_t rfl ⟨rfl, ⟨rfl, ⟨rfl, ⟨rfl, ⟨rfl, ⟨trivial, ⟨trivial, trivial⟩⟩⟩⟩⟩⟩⟩ alle_nil)))))) rfl rfl (opv_extract rfl rfl) ?_
      refine mee (x := .s (.one (.lp 5 0))) 0 rfl rfl ?_ ?_
      · refine alle_t rfl ⟨_, rfl, fun ζ => ?_⟩ ?_
        · refine salloc_at 5 rfl zi46 rfl ?_
          exact eend
        refine alle_t rfl ⟨_, rfl, fun ζ => ?_⟩ ?_
        · refine salloc_at 5 rfl zi46 rfl ?_
          exact eend
        refine alle_f rfl ?_
        refine alle_f rfl ?_
        refine alle_f rfl ?_
        refine alle_f rfl ?_
        exact alle_nil
      refine mee (x := .s (.one (.lp 6 0))) 1 rfl rfl ?_ ?_
      · refine alle_t rfl ⟨_, rfl, fun ζ => ?_⟩ ?_
        · refine salloc_at 6 rfl zi48 rfl ?_
          exact eend
        refine alle_f rfl ?_
        refine alle_t rfl ⟨_, rfl, fun ζ => ?_⟩ ?_
        · refine salloc_at 6 rfl zi48 rfl ?_
          exact eend
        refine alle_f rfl ?_
        refine alle_f rfl ?_
        refine alle_f rfl ?_
        exact alle_nil
      refine mee0 2 rfl ?_ ?_
      · refine alle_f rfl ?_
        refine alle_f rfl ?_
        refine alle_f rfl ?_
        refine alle_t rfl ⟨_, rfl, fun ζ => ?_⟩ ?_
        · refine sstore sz46 rfl rfl rfl rfl (Nat.le_of_ble_eq_true rfl) ?_
          refine smem [.box [.i .i64 a0.Win.Base, .i .u64 (a0.Win.Bits.toNat : Int), .i .i64 a0.Next, .sl a0.Wait.length (a0.Wait.flatMap eGR05Req), .sl a0.Past.length (a0.Past.flatMap eGR05Reply)], .box [.i .i64 a1.Kind, .i .i64 a1.Seq, .i .i64 a1.Token, .i .i64 a1.Attempt, .b a1.RO, .sl a1.Key.length (a1.Key.flatMap eU8), .sl a1.Val.length (a1.Val.flatMap eU8), .sl a1.Rng.Lo.length (a1.Rng.Lo.flatMap eU8), .sl a1.Rng.Hi.length (a1.Rng.Hi.flatMap eU8), .b a1.Rng.Open], .box [.i .i64 v3.Win.Base, .i .u64 (v3.Win.Bits.toNat : Int), .i .i64 v3.Next, .sl v3.Wait.length (v3.Wait.flatMap eGMsgReq), .sl v3.Past.length (v3.Past.flatMap eGMsgReply)], .box [.i .i64 v5.1.Win.Base, .i .u64 (v5.1.Win.Bits.toNat : Int), .i .i64 v5.1.Next, .sl v5.1.Wait.length (v5.1.Wait.flatMap eGMsgReq), .sl v5.1.Past.length (v5.1.Past.flatMap eGMsgReply)], .box [.i .i64 v5.2.1.Kind, .i .i64 v5.2.1.Seq, .i .i64 v5.2.1.Code, .i .i64 v5.2.1.N, .b v5.2.1.Found, .sl v5.2.1.Val.length (v5.2.1.Val.flatMap eU8), .sl v5.2.1.List.length (v5.2.1.List.flatMap eGApiKV)], .box [.i .i64 v9.1.Win.Base, .i .u64 (v9.1.Win.Bits.toNat : Int), .i .i64 v9.1.Next, .sl v9.1.Wait.length (v9.1.Wait.flatMap eGMsgReq), .sl v9.1.Past.length (v9.1.Past.flatMap eGMsgReply)], .box [.i .i64 0, .i .i64 0, .i .i64 0, .i .i64 0, .b false, .raw (.slice none 0 0), .raw (.slice none 0 0)]] rfl ?_
          exact eend
        refine alle_f rfl ?_
        refine alle_f rfl ?_
        exact alle_nil
      refine mee0 3 rfl ?_ ?_
      · refine alle_f rfl ?_
        refine alle_f rfl ?_
        refine alle_f rfl ?_
        refine alle_f rfl ?_
        refine alle_t rfl ⟨_, rfl, fun ζ => ?_⟩ ?_
        · refine sstore sz48 rfl rfl rfl rfl (Nat.le_of_ble_eq_true rfl) ?_
          refine smem [.box [.i .i64 a0.Win.Base, .i .u64 (a0.Win.Bits.toNat : Int), .i .i64 a0.Next, .sl a0.Wait.length (a0.Wait.flatMap eGR05Req), .sl a0.Past.length (a0.Past.flatMap eGR05Reply)], .box [.i .i64 a1.Kind, .i .i64 a1.Seq, .i .i64 a1.Token, .i .i64 a1.Attempt, .b a1.RO, .sl a1.Key.length (a1.Key.flatMap eU8), .sl a1.Val.length (a1.Val.flatMap eU8), .sl a1.Rng.Lo.length (a1.Rng.Lo.flatMap eU8), .sl a1.Rng.Hi.length (a1.Rng.Hi.flatMap eU8), .b a1.Rng.Open], .box [.i .i64 v3.Win.Base, .i .u64 (v3.Win.Bits.toNat : Int), .i .i64 v3.Next, .sl v3.Wait.length (v3.Wait.flatMap eGMsgReq), .sl v3.Past.length (v3.Past.flatMap eGMsgReply)], .box [.i .i64 v5.1.Win.Base, .i .u64 (v5.1.Win.Bits.toNat : Int), .i .i64 v5.1.Next, .sl v5.1.Wait.length (v5.1.Wait.flatMap eGMsgReq), .sl v5.1.Past.length (v5.1.Past.flatMap eGMsgReply)], .box [.i .i64 v5.2.1.Kind, .i .i64 v5.2.1.Seq, .i .i64 v5.2.1.Code, .i .i64 v5.2.1.N, .b v5.2.1.Found, .sl v5.2.1.Val.length (v5.2.1.Val.flatMap eU8), .sl v5.2.1.List.length (v5.2.1.List.flatMap eGApiKV)], .box [.i .i64 v9.1.Win.Base, .i .u64 (v9.1.Win.Bits.toNat : Int), .i .i64 v9.1.Next, .sl v9.1.Wait.length (v9.1.Wait.flatMap eGMsgReq), .sl v9.1.Past.length (v9.1.Past.flatMap eGMsgReply)], .box [.i .i64 v9.2.1.Kind, .i .i64 v9.2.1.Seq, .i .i64 v9.2.1.Code, .i .i64 v9.2.1.N, .b v9.2.1.Found, .sl v9.2.1.Val.length (v9.2.1.Val.flatMap eU8), .sl v9.2.1.List.length (v9.2.1.List.flatMap eGApiKV)]] rfl ?_
          exact eend
        refine alle_f rfl ?_
        exact alle_nil
      refine mem2 rfl rfl (fun _ => opv_as rfl) ?_
      refine mem2 rfl rfl (fun _ => opv_as rfl) ?_
      refine mnil2 ?_
      refine then_normal ?_
      refine cseq ?_
      refine cseq ?_
      refine cjoin3 (Unit) (fun b10 => [(5, .s (.one (.b v1))), (7, .s (.one (.lp 3 0))), (9, .s (.one (.b v5.2.2.1))), (11, .s (.one (.lp 5 0))), (13, .s (.one (.b v9.2.2.1))), (14, .s (.one (.i .i64 v9.2.2.2)))]) (fun b10 => [.box [.i .i64 a0.Win.Base, .i .u64 (a0.Win.Bits.toNat : Int), .i .i64 a0.Next, .sl a0.Wait.length (a0.Wait.flatMap eGR05Req), .sl a0.Past.length (a0.Past.flatMap eGR05Reply)], .box [.i .i64 a1.Kind, .i .i64 a1.Seq, .i .i64 a1.Token, .i .i64 a1.Attempt, .b a1.RO, .sl a1.Key.length (a1.Key.flatMap eU8), .sl a1.Val.length (a1.Val.flatMap eU8), .sl a1.Rng.Lo.length (a1.Rng.Lo.flatMap eU8), .sl a1.Rng.Hi.length (a1.Rng.Hi.flatMap eU8), .b a1.Rng.Open], .box [.i .i64 v3.Win.Base, .i .u64 (v3.Win.Bits.toNat : Int), .i .i64 v3.Next, .sl v3.Wait.length (v3.Wait.flatMap eGMsgReq), .sl v3.Past.length (v3.Past.flatMap eGMsgReply)], .box [.i .i64 v5.1.Win.Base, .i .u64 (v5.1.Win.Bits.toNat : Int), .i .i64 v5.1.Next, .sl v5.1.Wait.length (v5.1.Wait.flatMap eGMsgReq), .sl v5.1.Past.length (v5.1.Past.flatMap eGMsgReply)], .box [.i .i64 v5.2.1.Kind, .i .i64 v5.2.1.Seq, .i .i64 v5.2.1.Code, .i .i64 v5.2.1.N, .b v5.2.1.Found, .sl v5.2.1.Val.length (v5.2.1.Val.flatMap eU8), .sl v5.2.1.List.length (v5.2.1.List.flatMap eGApiKV)], .box [.i .i64 v9.1.Win.Base, .i .u64 (v9.1.Win.Bits.toNat : Int), .i .i64 v9.1.Next, .sl v9.1.Wait.length (v9.1.Wait.flatMap eGMsgReq), .sl v9.1.Past.length (v9.1.Past.flatMap eGMsgReply)], .box [.i .i64 v9.2.1.Kind, .i .i64 v9.2.1.Seq, .i .i64 v9.2.1.Code, .i .i64 v9.2.1.N, .b v9.2.1.Found, .sl v9.2.1.Val.length (v9.2.1.Val.flatMap eU8), .sl v9.2.1.List.length (v9.2.1.List.flatMap eGApiKV)]]) (fun b10 => m6_l16_PipeTwice_k10 v1 v5 v9 b10 = some r) (fun _ _ => inbL_of rfl) (fun _ _ => blkinb_of rfl) (fun _ _ => Nat.le_of_ble_eq_true rfl) (fun b10 h => ?_) ?_
      · unfold m6_l16_PipeTwice_k10 at h
        refine cseq ?_
        refine cdraw mixed (by kernel_rfl) ?_
        refine dv rfl (opv_mv rfl) ?_
        refine dv rfl (opv_mv rfl) ?_
        refine dsplit 67 rfl (fun hc => ?_) (fun hc => ?_)
        · replace h := ite_t hc h
          clear hc
          refine dvg rfl rfl rfl (opv_mv rfl) ?_
          refine dvg rfl rfl rfl (opv_ieql rfl rfl) ?_
          refine dv rfl (opv_pick_t rfl rfl) ?_
          refine dv rfl (opv_mv rfl) ?_
          refine dsplit 71 rfl (fun hc => ?_) (fun hc => ?_)
          · replace h := ite_t hc h
            clear hc
            refine dvg rfl rfl rfl (opv_mv rfl) ?_
            refine dvg rfl rfl rfl (opv_mv rfl) ?_
            refine dvg rfl rfl rfl (opv_beql Tryd.underlying4 rfl rfl) ?_
            refine dv rfl (opv_pick_t rfl rfl) ?_
            refine dv rfl (opv_mv rfl) ?_
            refine dsplit 76 rfl (fun hc => ?_) (fun hc => ?_)
            · replace h := ite_t hc h
              clear hc
              refine dvg rfl rfl rfl (opv_loadN ti46 rfl (.lp _ _ _ rfl) (Nat.le_of_ble_eq_true rfl)) ?_
              obtain ⟨v11, hv11, h⟩ := bind_eq h
              refine ddg rfl rfl rfl (opD_call fn22 (opnds_cons rfl opnds_nil) rfl (m22_l16_theirs_c hv11)) ?_
              refine dvg rfl rfl rfl (opv_loadN ti46 rfl (.lp _ _ _ rfl) (Nat.le_of_ble_eq_true rfl)) ?_
              obtain ⟨v12, hv12, h⟩ := bind_eq h
              refine ddg rfl rfl rfl (opD_call fn22 (opnds_cons rfl opnds_nil) rfl (m22_l16_theirs_c hv12)) ?_
              obtain ⟨v13, hv13, h⟩ := bind_eq h
              refine ddg rfl rfl rfl (opD_call fn21 (opnds_cons rfl (opnds_cons rfl opnds_nil)) rfl (m21_r16_Same_c hv13)) ?_
              refine dv rfl (opv_pick_t rfl rfl) ?_
              refine dv rfl (opv_mv rfl) ?_
              refine dsplit 83 rfl (fun hc => ?_) (fun hc => ?_)
              · replace h := ite_t hc h
                clear hc
                refine dvg rfl rfl rfl (opv_loadN ti46 rfl (.lp _ _ _ rfl) (Nat.le_of_ble_eq_true rfl)) ?_
                obtain ⟨v14, hv14, h⟩ := bind_eq h
                refine ddg rfl rfl rfl (opD_call fn27 (opnds_cons rfl opnds_nil) rfl (m27_pipe_Sane_c hv14)) ?_
                refine dv rfl (opv_pick_t rfl rfl) ?_
                refine dv rfl (opv_as rfl) ?_
                refine dnil ?_
                refine then_normal ?_
                refine cret ?_
                obtain rfl := Option.some.inj h
                refine ⟨Or.inr rfl, _, _, _, (resVs_cons (ResV.tmp _ _ rfl) resVs_nil), (pubA_id rfl), ?_⟩
                rfl
              · replace h := ite_f hc h
                clear hc
                refine doff rfl rfl rfl rfl ?_
                refine doff rfl rfl rfl rfl ?_
                refine dv rfl (opv_pick_f rfl rfl) ?_
                refine dv rfl (opv_as rfl) ?_
                refine dnil ?_
                refine then_normal ?_
                refine cret ?_
                obtain rfl := Option.some.inj h
                refine ⟨Or.inr rfl, _, _, _, (resVs_cons (ResV.tmp _ _ rfl) resVs_nil), (pubA_id rfl), ?_⟩
                rfl
            · replace h := ite_f hc h
              clear hc
              refine doff rfl rfl rfl rfl ?_
              refine doff rfl rfl rfl rfl ?_
              refine doff rfl rfl rfl rfl ?_
              refine doff rfl rfl rfl rfl ?_
              refine doff rfl rfl rfl rfl ?_
              refine dv rfl (opv_pick_f rfl rfl) ?_
              refine dv rfl (opv_mv rfl) ?_
              refine doff rfl rfl rfl rfl ?_
              refine doff rfl rfl rfl rfl ?_
              refine dv rfl (opv_pick_f rfl rfl) ?_
              refine dv rfl (opv_as rfl) ?_
              refine dnil ?_
              refine then_normal ?_
              refine cret ?_
              obtain rfl := Option.some.inj h
              refine ⟨Or.inr rfl, _, _, _, (resVs_cons (ResV.tmp _ _ rfl) resVs_nil), (pubA_id rfl), ?_⟩
              rfl
          · replace h := ite_f hc h
            clear hc
            refine doff rfl rfl rfl rfl ?_
            refine doff rfl rfl rfl rfl ?_
            refine doff rfl rfl rfl rfl ?_
            refine dv rfl (opv_pick_f rfl rfl) ?_
            refine dv rfl (opv_mv rfl) ?_
            refine doff rfl rfl rfl rfl ?_
            refine doff rfl rfl rfl rfl ?_
            refine doff rfl rfl rfl rfl ?_
            refine doff rfl rfl rfl rfl ?_
            refine doff rfl rfl rfl rfl ?_
            refine dv rfl (opv_pick_f rfl rfl) ?_
            refine dv rfl (opv_mv rfl) ?_
            refine doff rfl rfl rfl rfl ?_
            refine doff rfl rfl rfl rfl ?_
            refine dv rfl (opv_pick_f rfl rfl) ?_
            refine dv rfl (opv_as rfl) ?_
            refine dnil ?_
            refine then_normal ?_
            refine cret ?_
            obtain rfl := Option.some.inj h
            refine ⟨Or.inr rfl, _, _, _, (resVs_cons (ResV.tmp _ _ rfl) resVs_nil), (pubA_id rfl), ?_⟩
            rfl
        · replace h := ite_f hc h
          clear hc
          refine doff rfl rfl rfl rfl ?_
          refine doff rfl rfl rfl rfl ?_
          refine dv rfl (opv_pick_f rfl rfl) ?_
          refine dv rfl (opv_mv rfl) ?_
          refine doff rfl rfl rfl rfl ?_
          refine doff rfl rfl rfl rfl ?_
          refine doff rfl rfl rfl rfl ?_
          refine dv rfl (opv_pick_f rfl rfl) ?_
          refine dv rfl (opv_mv rfl) ?_
          refine doff rfl rfl rfl rfl ?_
          refine doff rfl rfl rfl rfl ?_
          refine doff rfl rfl rfl rfl ?_
          refine doff rfl rfl rfl rfl ?_
          refine doff rfl rfl rfl rfl ?_
          refine dv rfl (opv_pick_f rfl rfl) ?_
          refine dv rfl (opv_mv rfl) ?_
          refine doff rfl rfl rfl rfl ?_
          refine doff rfl rfl rfl rfl ?_
          refine dv rfl (opv_pick_f rfl rfl) ?_
          refine dv rfl (opv_as rfl) ?_
          refine dnil ?_
          refine then_normal ?_
          refine cret ?_
          obtain rfl := Option.some.inj h
          refine ⟨Or.inr rfl, _, _, _, (resVs_cons (ResV.tmp _ _ rfl) resVs_nil), (pubA_id rfl), ?_⟩
          rfl
      · skip
        refine cdraw mixed (by kernel_rfl) ?_
        refine dv rfl (opv_mv rfl) ?_
        refine dv rfl (opv_mv rfl) ?_
        refine dsplit 59 rfl (fun hc => ?_) (fun hc => ?_)
        · replace h := ite_t hc h
          clear hc
          refine dvg rfl rfl rfl (opv_loadN ti46 rfl (.lp _ _ _ rfl) (Nat.le_of_ble_eq_true rfl)) ?_
          obtain ⟨v15, hv15, h⟩ := bind_eq h
          refine ddg rfl rfl rfl (opD_call fn22 (opnds_cons rfl opnds_nil) rfl (m22_l16_theirs_c hv15)) ?_
          refine dvg rfl rfl rfl (opv_loadN ti28 rfl (.lp _ _ _ rfl) (Nat.le_of_ble_eq_true rfl)) ?_
          obtain ⟨v16, hv16, h⟩ := bind_eq h
          refine ddg rfl rfl rfl (opD_call fn21 (opnds_cons rfl (opnds_cons rfl opnds_nil)) rfl (m21_r16_Same_c hv16)) ?_
          refine dvg rfl rfl rfl (opv_not rfl) ?_
          refine dv rfl (opv_pick_t rfl rfl) ?_
          refine dnil ?_
          refine then_normal ?_
          refine ccond rfl (fun hc => ?_) (fun hc => ?_)
          · replace h := ite_t hc h
            clear hc
            refine cseq ?_
            refine cregion ?_
            refine sv rfl (opv_as rfl) ?_
            refine snil ?_
            refine cret ?_
            refine then_ret ?_
            obtain rfl := Option.some.inj h
            refine ⟨Or.inr rfl, _, _, _, (resVs_cons (ResV.tmp _ _ rfl) resVs_nil), (pubA_id rfl), ?_⟩
            rfl
          · replace h := ite_f hc h
            clear hc
            refine cskip ?_
            refine then_normal ?_
            exact ⟨(), _, h, ⟨rfl, rfl, rfl, rfl, rfl, rfl, trivial⟩, rfl⟩
        · replace h := ite_f hc h
          clear hc
          refine doff rfl rfl rfl rfl ?_
          refine doff rfl rfl rfl rfl ?_
          refine doff rfl rfl rfl rfl ?_
          refine doff rfl rfl rfl rfl ?_
          refine doff rfl rfl rfl rfl ?_
          refine dv rfl (opv_pick_f rfl rfl) ?_
          refine dnil ?_
          refine then_normal ?_
          refine ccond rfl (fun hx => Bool.noConfusion hx) (fun _ => ?_)
          refine cskip ?_
          refine then_normal ?_
          exact ⟨(), _, h, ⟨rfl, rfl, rfl, rfl, rfl, rfl, trivial⟩, rfl⟩
  · skip
    refine cregion ?_
    refine sv rfl (opv_loadN ti28 rfl (.lp _ _ _ rfl) (Nat.le_of_ble_eq_true rfl)) ?_
    obtain ⟨v17, hv17, h⟩ := bind_eq h
    refine scall1 rfl fn9 (opnds_cons rfl opnds_nil) (pubA_id rfl) (m9_r16_Few_c hv17) ?_
    refine sv rfl (opv_not rfl) ?_
    refine sv rfl (opv_mv rfl) ?_
    refine ssplit 19 rfl (fun hc => ?_) (fun hc => ?_)
    · replace h := ite_t hc h
      clear hc
      refine soff rfl rfl rfl rfl ?_
      refine soff rfl rfl rfl rfl ?_
      refine soff rfl rfl rfl rfl ?_
      refine sv rfl (opv_pick_t rfl rfl) ?_
      refine snil ?_
      refine ccond rfl (fun _ => ?_) (fun hx => Bool.noConfusion hx)
      refine cseq ?_
      refine cregion ?_
      refine sv rfl (opv_mv rfl) ?_
      refine sv rfl (opv_as rfl) ?_
      refine snil ?_
      refine cret ?_
      refine then_ret ?_
      obtain rfl := Option.some.inj h
      refine ⟨Or.inr rfl, _, _, _, (resVs_cons (ResV.tmp _ _ rfl) resVs_nil), (pubA_id rfl), ?_⟩
      rfl
    · replace h := ite_f hc h
      clear hc
      refine son rfl rfl rfl ?_
      refine sv rfl (opv_loadN ti33 rfl (.lp _ _ _ rfl) (Nat.le_of_ble_eq_true rfl)) ?_
      refine son rfl rfl rfl ?_
      obtain ⟨v18, hv18, h⟩ := bind_eq h
      refine scall1 rfl fn10 (opnds_cons rfl opnds_nil) (pubA_id rfl) (m10_r05_Few_c hv18) ?_
      refine son rfl rfl rfl ?_
      refine sv rfl (opv_not rfl) ?_
      refine sv rfl (opv_pick_f rfl rfl) ?_
      refine snil ?_
      refine ccond rfl (fun hc => ?_) (fun hc => ?_)
      · replace h := ite_t hc h
        clear hc
        refine cseq ?_
        refine cregion ?_
        refine sv rfl (opv_mv rfl) ?_
        refine sv rfl (opv_as rfl) ?_
        refine snil ?_
        refine cret ?_
        refine then_ret ?_
        obtain rfl := Option.some.inj h
        refine ⟨Or.inr rfl, _, _, _, (resVs_cons (ResV.tmp _ _ rfl) resVs_nil), (pubA_id rfl), ?_⟩
        rfl
      · replace h := ite_f hc h
        clear hc
        refine cskip ?_
        refine then_normal ?_
        exact ⟨(), _, h, ⟨rfl, rfl, rfl, trivial⟩, rfl⟩


end Go.Proofs.YtlpanhfojeaamaaDoor.Abs
