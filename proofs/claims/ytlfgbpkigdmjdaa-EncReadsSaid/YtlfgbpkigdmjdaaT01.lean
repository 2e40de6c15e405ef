/-
  t
-/
import Derived.Test.YtlfgbpkigdmjdaaT01a
namespace Go.Proofs.Ytlfgbpkigdmjdaa.Abs
open Go.RowKit Go.Proofs
def m28_l01_steps (a0 : GL01Step) (a1 : Int) (a2 : Int) (a3 : List UInt8) : Option (Bool × Int × Int) :=
  if (decide (a0.What = 0)) then (m28_l01_steps_k1 a0 a1 a2 a3 (decide (a0.What = 0))) else (m28_l01_steps_k1 a0 a1 a2 a3 (decide (a0.What = 1)))

set_option maxRecDepth 100000 in
theorem m28_l01_steps_c {a0 : GL01Step} {a1 : Int} {a2 : Int} {a3 : List UInt8} {r : Bool × Int × Int} (h : m28_l01_steps a0 a1 a2 a3 = some r) : CallsB Try.prog 28 [.box [.fn 30 [] [.lp 1 0, .lp 2 0], .i .i64 a1], .box [.i .i64 a2], .box [.sl a3.length (a3.flatMap eU8)]] [.one (.lp 0 0), .agg [.i .i64 a0.What, .i .i64 a0.N]] (fun y m' => y = .s (.one (.b r.1)) ∧ m' = [.box [.fn 30 [] [.lp 1 0, .lp 2 0], .i .i64 r.2.1], .box [.i .i64 r.2.2], .box [.sl a3.length (a3.flatMap eU8)]]) := by
  unfold m28_l01_steps at h
  refine callsB_of Try.func28 rfl (nt := 33) rfl (Nat.le_of_ble_eq_true rfl) ?_
  intro w0 S0 X0 H0
  refine cseq ?_
  refine cregion ?_
  refine sbox rfl rfl ?_
  refine sv rfl (opv_as rfl) ?_
  refine snil ?_
  refine cseq ?_
  refine cseq ?_
  refine cregion ?_
  refine sv rfl (opv_fieldAddr_lp fi34_0 rfl) ?_
  refine sv rfl (opv_load1 ti3 rfl (.lp _ _ _ rfl) rfl) ?_
  refine snil ?_
  refine cblock ?_
  refine cseq ?_
  refine cseq ?_
  refine cregion ?_
  refine sv rfl (opv_ieql rfl rfl) ?_
  refine sv rfl (opv_as rfl) ?_
  refine snil ?_
  refine cjoin (Bool) (fun b1 => [(0, .s (.one (.lp 0 0))), (3, .s (.one (.lp 3 0))), (6, .s (.one (.i .i64 a0.What))), (7, .s (.one (.b b1)))]) (fun b1 => [.box [.fn 30 [] [.lp 1 0, .lp 2 0], .i .i64 a1], .box [.i .i64 a2], .box [.sl a3.length (a3.flatMap eU8)], .box [.i .i64 a0.What, .i .i64 a0.N]]) (fun b1 => m28_l01_steps_k1 a0 a1 a2 a3 b1 = some r) (fun _ _ => inbL_of rfl) (fun _ _ => blkinb_of rfl) (fun _ _ => Nat.le_of_ble_eq_true rfl) (fun b1 h => ?_) ?_
  · unfold m28_l01_steps_k1 at h
    refine ccond rfl (fun hc => ?_) (fun hc => ?_)
    · replace h := ite_t hc h
      clear hc
      refine cseq ?_
      refine cregion ?_
      refine sv rfl (opv_mv rfl) ?_
      refine sv rfl (opv_fieldAddr_lp fi34_1 rfl) ?_
      refine sv rfl (opv_load1 ti3 rfl (.lp _ _ _ rfl) rfl) ?_
      obtain ⟨v2, hv2, h⟩ := bind_eq h
      refine scallB (x' := .s (.one (.i .u64 (v2.1.toNat : Int)))) (M' := [.box [.fn 30 [] [.lp 1 0, .lp 2 0], .i .i64 v2.2.1], .box [.i .i64 v2.2.2], .box [.sl a3.length (a3.flatMap eU8)], .box [.i .i64 a0.What, .i .i64 a0.N]]) [0, 1, 2] rfl fn16 (.func _) (opnds_cons rfl (opnds_cons rfl opnds_nil)) (m16_enc_Reader_Us_c hv2) rfl rfl (by decide) rfl rfl rfl ?_
      refine sv rfl (opv_ineq rfl rfl) ?_
      refine sv rfl (opv_as rfl) ?_
      refine snil ?_
      refine cret ?_
      refine block_ret ?_
      refine then_ret ?_
      obtain rfl := Option.some.inj h
      exact ⟨Or.inr rfl, _, [0, 1, 2], [.one (.b (!decide ((v2.1.toNat : Int) = (0 : Int))))], [.box [.fn 30 [] [.lp 1 0, .lp 2 0], .i .i64 v2.2.1], .box [.i .i64 v2.2.2], .box [.sl a3.length (a3.flatMap eU8)]], (resVs_cons (ResV.tmp _ _ rfl) resVs_nil), rfl, rfl, ⟨by decide, rfl⟩, rfl, rfl, ⟨rfl, rfl⟩⟩
    · replace h := ite_f hc h
      clear hc
      refine cseq ?_
      refine cregion ?_
      refine sv rfl (opv_ieql rfl rfl) ?_
      refine sv rfl (opv_as rfl) ?_
      refine snil ?_
      refine ccond rfl (fun hc => ?_) (fun hc => ?_)
      · replace h := ite_t hc h
        clear hc
        refine cseq ?_
        refine cregion ?_
        refine sv rfl (opv_mv rfl) ?_
        refine sv rfl (opv_fieldAddr_lp fi34_1 rfl) ?_
        refine sv rfl (opv_load1 ti3 rfl (.lp _ _ _ rfl) rfl) ?_
        obtain ⟨v3, hv3, h⟩ := bind_eq h
        refine scallB (x' := .s (.one (.sl v3.1.length (v3.1.flatMap eU8)))) (M' := [.box [.fn 30 [] [.lp 1 0, .lp 2 0], .i .i64 v3.2.1], .box [.i .i64 v3.2.2], .box [.sl a3.length (a3.flatMap eU8)], .box [.i .i64 a0.What, .i .i64 a0.N]]) [0, 1, 2] rfl fn18 (.func _) (opnds_cons rfl (opnds_cons rfl opnds_nil)) (m18_enc_Reader_Lists_c hv3) rfl rfl (by decide) rfl rfl rfl ?_
        refine sv rfl (opv_len_sl si22 rfl) ?_
        refine sv rfl (opv_ineq rfl rfl) ?_
        refine sv rfl (opv_as rfl) ?_
        refine snil ?_
        refine cret ?_
        refine block_ret ?_
        refine then_ret ?_
        obtain rfl := Option.some.inj h
        exact ⟨Or.inr rfl, _, [0, 1, 2], [.one (.b (!decide ((v3.1.length : Int) = 0)))], [.box [.fn 30 [] [.lp 1 0, .lp 2 0], .i .i64 v3.2.1], .box [.i .i64 v3.2.2], .box [.sl a3.length (a3.flatMap eU8)]], (resVs_cons (ResV.tmp _ _ rfl) resVs_nil), rfl, rfl, ⟨by decide, rfl⟩, rfl, rfl, ⟨rfl, rfl⟩⟩
      · replace h := ite_f hc h
        clear hc
        refine cseq ?_
        refine cregion ?_
        refine sv rfl (opv_ieql rfl rfl) ?_
        refine sv rfl (opv_as rfl) ?_
        refine snil ?_
        refine ccond rfl (fun hc => ?_) (fun hc => ?_)
        · replace h := ite_t hc h
          clear hc
          refine cseq ?_
          refine cregion ?_
          refine sv rfl (opv_mv rfl) ?_
          obtain ⟨v4, hv4, h⟩ := bind_eq h
          refine scallB (x' := .s (.one (.b v4.1))) (M' := [.box [.fn 30 [] [.lp 1 0, .lp 2 0], .i .i64 v4.2.1], .box [.i .i64 v4.2.2], .box [.sl a3.length (a3.flatMap eU8)], .box [.i .i64 a0.What, .i .i64 a0.N]]) [0, 1, 2] rfl fn20 (.func _) (opnds_cons rfl opnds_nil) (m20_enc_Reader_Flags_c hv4) rfl rfl (by decide) rfl rfl rfl ?_
          refine sv rfl (opv_as rfl) ?_
          refine snil ?_
          refine cret ?_
          refine block_ret ?_
          refine then_ret ?_
          obtain rfl := Option.some.inj h
          exact ⟨Or.inr rfl, _, [0, 1, 2], [.one (.b v4.1)], [.box [.fn 30 [] [.lp 1 0, .lp 2 0], .i .i64 v4.2.1], .box [.i .i64 v4.2.2], .box [.sl a3.length (a3.flatMap eU8)]], (resVs_cons (ResV.tmp _ _ rfl) resVs_nil), rfl, rfl, ⟨by decide, rfl⟩, rfl, rfl, ⟨rfl, rfl⟩⟩
        · replace h := ite_f hc h
          clear hc
          refine cseq ?_
          refine cregion ?_
          refine sv rfl (opv_ieql rfl rfl) ?_
          refine sv rfl (opv_as rfl) ?_
          refine snil ?_
          refine ccond rfl (fun hc => ?_) (fun hc => ?_)
          · replace h := ite_t hc h
            clear hc
            refine cregion ?_
            refine sv rfl (opv_mv rfl) ?_
            refine sv rfl (opv_fieldAddr_lp fi34_1 rfl) ?_
            refine sv rfl (opv_load1 ti3 rfl (.lp _ _ _ rfl) rfl) ?_
            obtain ⟨v5, hv5, h⟩ := bind_eq h
            refine scallB (x' := .tup []) (M' := [.box [.fn 30 [] [.lp 1 0, .lp 2 0], .i .i64 v5], .box [.i .i64 a2], .box [.sl a3.length (a3.flatMap eU8)], .box [.i .i64 a0.What, .i .i64 a0.N]]) [0, 1, 2] rfl fn22 (.func _) (opnds_cons rfl (opnds_cons rfl opnds_nil)) (m22_enc_Reader_Fails_c hv5) rfl rfl (by decide) rfl rfl rfl ?_
            refine snil0 ?_
            refine block_normal ?_
            refine then_normal ?_
            refine cseq ?_
            refine cregion ?_
            refine sv rfl (opv_as rfl) ?_
            refine snil ?_
            refine cret ?_
            obtain rfl := Option.some.inj h
            exact ⟨Or.inr rfl, _, [0, 1, 2], [.one (.b false)], [.box [.fn 30 [] [.lp 1 0, .lp 2 0], .i .i64 v5], .box [.i .i64 a2], .box [.sl a3.length (a3.flatMap eU8)]], (resVs_cons (ResV.tmp _ _ rfl) resVs_nil), rfl, rfl, ⟨by decide, rfl⟩, rfl, rfl, ⟨rfl, rfl⟩⟩
          · replace h := ite_f hc h
            clear hc
            refine cskip ?_
            refine block_normal ?_
            refine then_normal ?_
            refine cseq ?_
            refine cregion ?_
            refine sv rfl (opv_as rfl) ?_
            refine snil ?_
            refine cret ?_
            obtain rfl := Option.some.inj h
            exact ⟨Or.inr rfl, _, [0, 1, 2], [.one (.b false)], [.box [.fn 30 [] [.lp 1 0, .lp 2 0], .i .i64 a1], .box [.i .i64 a2], .box [.sl a3.length (a3.flatMap eU8)]], (resVs_cons (ResV.tmp _ _ rfl) resVs_nil), rfl, rfl, ⟨by decide, rfl⟩, rfl, rfl, ⟨rfl, rfl⟩⟩
  · skip
    refine ccond rfl (fun hc => ?_) (fun hc => ?_)
    · replace h := ite_t hc h
      clear hc
      refine cskip ?_
      refine then_normal ?_
      exact ⟨(decide (a0.What = 0)), _, h, ⟨rfl, rfl, rfl, rfl, trivial⟩, rfl⟩
    · replace h := ite_f hc h
      clear hc
      refine cregion ?_
      refine sv rfl (opv_ieql rfl rfl) ?_
      refine sv rfl (opv_as rfl) ?_
      refine snil ?_
      exact ⟨(decide (a0.What = 1)), _, h, ⟨rfl, rfl, rfl, rfl, trivial⟩, rfl⟩

def m22_enc_Reader_Fails1 (a0 : Int) : Option Unit :=
  some ()

set_option maxRecDepth 100000 in
theorem m22_enc_Reader_Fails1_c {a0 : Int} {r : Unit} (h : m22_enc_Reader_Fails1 a0 = some r) : CallsA Try.prog 22 [.one (.raw (.pointer none)), .one (.i .i64 a0)] (· = .tup []) := by
  unfold m22_enc_Reader_Fails1 at h
  refine callsA_of Try.func22 rfl (nt := 17) rfl (Nat.le_of_ble_eq_true rfl) ?_
  intro w0 S0
  refine cseq ?_
  refine cregion ?_
  refine sv rfl (opv_mv rfl) ?_
  refine sv rfl (opv_nn_neq Try.underlying29 rfl) ?_
  refine sv rfl (opv_mv rfl) ?_
  refine soff rfl rfl rfl rfl ?_
  refine soff rfl rfl rfl rfl ?_
  refine soff rfl rfl rfl rfl ?_
  refine soff rfl rfl rfl rfl ?_
  refine soff rfl rfl rfl rfl ?_
  refine sv rfl (opv_pick_f rfl rfl) ?_
  refine snil ?_
  refine ccond rfl (fun hx => Bool.noConfusion hx) (fun _ => ?_)
  refine cskip ?_
  obtain rfl := Option.some.inj h
  refine ⟨Or.inl rfl, _, _, _, resVs_nil, (pubA_id rfl), ?_⟩
  rfl

def m24_enc_Reader_Errs1  : Option Int :=
  some 1

set_option maxRecDepth 100000 in
theorem m24_enc_Reader_Errs1_c  {r : Int} (h : m24_enc_Reader_Errs1 = some r) : CallsA Try.prog 24 [.one (.raw (.pointer none))] (· = .s (.one (.i .i64 r))) := by
  unfold m24_enc_Reader_Errs1 at h
  refine callsA_of Try.func24 rfl (nt := 9) rfl (Nat.le_of_ble_eq_true rfl) ?_
  intro w0 S0
  refine cseq ?_
  refine cregion ?_
  refine sv rfl (opv_as rfl) ?_
  refine snil ?_
  refine cseq ?_
  refine cseq ?_
  refine cregion ?_
  refine sv rfl (opv_mv rfl) ?_
  refine sv rfl (opv_nn_eql Try.underlying29 rfl) ?_
  refine snil ?_
  refine ccond rfl (fun _ => ?_) (fun hx => Bool.noConfusion hx)
  refine cseq ?_
  refine cregion ?_
  refine sv rfl (opv_as rfl) ?_
  refine snil ?_
  refine cret ?_
  refine then_ret ?_
  obtain rfl := Option.some.inj h
  refine ⟨Or.inr rfl, _, _, _, (resVs_cons (ResV.tmp _ _ rfl) resVs_nil), (pubA_id rfl), ?_⟩
  rfl

def m34_enc_Reader_places1  : Option (Int × (List UInt8)) :=
  some (0, ([] : List UInt8))

set_option maxRecDepth 100000 in
theorem m34_enc_Reader_places1_c  {r : Int × (List UInt8)} (h : m34_enc_Reader_places1 = some r) : CallsA Try.prog 34 [.one (.raw (.pointer none))] (· = .tup [.one (.i .i64 r.1), .one (.sl r.2.length (r.2.flatMap eU8))]) := by
  unfold m34_enc_Reader_places1 at h
  refine callsA_of Try.func34 rfl (nt := 20) rfl (Nat.le_of_ble_eq_true rfl) ?_
  intro w0 S0
  refine cseq ?_
  refine cregion ?_
  refine sv rfl (opv_as rfl) ?_
  refine sv rfl (opv_as rfl) ?_
  refine snil ?_
  refine cseq ?_
  refine cseq ?_
  refine cregion ?_
  refine sv rfl (opv_mv rfl) ?_
  refine sv rfl (opv_nn_eql Try.underlying29 rfl) ?_
  refine sv rfl (opv_mv rfl) ?_
  refine soff rfl rfl rfl rfl ?_
  refine soff rfl rfl rfl rfl ?_
  refine soff rfl rfl rfl rfl ?_
  refine soff rfl rfl rfl rfl ?_
  refine soff rfl rfl rfl rfl ?_
  refine sv rfl (opv_pick_t rfl rfl) ?_
  refine snil ?_
  refine ccond rfl (fun _ => ?_) (fun hx => Bool.noConfusion hx)
  refine cseq ?_
  refine cregion ?_
  refine sv rfl (opv_as rfl) ?_
  refine sv rfl (opv_as rfl) ?_
  refine snil ?_
  refine cret ?_
  refine then_ret ?_
  obtain rfl := Option.some.inj h
  refine ⟨Or.inr rfl, _, _, _, (resVs_cons (ResV.tmp _ _ rfl) (resVs_cons (ResV.tmp _ _ rfl) resVs_nil)), (pubC rfl), ?_⟩
  rfl

def m31_enc_Reader_takes1_k3 (a0 : Int) (v1 : Int × (List UInt8)) (b3 : Unit) : Option (List UInt8) :=
  (cut v1.2 0 a0).bind fun c4 => some c4
def m31_enc_Reader_takes1 (a0 : Int) : Option (List UInt8) :=
  (m34_enc_Reader_places1).bind fun v1 => if (decide ((v1.2.length : Int) < a0)) then ((m22_enc_Reader_Fails1 2).bind fun v2 => some ([] : List UInt8)) else (if (decide (0 < a0)) then none else (m31_enc_Reader_takes1_k3 a0 v1 ()))

set_option maxRecDepth 100000 in
theorem m31_enc_Reader_takes1_c {a0 : Int} {r : (List UInt8)} (h : m31_enc_Reader_takes1 a0 = some r) : CallsA Try.prog 31 [.one (.raw (.pointer none)), .one (.i .i64 a0)] (· = .s (.one (.sl r.length (r.flatMap eU8)))) := by
  unfold m31_enc_Reader_takes1 at h
  refine callsA_of Try.func31 rfl (nt := 29) rfl (Nat.le_of_ble_eq_true rfl) ?_
  intro w0 S0
  refine cseq ?_
  refine cregion ?_
  refine sv rfl (opv_as rfl) ?_
  refine snil ?_
  refine cseq ?_
  refine cregion ?_
  refine sv rfl (opv_mv rfl) ?_
  obtain ⟨v1, hv1, h⟩ := bind_eq h
  refine sd rfl (opD_callC fn34 (.func _) (opnds_cons rfl opnds_nil) rfl (m34_enc_Reader_places1_c hv1)) ?_
  refine sv rfl (opv_mvt rfl) ?_
  refine sv rfl (opv_extract rfl rfl) ?_
  refine sv rfl (opv_extract rfl rfl) ?_
  refine sv rfl (opv_as rfl) ?_
  refine sv rfl (opv_as rfl) ?_
  refine snil ?_
  refine cseq ?_
  refine cseq ?_
  refine cregion ?_
  refine sv rfl (opv_mv rfl) ?_
  refine sv rfl (opv_len_sl si22 rfl) ?_
  refine sv rfl (opv_mv rfl) ?_
  refine sv rfl (opv_lss rfl rfl) ?_
  refine snil ?_
  refine ccond rfl (fun hc => ?_) (fun hc => ?_)
  · replace h := ite_t hc h
    clear hc
    refine cseq ?_
    refine cregion ?_
    refine sv rfl (opv_mv rfl) ?_
    obtain ⟨v2, hv2, h⟩ := bind_eq h
    refine sd rfl (opD_callC fn22 (.func _) (opnds_cons rfl (opnds_cons rfl opnds_nil)) rfl (m22_enc_Reader_Fails1_c hv2)) ?_
    refine snil ?_
    refine cseq ?_
    refine cregion ?_
    refine sv rfl (opv_as rfl) ?_
    refine snil ?_
    refine cret ?_
    refine then_ret ?_
    obtain rfl := Option.some.inj h
    refine ⟨Or.inr rfl, _, _, _, (resVs_cons (ResV.tmp _ _ rfl) resVs_nil), (pubC rfl), ?_⟩
    rfl
  · replace h := ite_f hc h
    clear hc
    refine cskip ?_
    refine then_normal ?_
    refine cseq ?_
    refine cseq ?_
    refine cregion ?_
    refine sv rfl (opv_mv rfl) ?_
    refine sv rfl (opv_gtr rfl rfl) ?_
    refine snil ?_
    refine cjoin (Unit) (fun b3 => [(1, .s (.one (.i .i64 a0))), (6, .s (.one (.sl v1.2.length (v1.2.flatMap eU8))))]) (fun b3 => []) (fun b3 => m31_enc_Reader_takes1_k3 a0 v1 b3 = some r) (fun _ _ => inbL_of rfl) (fun _ _ => blkinb_of rfl) (fun _ _ => Nat.le_of_ble_eq_true rfl) (fun b3 h => ?_) ?_
    · unfold m31_enc_Reader_takes1_k3 at h
      refine cseq ?_
      refine cregion ?_
      refine sv rfl (opv_mv rfl) ?_
      refine sv rfl (opv_mv rfl) ?_
      obtain ⟨c4, hc4, h⟩ := bind_eq h
      refine sv rfl (opv_cut (f := eU8) (lo := 0) (hi := a0) si22 (fun _ => rfl) rfl rfl rfl bound_none (bound_some rfl (Int.le_trans (cut_eq hc4).1.1 (cut_eq hc4).1.2.1)) hc4) ?_
      refine sv rfl (opv_as rfl) ?_
      refine snil ?_
      refine cret ?_
      obtain rfl := Option.some.inj h
      refine ⟨Or.inr rfl, _, _, _, (resVs_cons (ResV.tmp _ _ rfl) resVs_nil), (pubA_id rfl), ?_⟩
      rfl
    · skip
      refine ccond rfl (fun hc => ?_) (fun hc => ?_)
      · replace h := ite_t hc h
        clear hc
        refine cregion ?_
        refine sv rfl (opv_mv rfl) ?_
        cases h
      · replace h := ite_f hc h
        clear hc
        refine cskip ?_
        refine then_normal ?_
        exact ⟨(), _, h, ⟨rfl, rfl, trivial⟩, rfl⟩

def m16_enc_Reader_Us1_k4 (b4 : (BitVec 64)) : Option (BitVec 64) :=
  some b4

def m16_enc_Reader_Us1_s5 (v3 : (List UInt8)) (s5 : (BitVec 64) × Int) : Option (LB ((BitVec 64) × Int) ((BitVec 64))) :=
  if (decide (s5.2 < (v3.length : Int))) then ((idx v3 s5.2).bind fun u6 => if 0 ≤ (wI (8 * s5.2)) then (some (.cont ((s5.1 ||| ((u6.toBitVec.setWidth 64) <<< (wI (8 * s5.2)).toNat)), (wI (s5.2 + 1))))) else none) else (some (.brk s5.1))

def m16_enc_Reader_Us1_k2 (a0 : Int) (b2 : Unit) : Option (BitVec 64) :=
  (m31_enc_Reader_takes1 a0).bind fun v3 => (iterB (m16_enc_Reader_Us1_s5 v3) fuel (0#64, 0)).bind fun e8 => m16_enc_Reader_Us1_k4 e8
def m16_enc_Reader_Us1 (a0 : Int) : Option (BitVec 64) :=
  (m24_enc_Reader_Errs1).bind fun v1 => if (!decide (v1 = 0)) then (some (0#64)) else (if (decide (a0 < 1)) then ((m22_enc_Reader_Fails1 1).bind fun v9 => some (0#64)) else (if (decide (8 < a0)) then ((m22_enc_Reader_Fails1 1).bind fun v10 => some (0#64)) else (m16_enc_Reader_Us1_k2 a0 ())))

set_option maxRecDepth 100000 in
theorem m16_enc_Reader_Us1_c {a0 : Int} {r : (BitVec 64)} (h : m16_enc_Reader_Us1 a0 = some r) : CallsA Try.prog 16 [.one (.raw (.pointer none)), .one (.i .i64 a0)] (· = .s (.one (.i .u64 (r.toNat : Int)))) := by
  unfold m16_enc_Reader_Us1 at h
  refine callsA_of Try.func16 rfl (nt := 37) rfl (Nat.le_of_ble_eq_true rfl) ?_
  intro w0 S0
  refine cseq ?_
  refine cregion ?_
  refine sv rfl (opv_as rfl) ?_
  refine snil ?_
  refine cseq ?_
  refine cseq ?_
  refine cregion ?_
  refine sv rfl (opv_mv rfl) ?_
  obtain ⟨v1, hv1, h⟩ := bind_eq h
  refine sd rfl (opD_callC fn24 (.func _) (opnds_cons rfl opnds_nil) rfl (m24_enc_Reader_Errs1_c hv1)) ?_
  refine sv rfl (opv_ineq rfl rfl) ?_
  refine snil ?_
  refine ccond rfl (fun hc => ?_) (fun hc => ?_)
  · replace h := ite_t hc h
    clear hc
    refine cseq ?_
    refine cregion ?_
    refine sv rfl (opv_as rfl) ?_
    refine snil ?_
    refine cret ?_
    refine then_ret ?_
    obtain rfl := Option.some.inj h
    refine ⟨Or.inr rfl, _, _, _, (resVs_cons (ResV.tmp _ _ rfl) resVs_nil), (pubA_id rfl), ?_⟩
    rfl
  · replace h := ite_f hc h
    clear hc
    refine cskip ?_
    refine then_normal ?_
    refine cseq ?_
    refine cseq ?_
    refine cjoin3 (Unit) (fun b2 => [(0, .s (.one (.raw (.pointer none)))), (1, .s (.one (.i .i64 a0)))]) (fun b2 => []) (fun b2 => m16_enc_Reader_Us1_k2 a0 b2 = some r) (fun _ _ => inbL_of rfl) (fun _ _ => blkinb_of rfl) (fun _ _ => Nat.le_of_ble_eq_true rfl) (fun b2 h => ?_) ?_
    · unfold m16_enc_Reader_Us1_k2 at h
      refine cseq ?_
      refine cregion ?_
      refine sv rfl (opv_as rfl) ?_
      refine snil ?_
      refine cseq ?_
      refine cseq ?_
      refine cregion ?_
      refine sv rfl (opv_mv rfl) ?_
      refine sv rfl (opv_mv rfl) ?_
      obtain ⟨v3, hv3, h⟩ := bind_eq h
      refine sd rfl (opD_callC fn31 (.func _) (opnds_cons rfl (opnds_cons rfl opnds_nil)) rfl (m31_enc_Reader_takes1_c hv3)) ?_
      refine sv rfl (opv_len_sl si22 rfl) ?_
      refine sv rfl (opv_mv rfl) ?_
      refine snil ?_
      refine cjoin ((BitVec 64)) (fun b4 => [(5, .s (.one (.i .u64 (b4.toNat : Int))))]) (fun b4 => []) (fun b4 => m16_enc_Reader_Us1_k4 b4 = some r) (fun _ _ => inbL_of rfl) (fun _ _ => blkinb_of rfl) (fun _ _ => Nat.le_of_ble_eq_true rfl) (fun b4 h => ?_) ?_
      · unfold m16_enc_Reader_Us1_k4 at h
        refine cseq ?_
        refine cregion ?_
        refine sv rfl (opv_mv rfl) ?_
        refine sv rfl (opv_as rfl) ?_
        refine snil ?_
        refine cret ?_
        obtain rfl := Option.some.inj h
        refine ⟨Or.inr rfl, _, _, _, (resVs_cons (ResV.tmp _ _ rfl) resVs_nil), (pubA_id rfl), ?_⟩
        rfl
      · skip
        refine cblock ?_
        obtain ⟨x5, hx5, ho5⟩ := bind_eq h
        refine awc_loop (G := Nat × ((BitVec 64) × Int)) (fun g => [(5, .s (.one (.i .u64 (g.2.1.toNat : Int)))), (21, .s (.one (.sl v3.length (v3.flatMap eU8)))), (22, .s (.one (.i .i64 (v3.length : Int)))), (23, .s (.one (.i .i64 g.2.2)))]) (fun g => []) (fun g => iterB (m16_enc_Reader_Us1_s5 v3) g.1 g.2 = some x5) (fun g => g.1) (fuel, (0#64, 0)) hx5 ⟨rfl, rfl, rfl, rfl, trivial⟩ [] rfl (fun _ _ => inbL_of rfl) (fun _ _ => blkinb_of rfl) (fun _ _ => Nat.le_of_ble_eq_true rfl) ?_
        clear hx5 h
        rintro ⟨n5, s5⟩ h
        obtain ⟨n5, y5, rfl, h, hk5⟩ := iterB_eq h
        unfold m16_enc_Reader_Us1_s5 at h
        refine cseq ?_
        refine cregion ?_
        refine sv rfl (opv_lss rfl rfl) ?_
        refine snil ?_
        refine cseq ?_
        refine ccond rfl (fun hc => ?_) (fun hc => ?_)
        · replace h := ite_t hc h
          clear hc
          refine cskip ?_
          refine then_normal ?_
          refine cseq ?_
          refine cblock ?_
          refine cseq ?_
          refine cregion ?_
          refine sv rfl (opv_mv rfl) ?_
          obtain ⟨u6, hu6, h⟩ := bind_eq h
          refine sv rfl (opv_ix (f := eU8) si22 (fun _ => rfl) rfl rfl rfl rfl hu6) ?_
          refine sv rfl (opv_load1 ti5 rfl (.cp _) rfl) ?_
          refine sv rfl (opv_as rfl) ?_
          refine sv rfl (opv_as rfl) ?_
          refine snil ?_
          refine cregion ?_
          refine sv rfl (opv_mv rfl) ?_
          refine sv rfl (opv_mv rfl) ?_
          refine sv rfl (opv_conv_bv (k := .u8) (a := u6.toBitVec) rfl Try.underlying5 Try.underlying23 rfl rfl) ?_
          refine sv rfl (opv_mv rfl) ?_
          refine sv rfl (opv_mul rfl rfl) ?_
          obtain ⟨hz7, h⟩ := chk_eq h
          refine sv rfl (opv_shl_u64 (a := (u6.toBitVec.setWidth 64)) rfl rfl rfl hz7) ?_
          refine sv rfl (opv_or_u64 (a := s5.1) (b := ((u6.toBitVec.setWidth 64) <<< (wI (8 * s5.2)).toNat)) rfl rfl rfl rfl) ?_
          refine sv rfl (opv_as rfl) ?_
          refine snil0 ?_
          refine block_normal ?_
          refine then_normal ?_
          refine cregion ?_
          refine sv rfl (opv_add rfl rfl) ?_
          refine sv rfl (opv_mv rfl) ?_
          refine snil ?_
          obtain rfl := Option.some.inj h
          exact ⟨(n5, ((s5.1 ||| ((u6.toBitVec.setWidth 64) <<< (wI (8 * s5.2)).toNat)), (wI (s5.2 + 1)))), _, hk5, ⟨rfl, rfl, rfl, rfl, trivial⟩, rfl, Nat.lt_succ_self _⟩
        · replace h := ite_f hc h
          clear hc
          refine cexit ?_
          refine then_exit ?_
          refine then_exit ?_
          refine block_hit ?_
          refine then_normal ?_
          obtain rfl := Option.some.inj h
          obtain rfl : _ = x5 := hk5
          exact ⟨s5.1, _, ho5, ⟨rfl, trivial⟩, rfl⟩
    · skip
      refine cregion ?_
      refine sv rfl (opv_mv rfl) ?_
      refine sv rfl (opv_lss rfl rfl) ?_
      refine sv rfl (opv_mv rfl) ?_
      refine ssplit 13 rfl (fun hc => ?_) (fun hc => ?_)
      · replace h := ite_t hc h
        clear hc
        refine soff rfl rfl rfl rfl ?_
        refine soff rfl rfl rfl rfl ?_
        refine sv rfl (opv_pick_t rfl rfl) ?_
        refine snil ?_
        refine ccond rfl (fun _ => ?_) (fun hx => Bool.noConfusion hx)
        refine cseq ?_
        refine cregion ?_
        refine sv rfl (opv_mv rfl) ?_
        obtain ⟨v9, hv9, h⟩ := bind_eq h
        refine sd rfl (opD_callC fn22 (.func _) (opnds_cons rfl (opnds_cons rfl opnds_nil)) rfl (m22_enc_Reader_Fails1_c hv9)) ?_
        refine snil ?_
        refine cseq ?_
        refine cregion ?_
        refine sv rfl (opv_as rfl) ?_
        refine snil ?_
        refine cret ?_
        refine then_ret ?_
        obtain rfl := Option.some.inj h
        refine ⟨Or.inr rfl, _, _, _, (resVs_cons (ResV.tmp _ _ rfl) resVs_nil), (pubA_id rfl), ?_⟩
        rfl
      · replace h := ite_f hc h
        clear hc
        refine son rfl rfl rfl ?_
        refine sv rfl (opv_mv rfl) ?_
        refine son rfl rfl rfl ?_
        refine sv rfl (opv_gtr rfl rfl) ?_
        refine sv rfl (opv_pick_f rfl rfl) ?_
        refine snil ?_
        refine ccond rfl (fun hc => ?_) (fun hc => ?_)
        · replace h := ite_t hc h
          clear hc
          refine cseq ?_
          refine cregion ?_
          refine sv rfl (opv_mv rfl) ?_
          obtain ⟨v10, hv10, h⟩ := bind_eq h
          refine sd rfl (opD_callC fn22 (.func _) (opnds_cons rfl (opnds_cons rfl opnds_nil)) rfl (m22_enc_Reader_Fails1_c hv10)) ?_
          refine snil ?_
          refine cseq ?_
          refine cregion ?_
          refine sv rfl (opv_as rfl) ?_
          refine snil ?_
          refine cret ?_
          refine then_ret ?_
          obtain rfl := Option.some.inj h
          refine ⟨Or.inr rfl, _, _, _, (resVs_cons (ResV.tmp _ _ rfl) resVs_nil), (pubA_id rfl), ?_⟩
          rfl
        · replace h := ite_f hc h
          clear hc
          refine cskip ?_
          refine then_normal ?_
          exact ⟨(), _, h, ⟨rfl, rfl, trivial⟩, rfl⟩

def m18_enc_Reader_Lists1 (a0 : Int) : Option (List UInt8) :=
  (m16_enc_Reader_Us1 2).bind fun v1 => (m24_enc_Reader_Errs1).bind fun v2 => if (!decide (v2 = 0)) then (some ([] : List UInt8)) else (if (decide (a0 < (wI (v1.toNat : Int)))) then ((m22_enc_Reader_Fails1 5).bind fun v3 => some ([] : List UInt8)) else ((m31_enc_Reader_takes1 (wI (v1.toNat : Int))).bind fun v4 => (m33_slices_Cloneo v4).bind fun v5 => some v5))

set_option maxRecDepth 100000 in
theorem m18_enc_Reader_Lists1_c {a0 : Int} {r : (List UInt8)} (h : m18_enc_Reader_Lists1 a0 = some r) : CallsA Try.prog 18 [.one (.raw (.pointer none)), .one (.i .i64 a0)] (· = .s (.one (.sl r.length (r.flatMap eU8)))) := by
  unfold m18_enc_Reader_Lists1 at h
  refine callsA_of Try.func18 rfl (nt := 21) rfl (Nat.le_of_ble_eq_true rfl) ?_
  intro w0 S0
  refine cseq ?_
  refine cregion ?_
  refine sv rfl (opv_as rfl) ?_
  refine snil ?_
  refine cseq ?_
  refine cregion ?_
  refine sv rfl (opv_mv rfl) ?_
  obtain ⟨v1, hv1, h⟩ := bind_eq h
  refine sd rfl (opD_callC fn16 (.func _) (opnds_cons rfl (opnds_cons rfl opnds_nil)) rfl (m16_enc_Reader_Us1_c hv1)) ?_
  refine sv rfl (opv_conv_int Try.underlying23 Try.underlying3 rfl) ?_
  refine sv rfl (opv_as rfl) ?_
  refine snil ?_
  refine cseq ?_
  refine cseq ?_
  refine cregion ?_
  refine sv rfl (opv_mv rfl) ?_
  obtain ⟨v2, hv2, h⟩ := bind_eq h
  refine sd rfl (opD_callC fn24 (.func _) (opnds_cons rfl opnds_nil) rfl (m24_enc_Reader_Errs1_c hv2)) ?_
  refine sv rfl (opv_ineq rfl rfl) ?_
  refine snil ?_
  refine ccond rfl (fun hc => ?_) (fun hc => ?_)
  · replace h := ite_t hc h
    clear hc
    refine cseq ?_
    refine cregion ?_
    refine sv rfl (opv_as rfl) ?_
    refine snil ?_
    refine cret ?_
    refine then_ret ?_
    obtain rfl := Option.some.inj h
    refine ⟨Or.inr rfl, _, _, _, (resVs_cons (ResV.tmp _ _ rfl) resVs_nil), (pubC rfl), ?_⟩
    rfl
  · replace h := ite_f hc h
    clear hc
    refine cskip ?_
    refine then_normal ?_
    refine cseq ?_
    refine cseq ?_
    refine cregion ?_
    refine sv rfl (opv_mv rfl) ?_
    refine sv rfl (opv_mv rfl) ?_
    refine sv rfl (opv_gtr rfl rfl) ?_
    refine snil ?_
    refine ccond rfl (fun hc => ?_) (fun hc => ?_)
    · replace h := ite_t hc h
      clear hc
      refine cseq ?_
      refine cregion ?_
      refine sv rfl (opv_mv rfl) ?_
      obtain ⟨v3, hv3, h⟩ := bind_eq h
      refine sd rfl (opD_callC fn22 (.func _) (opnds_cons rfl (opnds_cons rfl opnds_nil)) rfl (m22_enc_Reader_Fails1_c hv3)) ?_
      refine snil ?_
      refine cseq ?_
      refine cregion ?_
      refine sv rfl (opv_as rfl) ?_
      refine snil ?_
      refine cret ?_
      refine then_ret ?_
      obtain rfl := Option.some.inj h
      refine ⟨Or.inr rfl, _, _, _, (resVs_cons (ResV.tmp _ _ rfl) resVs_nil), (pubC rfl), ?_⟩
      rfl
    · replace h := ite_f hc h
      clear hc
      refine cskip ?_
      refine then_normal ?_
      refine cseq ?_
      refine cregion ?_
      refine sv rfl (opv_mv rfl) ?_
      refine sv rfl (opv_mv rfl) ?_
      obtain ⟨v4, hv4, h⟩ := bind_eq h
      refine sd rfl (opD_callC fn31 (.func _) (opnds_cons rfl (opnds_cons rfl opnds_nil)) rfl (m31_enc_Reader_takes1_c hv4)) ?_
      obtain ⟨v5, hv5, h⟩ := bind_eq h
      refine scallB (x' := .s (.one (.ls 0 v5.length))) (M' := [.arr 5 1 0 (v5.flatMap eU8)]) [] rfl fn33 (.func _) (opnds_cons rfl opnds_nil) (m33_slices_Cloneo_c hv5) rfl rfl (by decide) rfl rfl rfl ?_
      refine sv rfl (opv_as rfl) ?_
      refine snil ?_
      refine cret ?_
      obtain rfl := Option.some.inj h
      refine ⟨Or.inr rfl, _, _, _, (resVs_cons (ResV.tmp _ _ rfl) resVs_nil), (by (repeat' first | exact PubA.nil _ | apply PubA.cons | apply PubV.one | apply PubV.agg | exact PubL.nil | exact PubL.ls _ _ _ _ _ _ rfl (flat_len (f := eU8) (fun _ => rfl) _).symm | exact PubL.id _ rfl | exact PubLs.nil _ | apply PubLs.cons)), ?_⟩
      rfl

def m20_enc_Reader_Flags1_k2 (v1 : (BitVec 64)) (b2 : Unit) : Option Bool :=
  some (decide ((v1.toNat : Int) = (1 : Int)))
def m20_enc_Reader_Flags1  : Option Bool :=
  (m16_enc_Reader_Us1 1).bind fun v1 => if (decide ((1 : Int) < (v1.toNat : Int))) then ((m22_enc_Reader_Fails1 3).bind fun v3 => m20_enc_Reader_Flags1_k2 v1 ()) else (m20_enc_Reader_Flags1_k2 v1 ())

set_option maxRecDepth 100000 in
theorem m20_enc_Reader_Flags1_c  {r : Bool} (h : m20_enc_Reader_Flags1 = some r) : CallsA Try.prog 20 [.one (.raw (.pointer none))] (· = .s (.one (.b r))) := by
  unfold m20_enc_Reader_Flags1 at h
  refine callsA_of Try.func20 rfl (nt := 12) rfl (Nat.le_of_ble_eq_true rfl) ?_
  intro w0 S0
  refine cseq ?_
  refine cregion ?_
  refine sv rfl (opv_as rfl) ?_
  refine snil ?_
  refine cseq ?_
  refine cregion ?_
  refine sv rfl (opv_mv rfl) ?_
  obtain ⟨v1, hv1, h⟩ := bind_eq h
  refine sd rfl (opD_callC fn16 (.func _) (opnds_cons rfl (opnds_cons rfl opnds_nil)) rfl (m16_enc_Reader_Us1_c hv1)) ?_
  refine sv rfl (opv_as rfl) ?_
  refine snil ?_
  refine cseq ?_
  refine cseq ?_
  refine cregion ?_
  refine sv rfl (opv_mv rfl) ?_
  refine sv rfl (opv_gtr rfl rfl) ?_
  refine snil ?_
  refine cjoin (Unit) (fun b2 => [(3, .s (.one (.i .u64 (v1.toNat : Int))))]) (fun b2 => []) (fun b2 => m20_enc_Reader_Flags1_k2 v1 b2 = some r) (fun _ _ => inbL_of rfl) (fun _ _ => blkinb_of rfl) (fun _ _ => Nat.le_of_ble_eq_true rfl) (fun b2 h => ?_) ?_
  · unfold m20_enc_Reader_Flags1_k2 at h
    refine cseq ?_
    refine cregion ?_
    refine sv rfl (opv_mv rfl) ?_
    refine sv rfl (opv_ieql rfl rfl) ?_
    refine sv rfl (opv_as rfl) ?_
    refine snil ?_
    refine cret ?_
    obtain rfl := Option.some.inj h
    refine ⟨Or.inr rfl, _, _, _, (resVs_cons (ResV.tmp _ _ rfl) resVs_nil), (pubA_id rfl), ?_⟩
    rfl
  · skip
    refine ccond rfl (fun hc => ?_) (fun hc => ?_)
    · replace h := ite_t hc h
      clear hc
      refine cregion ?_
      refine sv rfl (opv_mv rfl) ?_
      obtain ⟨v3, hv3, h⟩ := bind_eq h
      refine sd rfl (opD_callC fn22 (.func _) (opnds_cons rfl (opnds_cons rfl opnds_nil)) rfl (m22_enc_Reader_Fails1_c hv3)) ?_
      refine snil ?_
      exact ⟨(), _, h, ⟨rfl, trivial⟩, rfl⟩
    · replace h := ite_f hc h
      clear hc
      refine cskip ?_
      refine then_normal ?_
      exact ⟨(), _, h, ⟨rfl, trivial⟩, rfl⟩

def m26_enc_Reader_Ends1  : Option Int :=
  (m24_enc_Reader_Errs1).bind fun v1 => if (!decide (v1 = 0)) then (some v1) else ((m34_enc_Reader_places1).bind fun v2 => if (decide (0 < (v2.2.length : Int))) then (some 3) else (some 0))

set_option maxRecDepth 100000 in
theorem m26_enc_Reader_Ends1_c  {r : Int} (h : m26_enc_Reader_Ends1 = some r) : CallsA Try.prog 26 [.one (.raw (.pointer none))] (· = .s (.one (.i .i64 r))) := by
  unfold m26_enc_Reader_Ends1 at h
  refine callsA_of Try.func26 rfl (nt := 19) rfl (Nat.le_of_ble_eq_true rfl) ?_
  intro w0 S0
  refine cseq ?_
  refine cregion ?_
  refine sv rfl (opv_as rfl) ?_
  refine snil ?_
  refine cseq ?_
  refine cseq ?_
  refine cregion ?_
  refine sv rfl (opv_mv rfl) ?_
  obtain ⟨v1, hv1, h⟩ := bind_eq h
  refine sd rfl (opD_callC fn24 (.func _) (opnds_cons rfl opnds_nil) rfl (m24_enc_Reader_Errs1_c hv1)) ?_
  refine sv rfl (opv_as rfl) ?_
  refine snil ?_
  refine cseq ?_
  refine cregion ?_
  refine sv rfl (opv_mv rfl) ?_
  refine sv rfl (opv_ineq rfl rfl) ?_
  refine snil ?_
  refine ccond rfl (fun hc => ?_) (fun hc => ?_)
  · replace h := ite_t hc h
    clear hc
    refine cseq ?_
    refine cregion ?_
    refine sv rfl (opv_mv rfl) ?_
    refine sv rfl (opv_as rfl) ?_
    refine snil ?_
    refine cret ?_
    refine then_ret ?_
    obtain rfl := Option.some.inj h
    refine ⟨Or.inr rfl, _, _, _, (resVs_cons (ResV.tmp _ _ rfl) resVs_nil), (pubA_id rfl), ?_⟩
    rfl
  · replace h := ite_f hc h
    clear hc
    refine cskip ?_
    refine then_normal ?_
    refine cseq ?_
    refine cseq ?_
    refine cregion ?_
    refine sv rfl (opv_mv rfl) ?_
    obtain ⟨v2, hv2, h⟩ := bind_eq h
    refine sd rfl (opD_callC fn34 (.func _) (opnds_cons rfl opnds_nil) rfl (m34_enc_Reader_places1_c hv2)) ?_
    refine sv rfl (opv_mvt rfl) ?_
    refine sv rfl (opv_extract rfl rfl) ?_
    refine sv rfl (opv_extract rfl rfl) ?_
    refine sv rfl (opv_as rfl) ?_
    refine sv rfl (opv_as rfl) ?_
    refine snil ?_
    refine cseq ?_
    refine cregion ?_
    refine sv rfl (opv_mv rfl) ?_
    refine sv rfl (opv_len_sl si22 rfl) ?_
    refine sv rfl (opv_gtr rfl rfl) ?_
    refine snil ?_
    refine ccond rfl (fun hc => ?_) (fun hc => ?_)
    · replace h := ite_t hc h
      clear hc
      refine cseq ?_
      refine cregion ?_
      refine sv rfl (opv_as rfl) ?_
      refine snil ?_
      refine cret ?_
      refine then_ret ?_
      obtain rfl := Option.some.inj h
      refine ⟨Or.inr rfl, _, _, _, (resVs_cons (ResV.tmp _ _ rfl) resVs_nil), (pubA_id rfl), ?_⟩
      rfl
    · replace h := ite_f hc h
      clear hc
      refine cskip ?_
      refine then_normal ?_
      refine cseq ?_
      refine cregion ?_
      refine sv rfl (opv_as rfl) ?_
      refine snil ?_
      refine cret ?_
      obtain rfl := Option.some.inj h
      refine ⟨Or.inr rfl, _, _, _, (resVs_cons (ResV.tmp _ _ rfl) resVs_nil), (pubA_id rfl), ?_⟩
      rfl

def m25_enc_Reader_Ats1  : Option Int :=
  (m34_enc_Reader_places1).bind fun v1 => some v1.1

set_option maxRecDepth 100000 in
theorem m25_enc_Reader_Ats1_c  {r : Int} (h : m25_enc_Reader_Ats1 = some r) : CallsA Try.prog 25 [.one (.raw (.pointer none))] (· = .s (.one (.i .i64 r))) := by
  unfold m25_enc_Reader_Ats1 at h
  refine callsA_of Try.func25 rfl (nt := 11) rfl (Nat.le_of_ble_eq_true rfl) ?_
  intro w0 S0
  refine cseq ?_
  refine cregion ?_
  refine sv rfl (opv_as rfl) ?_
  refine snil ?_
  refine cseq ?_
  refine cregion ?_
  refine sv rfl (opv_mv rfl) ?_
  obtain ⟨v1, hv1, h⟩ := bind_eq h
  refine sd rfl (opD_callC fn34 (.func _) (opnds_cons rfl opnds_nil) rfl (m34_enc_Reader_places1_c hv1)) ?_
  refine sv rfl (opv_mvt rfl) ?_
  refine sv rfl (opv_extract rfl rfl) ?_
  refine sv rfl (opv_extract rfl rfl) ?_
  refine sv rfl (opv_as rfl) ?_
  refine sv rfl (opv_as rfl) ?_
  refine snil ?_
  refine cseq ?_
  refine cregion ?_
  refine sv rfl (opv_mv rfl) ?_
  refine sv rfl (opv_as rfl) ?_
  refine snil ?_
  refine cret ?_
  obtain rfl := Option.some.inj h
  refine ⟨Or.inr rfl, _, _, _, (resVs_cons (ResV.tmp _ _ rfl) resVs_nil), (pubA_id rfl), ?_⟩
  rfl

def m6_l01_EncStays_k9 (v1 : Bool) (b9 : Int × Int) : Option Bool :=
  some v1

def m6_l01_EncStays_s10 (a2 : List GL01Step) (v3 : Int × Int × (List UInt8)) (v5 : Int) (v6 : Int × Int) (s10 : Int × Int × Int) : Option (LR (Int × Int × Int) (Int × Int) (Bool)) :=
  if (decide (s10.1 < (a2.length : Int))) then ((idx a2 s10.1).bind fun u11 => (m28_l01_steps u11 s10.2.1 s10.2.2 v3.2.2).bind fun v12 => if v12.1 then (some (.ret false)) else ((m24_enc_Reader_Errs v12.2.1 v12.2.2 v3.2.2).bind fun v13 => if (!decide (v13 = v5)) then (some (.ret false)) else ((m25_enc_Reader_Ats v12.2.1 v12.2.2 v3.2.2).bind fun v14 => if (!decide (v14.1 = v6.1)) then (some (.ret false)) else ((m26_enc_Reader_Ends v12.2.1 v14.2 v3.2.2).bind fun v15 => if (!decide (v15.1 = v5)) then (some (.ret false)) else (some (.cont ((wI (s10.1 + 1)), v12.2.1, v15.2))))))) else (some (.brk (s10.2.1, s10.2.2)))

def m6_l01_EncStays_k8 (a2 : List GL01Step) (v1 : Bool) (v3 : Int × Int × (List UInt8)) (b4 : Int × Int) (v5 : Int) (v6 : Int × Int) (b8 : Unit) : Option Bool :=
  if (decide (v5 = 0)) then (some v1) else ((iter (m6_l01_EncStays_s10 a2 v3 v5 v6) fuel (0, b4.1, v6.2)).bind fun x => match x with | .inl r => some r | .inr e16 => m6_l01_EncStays_k9 v1 e16)

def m6_l01_EncStays_k4 (a2 : List GL01Step) (v1 : Bool) (v3 : Int × Int × (List UInt8)) (b4 : Int × Int) : Option Bool :=
  (m24_enc_Reader_Errs b4.1 b4.2 v3.2.2).bind fun v5 => (m25_enc_Reader_Ats b4.1 b4.2 v3.2.2).bind fun v6 => (m22_enc_Reader_Fails1 3).bind fun v7 => (m16_enc_Reader_Us1 1).bind fun v17 => if (!decide ((v17.toNat : Int) = (0 : Int))) then (some false) else ((m18_enc_Reader_Lists1 5).bind fun v18 => if (!decide ((v18.length : Int) = 0)) then (some false) else ((m20_enc_Reader_Flags1).bind fun v19 => if v19 then (some false) else ((m24_enc_Reader_Errs1).bind fun v20 => if (!decide (v20 = 1)) then (some false) else ((m26_enc_Reader_Ends1).bind fun v21 => if (!decide (v21 = 1)) then (some false) else ((m25_enc_Reader_Ats1).bind fun v22 => if (!decide (v22 = 0)) then (some false) else (m6_l01_EncStays_k8 a2 v1 v3 b4 v5 v6 ()))))))

def m6_l01_EncStays_s23 (a1 : List GL01Step) (v3 : Int × Int × (List UInt8)) (s23 : Int × Int × Int) : Option (LB (Int × Int × Int) (Int × Int)) :=
  if (decide (s23.1 < (a1.length : Int))) then ((idx a1 s23.1).bind fun u24 => (m28_l01_steps u24 s23.2.1 s23.2.2 v3.2.2).bind fun v25 => some (.cont ((wI (s23.1 + 1)), v25.2.1, v25.2.2))) else (some (.brk (s23.2.1, s23.2.2)))

def m6_l01_EncStays_k2 (a0 : List UInt8) (a1 : List GL01Step) (a2 : List GL01Step) (v1 : Bool) (b2 : Unit) : Option Bool :=
  (m14_enc_News a0).bind fun v3 => (iterB (m6_l01_EncStays_s23 a1 v3) fuel (0, v3.1, v3.2.1)).bind fun e26 => m6_l01_EncStays_k4 a2 v1 v3 e26
def m6_l01_EncStays (a0 : List UInt8) (a1 : List GL01Step) (a2 : List GL01Step) : Option Bool :=
  (m9_l01_awake).bind fun v1 => if (decide (500 < (a0.length : Int))) then (some v1) else (if (decide (50 < (a1.length : Int))) then (some v1) else (if (decide (50 < (a2.length : Int))) then (some v1) else (m6_l01_EncStays_k2 a0 a1 a2 v1 ())))

set_option maxRecDepth 100000 in
theorem m6_l01_EncStays_c {a0 : List UInt8} {a1 : List GL01Step} {a2 : List GL01Step} {r : Bool} (h : m6_l01_EncStays a0 a1 a2 = some r) : CallsA Try.prog 6 [.one (.sl a0.length (a0.flatMap eU8)), .one (.sl a1.length (a1.flatMap eGL01Step)), .one (.sl a2.length (a2.flatMap eGL01Step))] (· = .s (.one (.b r))) := by
  unfold m6_l01_EncStays at h
  refine callsA_of Try.func6 rfl (nt := 111) rfl (Nat.le_of_ble_eq_true rfl) ?_
  intro w0 S0
  refine cseq ?_
  refine cregion ?_
  refine sv rfl (opv_as rfl) ?_
  refine snil ?_
  refine cseq ?_
  refine cregion ?_
  obtain ⟨v1, hv1, h⟩ := bind_eq h
  refine scall1 rfl fn9 opnds_nil (pubA_id rfl) (m9_l01_awake_c hv1) ?_
  refine sv rfl (opv_as rfl) ?_
  refine snil ?_
  refine cseq ?_
  refine cseq ?_
  refine cjoin3 (Unit) (fun b2 => [(0, .s (.one (.sl a0.length (a0.flatMap eU8)))), (1, .s (.one (.sl a1.length (a1.flatMap eGL01Step)))), (2, .s (.one (.sl a2.length (a2.flatMap eGL01Step)))), (7, .s (.one (.b v1)))]) (fun b2 => []) (fun b2 => m6_l01_EncStays_k2 a0 a1 a2 v1 b2 = some r) (fun _ _ => inbL_of rfl) (fun _ _ => blkinb_of rfl) (fun _ _ => Nat.le_of_ble_eq_true rfl) (fun b2 h => ?_) ?_
  · unfold m6_l01_EncStays_k2 at h
    refine cseq ?_
    refine cregion ?_
    refine sv rfl (opv_mv rfl) ?_
    obtain ⟨v3, hv3, h⟩ := bind_eq h
    refine scallB (x' := .s (.one (.lp 0 0))) (M' := [.box [.fn 30 [] [.lp 1 0, .lp 2 0], .i .i64 v3.1], .box [.i .i64 v3.2.1], .box [.sl v3.2.2.length (v3.2.2.flatMap eU8)]]) [] rfl fn14 (.func _) (opnds_cons rfl opnds_nil) (m14_enc_News_c hv3) rfl rfl (by decide) rfl rfl rfl ?_
    refine sv rfl (opv_as rfl) ?_
    refine snil ?_
    refine cseq ?_
    refine cseq ?_
    refine cregion ?_
    refine sv rfl (opv_as rfl) ?_
    refine snil ?_
    refine cjoin (Int × Int) (fun b4 => [(2, .s (.one (.sl a2.length (a2.flatMap eGL01Step)))), (7, .s (.one (.b v1))), (8, .s (.one (.lp 0 0)))]) (fun b4 => [.box [.fn 30 [] [.lp 1 0, .lp 2 0], .i .i64 b4.1], .box [.i .i64 b4.2], .box [.sl v3.2.2.length (v3.2.2.flatMap eU8)]]) (fun b4 => m6_l01_EncStays_k4 a2 v1 v3 b4 = some r) (fun _ _ => inbL_of rfl) (fun _ _ => blkinb_of rfl) (fun _ _ => Nat.le_of_ble_eq_true rfl) (fun b4 h => ?_) ?_
    · unfold m6_l01_EncStays_k4 at h
      refine cseq ?_
      refine cregion ?_
      refine sv rfl (opv_mv rfl) ?_
      obtain ⟨v5, hv5, h⟩ := bind_eq h
      refine scallB (x' := .s (.one (.i .i64 v5))) (M' := [.box [.fn 30 [] [.lp 1 0, .lp 2 0], .i .i64 b4.1], .box [.i .i64 b4.2], .box [.sl v3.2.2.length (v3.2.2.flatMap eU8)]]) [0, 1, 2] rfl fn24 (.func _) (opnds_cons rfl opnds_nil) (m24_enc_Reader_Errs_c hv5) rfl rfl (by decide) rfl rfl rfl ?_
      refine sv rfl (opv_as rfl) ?_
      refine snil ?_
      refine cseq ?_
      refine cregion ?_
      refine sv rfl (opv_mv rfl) ?_
      obtain ⟨v6, hv6, h⟩ := bind_eq h
      refine scallB (x' := .s (.one (.i .i64 v6.1))) (M' := [.box [.fn 30 [] [.lp 1 0, .lp 2 0], .i .i64 b4.1], .box [.i .i64 v6.2], .box [.sl v3.2.2.length (v3.2.2.flatMap eU8)]]) [0, 1, 2] rfl fn25 (.func _) (opnds_cons rfl opnds_nil) (m25_enc_Reader_Ats_c hv6) rfl rfl (by decide) rfl rfl rfl ?_
      refine sv rfl (opv_as rfl) ?_
      refine snil ?_
      refine cseq ?_
      refine cregion ?_
      refine sv rfl (opv_as rfl) ?_
      refine snil ?_
      refine cseq ?_
      refine cregion ?_
      refine sv rfl (opv_mv rfl) ?_
      obtain ⟨v7, hv7, h⟩ := bind_eq h
      refine sd rfl (opD_callC fn22 (.func _) (opnds_cons rfl (opnds_cons rfl opnds_nil)) rfl (m22_enc_Reader_Fails1_c hv7)) ?_
      refine snil ?_
      refine cseq ?_
      refine cseq ?_
      refine cjoin3 (Unit) (fun b8 => [(2, .s (.one (.sl a2.length (a2.flatMap eGL01Step)))), (7, .s (.one (.b v1))), (8, .s (.one (.lp 0 0))), (10, .s (.one (.i .i64 v5))), (11, .s (.one (.i .i64 v6.1)))]) (fun b8 => [.box [.fn 30 [] [.lp 1 0, .lp 2 0], .i .i64 b4.1], .box [.i .i64 v6.2], .box [.sl v3.2.2.length (v3.2.2.flatMap eU8)]]) (fun b8 => m6_l01_EncStays_k8 a2 v1 v3 b4 v5 v6 b8 = some r) (fun _ _ => inbL_of rfl) (fun _ _ => blkinb_of rfl) (fun _ _ => Nat.le_of_ble_eq_true rfl) (fun b8 h => ?_) ?_
      · unfold m6_l01_EncStays_k8 at h
        refine cseq ?_
        refine cseq ?_
        refine cregion ?_
        refine sv rfl (opv_mv rfl) ?_
        refine sv rfl (opv_ieql rfl rfl) ?_
        refine snil ?_
        refine ccond rfl (fun hc => ?_) (fun hc => ?_)
        · replace h := ite_t hc h
          clear hc
          refine cseq ?_
          refine cregion ?_
          refine sv rfl (opv_mv rfl) ?_
          refine sv rfl (opv_as rfl) ?_
          refine snil ?_
          refine cret ?_
          refine then_ret ?_
          obtain rfl := Option.some.inj h
          refine ⟨Or.inr rfl, _, _, _, (resVs_cons (ResV.tmp _ _ rfl) resVs_nil), (pubA_id rfl), ?_⟩
          rfl
        · replace h := ite_f hc h
          clear hc
          refine cskip ?_
          refine then_normal ?_
          refine cseq ?_
          refine cseq ?_
          refine cregion ?_
          refine sv rfl (opv_as rfl) ?_
          refine snil ?_
          refine cjoin (Int × Int) (fun b9 => [(7, .s (.one (.b v1)))]) (fun b9 => [.box [.fn 30 [] [.lp 1 0, .lp 2 0], .i .i64 b9.1], .box [.i .i64 b9.2], .box [.sl v3.2.2.length (v3.2.2.flatMap eU8)]]) (fun b9 => m6_l01_EncStays_k9 v1 b9 = some r) (fun _ _ => inbL_of rfl) (fun _ _ => blkinb_of rfl) (fun _ _ => Nat.le_of_ble_eq_true rfl) (fun b9 h => ?_) ?_
          · unfold m6_l01_EncStays_k9 at h
            refine cseq ?_
            refine cregion ?_
            refine sv rfl (opv_mv rfl) ?_
            refine sv rfl (opv_as rfl) ?_
            refine snil ?_
            refine cret ?_
            obtain rfl := Option.some.inj h
            refine ⟨Or.inr rfl, _, _, _, (resVs_cons (ResV.tmp _ _ rfl) resVs_nil), (pubA_id rfl), ?_⟩
            rfl
          · skip
            refine cblock ?_
            obtain ⟨x10, hx10, ho10⟩ := bind_eq h
            refine awc_loop (G := Nat × (Int × Int × Int)) (fun g => [(2, .s (.one (.sl a2.length (a2.flatMap eGL01Step)))), (7, .s (.one (.b v1))), (8, .s (.one (.lp 0 0))), (10, .s (.one (.i .i64 v5))), (11, .s (.one (.i .i64 v6.1))), (13, .s (.one (.i .i64 g.2.1)))]) (fun g => [.box [.fn 30 [] [.lp 1 0, .lp 2 0], .i .i64 g.2.2.1], .box [.i .i64 g.2.2.2], .box [.sl v3.2.2.length (v3.2.2.flatMap eU8)]]) (fun g => iter (m6_l01_EncStays_s10 a2 v3 v5 v6) g.1 g.2 = some x10) (fun g => g.1) (fuel, (0, b4.1, v6.2)) hx10 ⟨rfl, rfl, rfl, rfl, rfl, rfl, trivial⟩ [] rfl (fun _ _ => inbL_of rfl) (fun _ _ => blkinb_of rfl) (fun _ _ => Nat.le_of_ble_eq_true rfl) ?_
            clear hx10 h
            rintro ⟨n10, s10⟩ h
            obtain ⟨n10, y10, rfl, h, hk10⟩ := iter_eq h
            unfold m6_l01_EncStays_s10 at h
            refine cseq ?_
            refine cseq ?_
            refine cregion ?_
            refine sv rfl (opv_mv rfl) ?_
            refine sv rfl (opv_mv rfl) ?_
            refine sv rfl (opv_len_sl si28 rfl) ?_
            refine sv rfl (opv_lss rfl rfl) ?_
            refine snil ?_
            refine ccond rfl (fun hc => ?_) (fun hc => ?_)
            · replace h := ite_t hc h
              clear hc
              refine cskip ?_
              refine then_normal ?_
              refine cseq ?_
              refine cblock ?_
              refine cseq ?_
              refine cregion ?_
              refine sv rfl (opv_mv rfl) ?_
              refine sv rfl (opv_mv rfl) ?_
              refine sv rfl (opv_mv rfl) ?_
              obtain ⟨u11, hu11, h⟩ := bind_eq h
              refine sv rfl (opv_ix (f := eGL01Step) si28 (fun _ => rfl) rfl rfl rfl rfl hu11) ?_
              refine sv rfl (opv_loadNe (ys := [.i .i64 u11.What, .i .i64 u11.N]) ti34 rfl (.cp _) rfl rfl) ?_
              obtain ⟨v12, hv12, h⟩ := bind_eq h
              refine scallB (x' := .s (.one (.b v12.1))) (M' := [.box [.fn 30 [] [.lp 1 0, .lp 2 0], .i .i64 v12.2.1], .box [.i .i64 v12.2.2], .box [.sl v3.2.2.length (v3.2.2.flatMap eU8)]]) [0, 1, 2] rfl fn28 (.func _) (opnds_cons rfl (opnds_cons rfl opnds_nil)) (m28_l01_steps_c hv12) rfl rfl (by decide) rfl rfl rfl ?_
              refine sv rfl (opv_mv rfl) ?_
              refine ssplit 92 rfl (fun hc => ?_) (fun hc => ?_)
              · replace h := ite_t hc h
                clear hc
                refine soff rfl rfl rfl rfl ?_
                refine soff rfl rfl rfl rfl ?_
                refine soff rfl rfl rfl rfl ?_
                refine soff rfl rfl rfl rfl ?_
                refine sv rfl (opv_pick_t rfl rfl) ?_
                refine sv rfl (opv_mv rfl) ?_
                refine soff rfl rfl rfl rfl ?_
                refine soff rfl rfl rfl rfl ?_
                refine soff rfl rfl rfl rfl ?_
                refine soff rfl rfl rfl rfl ?_
                refine sv rfl (opv_pick_t rfl rfl) ?_
                refine sv rfl (opv_mv rfl) ?_
                refine soff rfl rfl rfl rfl ?_
                refine soff rfl rfl rfl rfl ?_
                refine soff rfl rfl rfl rfl ?_
                refine soff rfl rfl rfl rfl ?_
                refine sv rfl (opv_pick_t rfl rfl) ?_
                refine snil ?_
                refine ccond rfl (fun _ => ?_) (fun hx => Bool.noConfusion hx)
                refine cseq ?_
                refine cregion ?_
                refine sv rfl (opv_as rfl) ?_
                refine snil ?_
                refine cret ?_
                refine block_ret ?_
                refine then_ret ?_
                refine then_ret ?_
                refine block_ret ?_
                refine then_ret ?_
                obtain rfl := Option.some.inj h
                obtain rfl : Sum.inl _ = x10 := hk10
                replace ho10 : some _ = some _ := ho10
                obtain rfl := Option.some.inj ho10
                refine ⟨Or.inr rfl, _, _, _, (resVs_cons (ResV.tmp _ _ rfl) resVs_nil), (pubA_id rfl), ?_⟩
                rfl
              · replace h := ite_f hc h
                clear hc
                refine son rfl rfl rfl ?_
                refine sv rfl (opv_mv rfl) ?_
                refine son rfl rfl rfl ?_
                obtain ⟨v13, hv13, h⟩ := bind_eq h
                refine scallB (x' := .s (.one (.i .i64 v13))) (M' := [.box [.fn 30 [] [.lp 1 0, .lp 2 0], .i .i64 v12.2.1], .box [.i .i64 v12.2.2], .box [.sl v3.2.2.length (v3.2.2.flatMap eU8)]]) [0, 1, 2] rfl fn24 (.func _) (opnds_cons rfl opnds_nil) (m24_enc_Reader_Errs_c hv13) rfl rfl (by decide) rfl rfl rfl ?_
                refine son rfl rfl rfl ?_
                refine sv rfl (opv_mv rfl) ?_
                refine son rfl rfl rfl ?_
                refine sv rfl (opv_ineq rfl rfl) ?_
                refine sv rfl (opv_pick_f rfl rfl) ?_
                refine sv rfl (opv_mv rfl) ?_
                refine ssplit 98 rfl (fun hc => ?_) (fun hc => ?_)
                · replace h := ite_t hc h
                  clear hc
                  refine soff rfl rfl rfl rfl ?_
                  refine soff rfl rfl rfl rfl ?_
                  refine soff rfl rfl rfl rfl ?_
                  refine soff rfl rfl rfl rfl ?_
                  refine sv rfl (opv_pick_t rfl rfl) ?_
                  refine sv rfl (opv_mv rfl) ?_
                  refine soff rfl rfl rfl rfl ?_
                  refine soff rfl rfl rfl rfl ?_
                  refine soff rfl rfl rfl rfl ?_
                  refine soff rfl rfl rfl rfl ?_
                  refine sv rfl (opv_pick_t rfl rfl) ?_
                  refine snil ?_
                  refine ccond rfl (fun _ => ?_) (fun hx => Bool.noConfusion hx)
                  refine cseq ?_
                  refine cregion ?_
                  refine sv rfl (opv_as rfl) ?_
                  refine snil ?_
                  refine cret ?_
                  refine block_ret ?_
                  refine then_ret ?_
                  refine then_ret ?_
                  refine block_ret ?_
                  refine then_ret ?_
                  obtain rfl := Option.some.inj h
                  obtain rfl : Sum.inl _ = x10 := hk10
                  replace ho10 : some _ = some _ := ho10
                  obtain rfl := Option.some.inj ho10
                  refine ⟨Or.inr rfl, _, _, _, (resVs_cons (ResV.tmp _ _ rfl) resVs_nil), (pubA_id rfl), ?_⟩
                  rfl
                · replace h := ite_f hc h
                  clear hc
                  refine son rfl rfl rfl ?_
                  refine sv rfl (opv_mv rfl) ?_
                  refine son rfl rfl rfl ?_
                  obtain ⟨v14, hv14, h⟩ := bind_eq h
                  refine scallB (x' := .s (.one (.i .i64 v14.1))) (M' := [.box [.fn 30 [] [.lp 1 0, .lp 2 0], .i .i64 v12.2.1], .box [.i .i64 v14.2], .box [.sl v3.2.2.length (v3.2.2.flatMap eU8)]]) [0, 1, 2] rfl fn25 (.func _) (opnds_cons rfl opnds_nil) (m25_enc_Reader_Ats_c hv14) rfl rfl (by decide) rfl rfl rfl ?_
                  refine son rfl rfl rfl ?_
                  refine sv rfl (opv_mv rfl) ?_
                  refine son rfl rfl rfl ?_
                  refine sv rfl (opv_ineq rfl rfl) ?_
                  refine sv rfl (opv_pick_f rfl rfl) ?_
                  refine sv rfl (opv_mv rfl) ?_
                  refine ssplit 104 rfl (fun hc => ?_) (fun hc => ?_)
                  · replace h := ite_t hc h
                    clear hc
                    refine soff rfl rfl rfl rfl ?_
                    refine soff rfl rfl rfl rfl ?_
                    refine soff rfl rfl rfl rfl ?_
                    refine soff rfl rfl rfl rfl ?_
                    refine sv rfl (opv_pick_t rfl rfl) ?_
                    refine snil ?_
                    refine ccond rfl (fun _ => ?_) (fun hx => Bool.noConfusion hx)
                    refine cseq ?_
                    refine cregion ?_
                    refine sv rfl (opv_as rfl) ?_
                    refine snil ?_
                    refine cret ?_
                    refine block_ret ?_
                    refine then_ret ?_
                    refine then_ret ?_
                    refine block_ret ?_
                    refine then_ret ?_
                    obtain rfl := Option.some.inj h
                    obtain rfl : Sum.inl _ = x10 := hk10
                    replace ho10 : some _ = some _ := ho10
                    obtain rfl := Option.some.inj ho10
                    refine ⟨Or.inr rfl, _, _, _, (resVs_cons (ResV.tmp _ _ rfl) resVs_nil), (pubA_id rfl), ?_⟩
                    rfl
                  · replace h := ite_f hc h
                    clear hc
                    refine son rfl rfl rfl ?_
                    refine sv rfl (opv_mv rfl) ?_
                    refine son rfl rfl rfl ?_
                    obtain ⟨v15, hv15, h⟩ := bind_eq h
                    refine scallB (x' := .s (.one (.i .i64 v15.1))) (M' := [.box [.fn 30 [] [.lp 1 0, .lp 2 0], .i .i64 v12.2.1], .box [.i .i64 v15.2], .box [.sl v3.2.2.length (v3.2.2.flatMap eU8)]]) [0, 1, 2] rfl fn26 (.func _) (opnds_cons rfl opnds_nil) (m26_enc_Reader_Ends_c hv15) rfl rfl (by decide) rfl rfl rfl ?_
                    refine son rfl rfl rfl ?_
                    refine sv rfl (opv_mv rfl) ?_
                    refine son rfl rfl rfl ?_
                    refine sv rfl (opv_ineq rfl rfl) ?_
                    refine sv rfl (opv_pick_f rfl rfl) ?_
                    refine snil ?_
                    refine ccond rfl (fun hc => ?_) (fun hc => ?_)
                    · replace h := ite_t hc h
                      clear hc
                      refine cseq ?_
                      refine cregion ?_
                      refine sv rfl (opv_as rfl) ?_
                      refine snil ?_
                      refine cret ?_
                      refine block_ret ?_
                      refine then_ret ?_
                      refine then_ret ?_
                      refine block_ret ?_
                      refine then_ret ?_
                      obtain rfl := Option.some.inj h
                      obtain rfl : Sum.inl _ = x10 := hk10
                      replace ho10 : some _ = some _ := ho10
                      obtain rfl := Option.some.inj ho10
                      refine ⟨Or.inr rfl, _, _, _, (resVs_cons (ResV.tmp _ _ rfl) resVs_nil), (pubA_id rfl), ?_⟩
                      rfl
                    · replace h := ite_f hc h
                      clear hc
                      refine cskip ?_
                      refine block_normal ?_
                      refine then_normal ?_
                      refine cregion ?_
                      refine sv rfl (opv_mv rfl) ?_
                      refine sv rfl (opv_add rfl rfl) ?_
                      refine sv rfl (opv_as rfl) ?_
                      refine snil ?_
                      obtain rfl := Option.some.inj h
                      exact ⟨(n10, ((wI (s10.1 + 1)), v12.2.1, v15.2)), _, hk10, ⟨rfl, rfl, rfl, rfl, rfl, rfl, trivial⟩, rfl, Nat.lt_succ_self _⟩
            · replace h := ite_f hc h
              clear hc
              refine cexit ?_
              refine then_exit ?_
              refine then_exit ?_
              refine block_hit ?_
              refine then_normal ?_
              obtain rfl := Option.some.inj h
              obtain rfl : _ = x10 := hk10
              exact ⟨(s10.2.1, s10.2.2), _, ho10, ⟨rfl, trivial⟩, rfl⟩
      · skip
        refine cregion ?_
        refine sv rfl (opv_mv rfl) ?_
        obtain ⟨v17, hv17, h⟩ := bind_eq h
        refine sd rfl (opD_callC fn16 (.func _) (opnds_cons rfl (opnds_cons rfl opnds_nil)) rfl (m16_enc_Reader_Us1_c hv17)) ?_
        refine sv rfl (opv_ineq rfl rfl) ?_
        refine sv rfl (opv_mv rfl) ?_
        refine ssplit 52 rfl (fun hc => ?_) (fun hc => ?_)
        · replace h := ite_t hc h
          clear hc
          refine soff rfl rfl rfl rfl ?_
          refine soff rfl rfl rfl rfl ?_
          refine soff rfl rfl rfl rfl ?_
          refine soff rfl rfl rfl rfl ?_
          refine sv rfl (opv_pick_t rfl rfl) ?_
          refine sv rfl (opv_mv rfl) ?_
          refine soff rfl rfl rfl rfl ?_
          refine soff rfl rfl rfl rfl ?_
          refine sv rfl (opv_pick_t rfl rfl) ?_
          refine sv rfl (opv_mv rfl) ?_
          refine soff rfl rfl rfl rfl ?_
          refine soff rfl rfl rfl rfl ?_
          refine soff rfl rfl rfl rfl ?_
          refine sv rfl (opv_pick_t rfl rfl) ?_
          refine sv rfl (opv_mv rfl) ?_
          refine soff rfl rfl rfl rfl ?_
          refine soff rfl rfl rfl rfl ?_
          refine soff rfl rfl rfl rfl ?_
          refine sv rfl (opv_pick_t rfl rfl) ?_
          refine sv rfl (opv_mv rfl) ?_
          refine soff rfl rfl rfl rfl ?_
          refine soff rfl rfl rfl rfl ?_
          refine soff rfl rfl rfl rfl ?_
          refine sv rfl (opv_pick_t rfl rfl) ?_
          refine snil ?_
          refine ccond rfl (fun _ => ?_) (fun hx => Bool.noConfusion hx)
          refine cseq ?_
          refine cregion ?_
          refine sv rfl (opv_as rfl) ?_
          refine snil ?_
          refine cret ?_
          refine then_ret ?_
          obtain rfl := Option.some.inj h
          refine ⟨Or.inr rfl, _, _, _, (resVs_cons (ResV.tmp _ _ rfl) resVs_nil), (pubA_id rfl), ?_⟩
          rfl
        · replace h := ite_f hc h
          clear hc
          refine son rfl rfl rfl ?_
          refine sv rfl (opv_mv rfl) ?_
          refine son rfl rfl rfl ?_
          obtain ⟨v18, hv18, h⟩ := bind_eq h
          refine sd rfl (opD_callC fn18 (.func _) (opnds_cons rfl (opnds_cons rfl opnds_nil)) rfl (m18_enc_Reader_Lists1_c hv18)) ?_
          refine son rfl rfl rfl ?_
          refine sv rfl (opv_len_sl si22 rfl) ?_
          refine son rfl rfl rfl ?_
          refine sv rfl (opv_ineq rfl rfl) ?_
          refine sv rfl (opv_pick_f rfl rfl) ?_
          refine sv rfl (opv_mv rfl) ?_
          refine ssplit 58 rfl (fun hc => ?_) (fun hc => ?_)
          · replace h := ite_t hc h
            clear hc
            refine soff rfl rfl rfl rfl ?_
            refine soff rfl rfl rfl rfl ?_
            refine sv rfl (opv_pick_t rfl rfl) ?_
            refine sv rfl (opv_mv rfl) ?_
            refine soff rfl rfl rfl rfl ?_
            refine soff rfl rfl rfl rfl ?_
            refine soff rfl rfl rfl rfl ?_
            refine sv rfl (opv_pick_t rfl rfl) ?_
            refine sv rfl (opv_mv rfl) ?_
            refine soff rfl rfl rfl rfl ?_
            refine soff rfl rfl rfl rfl ?_
            refine soff rfl rfl rfl rfl ?_
            refine sv rfl (opv_pick_t rfl rfl) ?_
            refine sv rfl (opv_mv rfl) ?_
            refine soff rfl rfl rfl rfl ?_
            refine soff rfl rfl rfl rfl ?_
            refine soff rfl rfl rfl rfl ?_
            refine sv rfl (opv_pick_t rfl rfl) ?_
            refine snil ?_
            refine ccond rfl (fun _ => ?_) (fun hx => Bool.noConfusion hx)
            refine cseq ?_
            refine cregion ?_
            refine sv rfl (opv_as rfl) ?_
            refine snil ?_
            refine cret ?_
            refine then_ret ?_
            obtain rfl := Option.some.inj h
            refine ⟨Or.inr rfl, _, _, _, (resVs_cons (ResV.tmp _ _ rfl) resVs_nil), (pubA_id rfl), ?_⟩
            rfl
          · replace h := ite_f hc h
            clear hc
            refine son rfl rfl rfl ?_
            refine sv rfl (opv_mv rfl) ?_
            refine son rfl rfl rfl ?_
            obtain ⟨v19, hv19, h⟩ := bind_eq h
            refine sd rfl (opD_callC fn20 (.func _) (opnds_cons rfl opnds_nil) rfl (m20_enc_Reader_Flags1_c hv19)) ?_
            refine sv rfl (opv_pick_f rfl rfl) ?_
            refine sv rfl (opv_mv rfl) ?_
            refine ssplit 62 rfl (fun hc => ?_) (fun hc => ?_)
            · replace h := ite_t hc h
              clear hc
              refine soff rfl rfl rfl rfl ?_
              refine soff rfl rfl rfl rfl ?_
              refine soff rfl rfl rfl rfl ?_
              refine sv rfl (opv_pick_t rfl rfl) ?_
              refine sv rfl (opv_mv rfl) ?_
              refine soff rfl rfl rfl rfl ?_
              refine soff rfl rfl rfl rfl ?_
              refine soff rfl rfl rfl rfl ?_
              refine sv rfl (opv_pick_t rfl rfl) ?_
              refine sv rfl (opv_mv rfl) ?_
              refine soff rfl rfl rfl rfl ?_
              refine soff rfl rfl rfl rfl ?_
              refine soff rfl rfl rfl rfl ?_
              refine sv rfl (opv_pick_t rfl rfl) ?_
              refine snil ?_
              refine ccond rfl (fun _ => ?_) (fun hx => Bool.noConfusion hx)
              refine cseq ?_
              refine cregion ?_
              refine sv rfl (opv_as rfl) ?_
              refine snil ?_
              refine cret ?_
              refine then_ret ?_
              obtain rfl := Option.some.inj h
              refine ⟨Or.inr rfl, _, _, _, (resVs_cons (ResV.tmp _ _ rfl) resVs_nil), (pubA_id rfl), ?_⟩
              rfl
            · replace h := ite_f hc h
              clear hc
              refine son rfl rfl rfl ?_
              refine sv rfl (opv_mv rfl) ?_
              refine son rfl rfl rfl ?_
              obtain ⟨v20, hv20, h⟩ := bind_eq h
              refine sd rfl (opD_callC fn24 (.func _) (opnds_cons rfl opnds_nil) rfl (m24_enc_Reader_Errs1_c hv20)) ?_
              refine son rfl rfl rfl ?_
              refine sv rfl (opv_ineq rfl rfl) ?_
              refine sv rfl (opv_pick_f rfl rfl) ?_
              refine sv rfl (opv_mv rfl) ?_
              refine ssplit 67 rfl (fun hc => ?_) (fun hc => ?_)
              · replace h := ite_t hc h
                clear hc
                refine soff rfl rfl rfl rfl ?_
                refine soff rfl rfl rfl rfl ?_
                refine soff rfl rfl rfl rfl ?_
                refine sv rfl (opv_pick_t rfl rfl) ?_
                refine sv rfl (opv_mv rfl) ?_
                refine soff rfl rfl rfl rfl ?_
                refine soff rfl rfl rfl rfl ?_
                refine soff rfl rfl rfl rfl ?_
                refine sv rfl (opv_pick_t rfl rfl) ?_
                refine snil ?_
                refine ccond rfl (fun _ => ?_) (fun hx => Bool.noConfusion hx)
                refine cseq ?_
                refine cregion ?_
                refine sv rfl (opv_as rfl) ?_
                refine snil ?_
                refine cret ?_
                refine then_ret ?_
                obtain rfl := Option.some.inj h
                refine ⟨Or.inr rfl, _, _, _, (resVs_cons (ResV.tmp _ _ rfl) resVs_nil), (pubA_id rfl), ?_⟩
                rfl
              · replace h := ite_f hc h
                clear hc
                refine son rfl rfl rfl ?_
                refine sv rfl (opv_mv rfl) ?_
                refine son rfl rfl rfl ?_
                obtain ⟨v21, hv21, h⟩ := bind_eq h
                refine sd rfl (opD_callC fn26 (.func _) (opnds_cons rfl opnds_nil) rfl (m26_enc_Reader_Ends1_c hv21)) ?_
                refine son rfl rfl rfl ?_
                refine sv rfl (opv_ineq rfl rfl) ?_
                refine sv rfl (opv_pick_f rfl rfl) ?_
                refine sv rfl (opv_mv rfl) ?_
                refine ssplit 72 rfl (fun hc => ?_) (fun hc => ?_)
                · replace h := ite_t hc h
                  clear hc
                  refine soff rfl rfl rfl rfl ?_
                  refine soff rfl rfl rfl rfl ?_
                  refine soff rfl rfl rfl rfl ?_
                  refine sv rfl (opv_pick_t rfl rfl) ?_
                  refine snil ?_
                  refine ccond rfl (fun _ => ?_) (fun hx => Bool.noConfusion hx)
                  refine cseq ?_
                  refine cregion ?_
                  refine sv rfl (opv_as rfl) ?_
                  refine snil ?_
                  refine cret ?_
                  refine then_ret ?_
                  obtain rfl := Option.some.inj h
                  refine ⟨Or.inr rfl, _, _, _, (resVs_cons (ResV.tmp _ _ rfl) resVs_nil), (pubA_id rfl), ?_⟩
                  rfl
                · replace h := ite_f hc h
                  clear hc
                  refine son rfl rfl rfl ?_
                  refine sv rfl (opv_mv rfl) ?_
                  refine son rfl rfl rfl ?_
                  obtain ⟨v22, hv22, h⟩ := bind_eq h
                  refine sd rfl (opD_callC fn25 (.func _) (opnds_cons rfl opnds_nil) rfl (m25_enc_Reader_Ats1_c hv22)) ?_
                  refine son rfl rfl rfl ?_
                  refine sv rfl (opv_ineq rfl rfl) ?_
                  refine sv rfl (opv_pick_f rfl rfl) ?_
                  refine snil ?_
                  refine ccond rfl (fun hc => ?_) (fun hc => ?_)
                  · replace h := ite_t hc h
                    clear hc
                    refine cseq ?_
                    refine cregion ?_
                    refine sv rfl (opv_as rfl) ?_
                    refine snil ?_
                    refine cret ?_
                    refine then_ret ?_
                    obtain rfl := Option.some.inj h
                    refine ⟨Or.inr rfl, _, _, _, (resVs_cons (ResV.tmp _ _ rfl) resVs_nil), (pubA_id rfl), ?_⟩
                    rfl
                  · replace h := ite_f hc h
                    clear hc
                    refine cskip ?_
                    refine then_normal ?_
                    exact ⟨(), _, h, ⟨rfl, rfl, rfl, rfl, rfl, trivial⟩, rfl⟩
    · skip
      refine cblock ?_
      obtain ⟨x23, hx23, ho23⟩ := bind_eq h
      refine awc_loop (G := Nat × (Int × Int × Int)) (fun g => [(1, .s (.one (.sl a1.length (a1.flatMap eGL01Step)))), (2, .s (.one (.sl a2.length (a2.flatMap eGL01Step)))), (7, .s (.one (.b v1))), (8, .s (.one (.lp 0 0))), (9, .s (.one (.i .i64 g.2.1)))]) (fun g => [.box [.fn 30 [] [.lp 1 0, .lp 2 0], .i .i64 g.2.2.1], .box [.i .i64 g.2.2.2], .box [.sl v3.2.2.length (v3.2.2.flatMap eU8)]]) (fun g => iterB (m6_l01_EncStays_s23 a1 v3) g.1 g.2 = some x23) (fun g => g.1) (fuel, (0, v3.1, v3.2.1)) hx23 ⟨rfl, rfl, rfl, rfl, rfl, trivial⟩ [] rfl (fun _ _ => inbL_of rfl) (fun _ _ => blkinb_of rfl) (fun _ _ => Nat.le_of_ble_eq_true rfl) ?_
      clear hx23 h
      rintro ⟨n23, s23⟩ h
      obtain ⟨n23, y23, rfl, h, hk23⟩ := iterB_eq h
      unfold m6_l01_EncStays_s23 at h
      refine cseq ?_
      refine cseq ?_
      refine cregion ?_
      refine sv rfl (opv_mv rfl) ?_
      refine sv rfl (opv_mv rfl) ?_
      refine sv rfl (opv_len_sl si28 rfl) ?_
      refine sv rfl (opv_lss rfl rfl) ?_
      refine snil ?_
      refine ccond rfl (fun hc => ?_) (fun hc => ?_)
      · replace h := ite_t hc h
        clear hc
        refine cskip ?_
        refine then_normal ?_
        refine cseq ?_
        refine cblock ?_
        refine cregion ?_
        refine sv rfl (opv_mv rfl) ?_
        refine sv rfl (opv_mv rfl) ?_
        refine sv rfl (opv_mv rfl) ?_
        obtain ⟨u24, hu24, h⟩ := bind_eq h
        refine sv rfl (opv_ix (f := eGL01Step) si28 (fun _ => rfl) rfl rfl rfl rfl hu24) ?_
        refine sv rfl (opv_loadNe (ys := [.i .i64 u24.What, .i .i64 u24.N]) ti34 rfl (.cp _) rfl rfl) ?_
        obtain ⟨v25, hv25, h⟩ := bind_eq h
        refine scallB (x' := .s (.one (.b v25.1))) (M' := [.box [.fn 30 [] [.lp 1 0, .lp 2 0], .i .i64 v25.2.1], .box [.i .i64 v25.2.2], .box [.sl v3.2.2.length (v3.2.2.flatMap eU8)]]) [0, 1, 2] rfl fn28 (.func _) (opnds_cons rfl (opnds_cons rfl opnds_nil)) (m28_l01_steps_c hv25) rfl rfl (by decide) rfl rfl rfl ?_
        refine snil0 ?_
        refine block_normal ?_
        refine then_normal ?_
        refine cregion ?_
        refine sv rfl (opv_mv rfl) ?_
        refine sv rfl (opv_add rfl rfl) ?_
        refine sv rfl (opv_as rfl) ?_
        refine snil ?_
        obtain rfl := Option.some.inj h
        exact ⟨(n23, ((wI (s23.1 + 1)), v25.2.1, v25.2.2)), _, hk23, ⟨rfl, rfl, rfl, rfl, rfl, trivial⟩, rfl, Nat.lt_succ_self _⟩
      · replace h := ite_f hc h
        clear hc
        refine cexit ?_
        refine then_exit ?_
        refine then_exit ?_
        refine block_hit ?_
        refine then_normal ?_
        obtain rfl := Option.some.inj h
        obtain rfl : _ = x23 := hk23
        exact ⟨(s23.2.1, s23.2.2), _, ho23, ⟨rfl, rfl, rfl, trivial⟩, rfl⟩
  · skip
    refine cregion ?_
    refine sv rfl (opv_mv rfl) ?_
    refine sv rfl (opv_len_sl si22 rfl) ?_
    refine sv rfl (opv_gtr rfl rfl) ?_
    refine sv rfl (opv_mv rfl) ?_
    refine ssplit 18 rfl (fun hc => ?_) (fun hc => ?_)
    · replace h := ite_t hc h
      clear hc
      refine soff rfl rfl rfl rfl ?_
      refine soff rfl rfl rfl rfl ?_
      refine soff rfl rfl rfl rfl ?_
      refine sv rfl (opv_pick_t rfl rfl) ?_
      refine sv rfl (opv_mv rfl) ?_
      refine soff rfl rfl rfl rfl ?_
      refine soff rfl rfl rfl rfl ?_
      refine soff rfl rfl rfl rfl ?_
      refine sv rfl (opv_pick_t rfl rfl) ?_
      refine snil ?_
      refine ccond rfl (fun _ => ?_) (fun hx => Bool.noConfusion hx)
      refine cseq ?_
      refine cregion ?_
      refine sv rfl (opv_mv rfl) ?_
      refine sv rfl (opv_as rfl) ?_
      refine snil ?_
      refine cret ?_
      refine then_ret ?_
      obtain rfl := Option.some.inj h
      refine ⟨Or.inr rfl, _, _, _, (resVs_cons (ResV.tmp _ _ rfl) resVs_nil), (pubA_id rfl), ?_⟩
      rfl
    · replace h := ite_f hc h
      clear hc
      refine son rfl rfl rfl ?_
      refine sv rfl (opv_mv rfl) ?_
      refine son rfl rfl rfl ?_
      refine sv rfl (opv_len_sl si28 rfl) ?_
      refine son rfl rfl rfl ?_
      refine sv rfl (opv_gtr rfl rfl) ?_
      refine sv rfl (opv_pick_f rfl rfl) ?_
      refine sv rfl (opv_mv rfl) ?_
      refine ssplit 23 rfl (fun hc => ?_) (fun hc => ?_)
      · replace h := ite_t hc h
        clear hc
        refine soff rfl rfl rfl rfl ?_
        refine soff rfl rfl rfl rfl ?_
        refine soff rfl rfl rfl rfl ?_
        refine sv rfl (opv_pick_t rfl rfl) ?_
        refine snil ?_
        refine ccond rfl (fun _ => ?_) (fun hx => Bool.noConfusion hx)
        refine cseq ?_
        refine cregion ?_
        refine sv rfl (opv_mv rfl) ?_
        refine sv rfl (opv_as rfl) ?_
        refine snil ?_
        refine cret ?_
        refine then_ret ?_
        obtain rfl := Option.some.inj h
        refine ⟨Or.inr rfl, _, _, _, (resVs_cons (ResV.tmp _ _ rfl) resVs_nil), (pubA_id rfl), ?_⟩
        rfl
      · replace h := ite_f hc h
        clear hc
        refine son rfl rfl rfl ?_
        refine sv rfl (opv_mv rfl) ?_
        refine son rfl rfl rfl ?_
        refine sv rfl (opv_len_sl si28 rfl) ?_
        refine son rfl rfl rfl ?_
        refine sv rfl (opv_gtr rfl rfl) ?_
        refine sv rfl (opv_pick_f rfl rfl) ?_
        refine snil ?_
        refine ccond rfl (fun hc => ?_) (fun hc => ?_)
        · replace h := ite_t hc h
          clear hc
          refine cseq ?_
          refine cregion ?_
          refine sv rfl (opv_mv rfl) ?_
          refine sv rfl (opv_as rfl) ?_
          refine snil ?_
          refine cret ?_
          refine then_ret ?_
          obtain rfl := Option.some.inj h
          refine ⟨Or.inr rfl, _, _, _, (resVs_cons (ResV.tmp _ _ rfl) resVs_nil), (pubA_id rfl), ?_⟩
          rfl
        · replace h := ite_f hc h
          clear hc
          refine cskip ?_
          refine then_normal ?_
          exact ⟨(), _, h, ⟨rfl, rfl, rfl, rfl, trivial⟩, rfl⟩

def m7_l01_EncLens_k2 (a0 : List UInt8) (a1 : BitVec 64) (a2 : Int) (a3 : List UInt8) (v1 : Bool) (b2 : Unit) : Option Bool :=
  (m10_enc_U a0 a1 a2).bind fun v3 => (m12_enc_List a0 a3).bind fun v4 => if v1 then (if (decide ((v3.length : Int) = (wI ((a0.length : Int) + (if (if 8 < a2 then 8 else a2) > 0 then (if 8 < a2 then 8 else a2) else 0))))) then (if (decide ((v4.length : Int) = (wI ((wI ((a0.length : Int) + 2)) + (a3.length : Int))))) then ((cut v3 0 (a0.length : Int)).bind fun c5 => if (c5 == a0) then ((cut v4 0 (a0.length : Int)).bind fun c6 => if (c6 == a0) then ((cut v4 (wI ((a0.length : Int) + 2)) (v4.length : Int)).bind fun c7 => some (c7 == a3)) else (some false)) else (some false)) else (some false)) else (some false)) else (some false)
def m7_l01_EncLens (a0 : List UInt8) (a1 : BitVec 64) (a2 : Int) (a3 : List UInt8) : Option Bool :=
  (m9_l01_awake).bind fun v1 => if (decide (500 < (a0.length : Int))) then (some v1) else (if (decide (500 < (a3.length : Int))) then (some v1) else (m7_l01_EncLens_k2 a0 a1 a2 a3 v1 ()))

set_option maxRecDepth 100000 in
theorem m7_l01_EncLens_c {a0 : List UInt8} {a1 : BitVec 64} {a2 : Int} {a3 : List UInt8} {r : Bool} (h : m7_l01_EncLens a0 a1 a2 a3 = some r) : CallsA Try.prog 7 [.one (.sl a0.length (a0.flatMap eU8)), .one (.i .u64 (a1.toNat : Int)), .one (.i .i64 a2), .one (.sl a3.length (a3.flatMap eU8))] (· = .s (.one (.b r))) := by
  unfold m7_l01_EncLens at h
  refine callsA_of Try.func7 rfl (nt := 83) rfl (Nat.le_of_ble_eq_true rfl) ?_
  intro w0 S0
  refine cseq ?_
  refine cregion ?_
  refine sv rfl (opv_as rfl) ?_
  refine snil ?_
  refine cseq ?_
  refine cregion ?_
  obtain ⟨v1, hv1, h⟩ := bind_eq h
  refine scall1 rfl fn9 opnds_nil (pubA_id rfl) (m9_l01_awake_c hv1) ?_
  refine sv rfl (opv_as rfl) ?_
  refine snil ?_
  refine cseq ?_
  refine cseq ?_
  refine cjoin3 (Unit) (fun b2 => [(0, .s (.one (.sl a0.length (a0.flatMap eU8)))), (1, .s (.one (.i .u64 (a1.toNat : Int)))), (2, .s (.one (.i .i64 a2))), (3, .s (.one (.sl a3.length (a3.flatMap eU8)))), (9, .s (.one (.b v1)))]) (fun b2 => []) (fun b2 => m7_l01_EncLens_k2 a0 a1 a2 a3 v1 b2 = some r) (fun _ _ => inbL_of rfl) (fun _ _ => blkinb_of rfl) (fun _ _ => Nat.le_of_ble_eq_true rfl) (fun b2 h => ?_) ?_
  · unfold m7_l01_EncLens_k2 at h
    refine cseq ?_
    refine cregion ?_
    refine sv rfl (opv_mv rfl) ?_
    refine sv rfl (opv_mv rfl) ?_
    refine sv rfl (opv_mv rfl) ?_
    obtain ⟨v3, hv3, h⟩ := bind_eq h
    refine scall1 rfl fn10 (opnds_cons rfl (opnds_cons rfl (opnds_cons rfl opnds_nil))) (pubA_id rfl) (m10_enc_U_c hv3) ?_
    refine sv rfl (opv_as rfl) ?_
    refine snil ?_
    refine cseq ?_
    refine cregion ?_
    refine sv rfl (opv_mv rfl) ?_
    refine sv rfl (opv_mv rfl) ?_
    obtain ⟨v4, hv4, h⟩ := bind_eq h
    refine scall1 rfl fn12 (opnds_cons rfl (opnds_cons rfl opnds_nil)) (pubA_id rfl) (m12_enc_List_c hv4) ?_
    refine sv rfl (opv_as rfl) ?_
    refine snil ?_
    refine cseq ?_
    refine cdraw mixed (by kernel_rfl) ?_
    refine dv rfl (opv_mv rfl) ?_
    refine dv rfl (opv_mv rfl) ?_
    refine dsplit 30 rfl (fun hc => ?_) (fun hc => ?_)
    · replace h := ite_t hc h
      clear hc
      refine dvg rfl rfl rfl (opv_mv rfl) ?_
      refine dvg rfl rfl rfl (opv_len_sl si22 rfl) ?_
      refine dvg rfl rfl rfl (opv_mv rfl) ?_
      refine dvg rfl rfl rfl (opv_len_sl si22 rfl) ?_
      refine dvg rfl rfl rfl (opv_mv rfl) ?_
      refine dvg rfl rfl rfl (opv_min rfl rfl) ?_
      refine dvg rfl rfl rfl (opv_max rfl rfl) ?_
      refine dvg rfl rfl rfl (opv_add rfl rfl) ?_
      refine dvg rfl rfl rfl (opv_ieql rfl rfl) ?_
      refine dv rfl (opv_pick_t rfl rfl) ?_
      refine dv rfl (opv_mv rfl) ?_
      refine dsplit 41 rfl (fun hc => ?_) (fun hc => ?_)
      · replace h := ite_t hc h
        clear hc
        refine dvg rfl rfl rfl (opv_mv rfl) ?_
        refine dvg rfl rfl rfl (opv_len_sl si22 rfl) ?_
        refine dvg rfl rfl rfl (opv_mv rfl) ?_
        refine dvg rfl rfl rfl (opv_len_sl si22 rfl) ?_
        refine dvg rfl rfl rfl (opv_add rfl rfl) ?_
        refine dvg rfl rfl rfl (opv_mv rfl) ?_
        refine dvg rfl rfl rfl (opv_len_sl si22 rfl) ?_
        refine dvg rfl rfl rfl (opv_add rfl rfl) ?_
        refine dvg rfl rfl rfl (opv_ieql rfl rfl) ?_
        refine dv rfl (opv_pick_t rfl rfl) ?_
        refine dv rfl (opv_mv rfl) ?_
        refine dsplit 52 rfl (fun hc => ?_) (fun hc => ?_)
        · replace h := ite_t hc h
          clear hc
          refine dvg rfl rfl rfl (opv_mv rfl) ?_
          refine dvg rfl rfl rfl (opv_mv rfl) ?_
          refine dvg rfl rfl rfl (opv_len_sl si22 rfl) ?_
          obtain ⟨c5, hc5, h⟩ := bind_eq h
          refine dvg rfl rfl rfl (opv_cut (f := eU8) (lo := 0) (hi := (a0.length : Int)) si22 (fun _ => rfl) rfl rfl rfl bound_none (bound_some rfl (Int.le_trans (cut_eq hc5).1.1 (cut_eq hc5).1.2.1)) hc5) ?_
          refine dvg rfl rfl rfl (opv_bs (l := c5) Try.underlying22 Try.underlying5 Try.underlying9 rfl rfl rfl) ?_
          refine dvg rfl rfl rfl (opv_mv rfl) ?_
          refine dvg rfl rfl rfl (opv_bs (l := a0) Try.underlying22 Try.underlying5 Try.underlying9 rfl rfl rfl) ?_
          refine dvg rfl rfl rfl (opv_seql' rfl rfl) ?_
          refine dv rfl (opv_pick_t rfl rfl) ?_
          refine dv rfl (opv_mv rfl) ?_
          refine dsplit 62 rfl (fun hc => ?_) (fun hc => ?_)
          · replace h := ite_t hc h
            clear hc
            refine dvg rfl rfl rfl (opv_mv rfl) ?_
            refine dvg rfl rfl rfl (opv_mv rfl) ?_
            refine dvg rfl rfl rfl (opv_len_sl si22 rfl) ?_
            obtain ⟨c6, hc6, h⟩ := bind_eq h
            refine dvg rfl rfl rfl (opv_cut (f := eU8) (lo := 0) (hi := (a0.length : Int)) si22 (fun _ => rfl) rfl rfl rfl bound_none (bound_some rfl (Int.le_trans (cut_eq hc6).1.1 (cut_eq hc6).1.2.1)) hc6) ?_
            refine dvg rfl rfl rfl (opv_bs (l := c6) Try.underlying22 Try.underlying5 Try.underlying9 rfl rfl rfl) ?_
            refine dvg rfl rfl rfl (opv_mv rfl) ?_
            refine dvg rfl rfl rfl (opv_bs (l := a0) Try.underlying22 Try.underlying5 Try.underlying9 rfl rfl rfl) ?_
            refine dvg rfl rfl rfl (opv_seql' rfl rfl) ?_
            refine dv rfl (opv_pick_t rfl rfl) ?_
            refine dv rfl (opv_mv rfl) ?_
            refine dsplit 72 rfl (fun hc => ?_) (fun hc => ?_)
            · replace h := ite_t hc h
              clear hc
              refine dvg rfl rfl rfl (opv_mv rfl) ?_
              refine dvg rfl rfl rfl (opv_mv rfl) ?_
              refine dvg rfl rfl rfl (opv_len_sl si22 rfl) ?_
              refine dvg rfl rfl rfl (opv_add rfl rfl) ?_
              obtain ⟨c7, hc7, h⟩ := bind_eq h
              refine dvg rfl rfl rfl (opv_cut (f := eU8) (lo := (wI ((a0.length : Int) + 2))) (hi := (v4.length : Int)) si22 (fun _ => rfl) rfl rfl rfl (bound_some rfl (cut_eq hc7).1.1) (by exact rfl) hc7) ?_
              refine dvg rfl rfl rfl (opv_bs (l := c7) Try.underlying22 Try.underlying5 Try.underlying9 rfl rfl rfl) ?_
              refine dvg rfl rfl rfl (opv_mv rfl) ?_
              refine dvg rfl rfl rfl (opv_bs (l := a3) Try.underlying22 Try.underlying5 Try.underlying9 rfl rfl rfl) ?_
              refine dvg rfl rfl rfl (opv_seql' rfl rfl) ?_
              refine dv rfl (opv_pick_t rfl rfl) ?_
              refine dv rfl (opv_as rfl) ?_
              refine dnil ?_
              refine then_normal ?_
              refine cret ?_
              obtain rfl := Option.some.inj h
              refine ⟨Or.inr rfl, _, _, _, (resVs_cons (ResV.tmp _ _ rfl) resVs_nil), (pubA_id rfl), ?_⟩
              rfl
            · replace h := ite_f hc h
              clear hc
              refine doff rfl rfl rfl rfl ?_
              refine doff rfl rfl rfl rfl ?_
              refine doff rfl rfl rfl rfl ?_
              refine doff rfl rfl rfl rfl ?_
              refine doff rfl rfl rfl rfl ?_
              refine doff rfl rfl rfl rfl ?_
              refine doff rfl rfl rfl rfl ?_
              refine doff rfl rfl rfl rfl ?_
              refine doff rfl rfl rfl rfl ?_
              refine dv rfl (opv_pick_f rfl rfl) ?_
              refine dv rfl (opv_as rfl) ?_
              refine dnil ?_
              refine then_normal ?_
              refine cret ?_
              obtain rfl := Option.some.inj h
              refine ⟨Or.inr rfl, _, _, _, (resVs_cons (ResV.tmp _ _ rfl) resVs_nil), (pubA_id rfl), ?_⟩
              rfl
          · replace h := ite_f hc h
            clear hc
            refine doff rfl rfl rfl rfl ?_
            refine doff rfl rfl rfl rfl ?_
            refine doff rfl rfl rfl rfl ?_
            refine doff rfl rfl rfl rfl ?_
            refine doff rfl rfl rfl rfl ?_
            refine doff rfl rfl rfl rfl ?_
            refine doff rfl rfl rfl rfl ?_
            refine doff rfl rfl rfl rfl ?_
            refine dv rfl (opv_pick_f rfl rfl) ?_
            refine dv rfl (opv_mv rfl) ?_
            refine doff rfl rfl rfl rfl ?_
            refine doff rfl rfl rfl rfl ?_
            refine doff rfl rfl rfl rfl ?_
            refine doff rfl rfl rfl rfl ?_
            refine doff rfl rfl rfl rfl ?_
            refine doff rfl rfl rfl rfl ?_
            refine doff rfl rfl rfl rfl ?_
            refine doff rfl rfl rfl rfl ?_
            refine doff rfl rfl rfl rfl ?_
            refine dv rfl (opv_pick_f rfl rfl) ?_
            refine dv rfl (opv_as rfl) ?_
            refine dnil ?_
            refine then_normal ?_
            refine cret ?_
            obtain rfl := Option.some.inj h
            refine ⟨Or.inr rfl, _, _, _, (resVs_cons (ResV.tmp _ _ rfl) resVs_nil), (pubA_id rfl), ?_⟩
            rfl
        · replace h := ite_f hc h
          clear hc
          refine doff rfl rfl rfl rfl ?_
          refine doff rfl rfl rfl rfl ?_
          refine doff rfl rfl rfl rfl ?_
          refine doff rfl rfl rfl rfl ?_
          refine doff rfl rfl rfl rfl ?_
          refine doff rfl rfl rfl rfl ?_
          refine doff rfl rfl rfl rfl ?_
          refine doff rfl rfl rfl rfl ?_
          refine dv rfl (opv_pick_f rfl rfl) ?_
          refine dv rfl (opv_mv rfl) ?_
          refine doff rfl rfl rfl rfl ?_
          refine doff rfl rfl rfl rfl ?_
          refine doff rfl rfl rfl rfl ?_
          refine doff rfl rfl rfl rfl ?_
          refine doff rfl rfl rfl rfl ?_
          refine doff rfl rfl rfl rfl ?_
          refine doff rfl rfl rfl rfl ?_
          refine doff rfl rfl rfl rfl ?_
          refine dv rfl (opv_pick_f rfl rfl) ?_
          refine dv rfl (opv_mv rfl) ?_
          refine doff rfl rfl rfl rfl ?_
          refine doff rfl rfl rfl rfl ?_
          refine doff rfl rfl rfl rfl ?_
          refine doff rfl rfl rfl rfl ?_
          refine doff rfl rfl rfl rfl ?_
          refine doff rfl rfl rfl rfl ?_
          refine doff rfl rfl rfl rfl ?_
          refine doff rfl rfl rfl rfl ?_
          refine doff rfl rfl rfl rfl ?_
          refine dv rfl (opv_pick_f rfl rfl) ?_
          refine dv rfl (opv_as rfl) ?_
          refine dnil ?_
          refine then_normal ?_
          refine cret ?_
          obtain rfl := Option.some.inj h
          refine ⟨Or.inr rfl, _, _, _, (resVs_cons (ResV.tmp _ _ rfl) resVs_nil), (pubA_id rfl), ?_⟩
          rfl
      · replace h := ite_f hc h
        clear hc
        refine doff rfl rfl rfl rfl ?_
        refine doff rfl rfl rfl rfl ?_
        refine doff rfl rfl rfl rfl ?_
        refine doff rfl rfl rfl rfl ?_
        refine doff rfl rfl rfl rfl ?_
        refine doff rfl rfl rfl rfl ?_
        refine doff rfl rfl rfl rfl ?_
        refine doff rfl rfl rfl rfl ?_
        refine doff rfl rfl rfl rfl ?_
        refine dv rfl (opv_pick_f rfl rfl) ?_
        refine dv rfl (opv_mv rfl) ?_
        refine doff rfl rfl rfl rfl ?_
        refine doff rfl rfl rfl rfl ?_
        refine doff rfl rfl rfl rfl ?_
        refine doff rfl rfl rfl rfl ?_
        refine doff rfl rfl rfl rfl ?_
        refine doff rfl rfl rfl rfl ?_
        refine doff rfl rfl rfl rfl ?_
        refine doff rfl rfl rfl rfl ?_
        refine dv rfl (opv_pick_f rfl rfl) ?_
        refine dv rfl (opv_mv rfl) ?_
        refine doff rfl rfl rfl rfl ?_
        refine doff rfl rfl rfl rfl ?_
        refine doff rfl rfl rfl rfl ?_
        refine doff rfl rfl rfl rfl ?_
        refine doff rfl rfl rfl rfl ?_
        refine doff rfl rfl rfl rfl ?_
        refine doff rfl rfl rfl rfl ?_
        refine doff rfl rfl rfl rfl ?_
        refine dv rfl (opv_pick_f rfl rfl) ?_
        refine dv rfl (opv_mv rfl) ?_
        refine doff rfl rfl rfl rfl ?_
        refine doff rfl rfl rfl rfl ?_
        refine doff rfl rfl rfl rfl ?_
        refine doff rfl rfl rfl rfl ?_
        refine doff rfl rfl rfl rfl ?_
        refine doff rfl rfl rfl rfl ?_
        refine doff rfl rfl rfl rfl ?_
        refine doff rfl rfl rfl rfl ?_
        refine doff rfl rfl rfl rfl ?_
        refine dv rfl (opv_pick_f rfl rfl) ?_
        refine dv rfl (opv_as rfl) ?_
        refine dnil ?_
        refine then_normal ?_
        refine cret ?_
        obtain rfl := Option.some.inj h
        refine ⟨Or.inr rfl, _, _, _, (resVs_cons (ResV.tmp _ _ rfl) resVs_nil), (pubA_id rfl), ?_⟩
        rfl
    · replace h := ite_f hc h
      clear hc
      refine doff rfl rfl rfl rfl ?_
      refine doff rfl rfl rfl rfl ?_
      refine doff rfl rfl rfl rfl ?_
      refine doff rfl rfl rfl rfl ?_
      refine doff rfl rfl rfl rfl ?_
      refine doff rfl rfl rfl rfl ?_
      refine doff rfl rfl rfl rfl ?_
      refine doff rfl rfl rfl rfl ?_
      refine doff rfl rfl rfl rfl ?_
      refine dv rfl (opv_pick_f rfl rfl) ?_
      refine dv rfl (opv_mv rfl) ?_
      refine doff rfl rfl rfl rfl ?_
      refine doff rfl rfl rfl rfl ?_
      refine doff rfl rfl rfl rfl ?_
      refine doff rfl rfl rfl rfl ?_
      refine doff rfl rfl rfl rfl ?_
      refine doff rfl rfl rfl rfl ?_
      refine doff rfl rfl rfl rfl ?_
      refine doff rfl rfl rfl rfl ?_
      refine doff rfl rfl rfl rfl ?_
      refine dv rfl (opv_pick_f rfl rfl) ?_
      refine dv rfl (opv_mv rfl) ?_
      refine doff rfl rfl rfl rfl ?_
      refine doff rfl rfl rfl rfl ?_
      refine doff rfl rfl rfl rfl ?_
      refine doff rfl rfl rfl rfl ?_
      refine doff rfl rfl rfl rfl ?_
      refine doff rfl rfl rfl rfl ?_
      refine doff rfl rfl rfl rfl ?_
      refine doff rfl rfl rfl rfl ?_
      refine dv rfl (opv_pick_f rfl rfl) ?_
      refine dv rfl (opv_mv rfl) ?_
      refine doff rfl rfl rfl rfl ?_
      refine doff rfl rfl rfl rfl ?_
      refine doff rfl rfl rfl rfl ?_
      refine doff rfl rfl rfl rfl ?_
      refine doff rfl rfl rfl rfl ?_
      refine doff rfl rfl rfl rfl ?_
      refine doff rfl rfl rfl rfl ?_
      refine doff rfl rfl rfl rfl ?_
      refine dv rfl (opv_pick_f rfl rfl) ?_
      refine dv rfl (opv_mv rfl) ?_
      refine doff rfl rfl rfl rfl ?_
      refine doff rfl rfl rfl rfl ?_
      refine doff rfl rfl rfl rfl ?_
      refine doff rfl rfl rfl rfl ?_
      refine doff rfl rfl rfl rfl ?_
      refine doff rfl rfl rfl rfl ?_
      refine doff rfl rfl rfl rfl ?_
      refine doff rfl rfl rfl rfl ?_
      refine doff rfl rfl rfl rfl ?_
      refine dv rfl (opv_pick_f rfl rfl) ?_
      refine dv rfl (opv_as rfl) ?_
      refine dnil ?_
      refine then_normal ?_
      refine cret ?_
      obtain rfl := Option.some.inj h
      refine ⟨Or.inr rfl, _, _, _, (resVs_cons (ResV.tmp _ _ rfl) resVs_nil), (pubA_id rfl), ?_⟩
      rfl
  · skip
    refine cregion ?_
    refine sv rfl (opv_mv rfl) ?_
    refine sv rfl (opv_len_sl si22 rfl) ?_
    refine sv rfl (opv_gtr rfl rfl) ?_
    refine sv rfl (opv_mv rfl) ?_
    refine ssplit 16 rfl (fun hc => ?_) (fun hc => ?_)
    · replace h := ite_t hc h
      clear hc
      refine soff rfl rfl rfl rfl ?_
      refine soff rfl rfl rfl rfl ?_
      refine soff rfl rfl rfl rfl ?_
      refine sv rfl (opv_pick_t rfl rfl) ?_
      refine snil ?_
      refine ccond rfl (fun _ => ?_) (fun hx => Bool.noConfusion hx)
      refine cseq ?_
      refine cregion ?_
      refine sv rfl (opv_mv rfl) ?_
      refine sv rfl (opv_as rfl) ?_
      refine snil ?_
      refine cret ?_
      refine then_ret ?_
      obtain rfl := Option.some.inj h
      refine ⟨Or.inr rfl, _, _, _, (resVs_cons (ResV.tmp _ _ rfl) resVs_nil), (pubA_id rfl), ?_⟩
      rfl
    · replace h := ite_f hc h
      clear hc
      refine son rfl rfl rfl ?_
      refine sv rfl (opv_mv rfl) ?_
      refine son rfl rfl rfl ?_
      refine sv rfl (opv_len_sl si22 rfl) ?_
      refine son rfl rfl rfl ?_
      refine sv rfl (opv_gtr rfl rfl) ?_
      refine sv rfl (opv_pick_f rfl rfl) ?_
      refine snil ?_
      refine ccond rfl (fun hc => ?_) (fun hc => ?_)
      · replace h := ite_t hc h
        clear hc
        refine cseq ?_
        refine cregion ?_
        refine sv rfl (opv_mv rfl) ?_
        refine sv rfl (opv_as rfl) ?_
        refine snil ?_
        refine cret ?_
        refine then_ret ?_
        obtain rfl := Option.some.inj h
        refine ⟨Or.inr rfl, _, _, _, (resVs_cons (ResV.tmp _ _ rfl) resVs_nil), (pubA_id rfl), ?_⟩
        rfl
      · replace h := ite_f hc h
        clear hc
        refine cskip ?_
        refine then_normal ?_
        exact ⟨(), _, h, ⟨rfl, rfl, rfl, rfl, rfl, trivial⟩, rfl⟩

def m8_l01_EncSplit_k2 (a0 : List UInt8) (v1 : Bool) (b2 : Unit) : Option Bool :=
  (m14_enc_News a0).bind fun v3 => (m14_enc_News a0).bind fun v4 => (m14_enc_News a0).bind fun v5 => (m16_enc_Reader_Us 1 v3.1 v3.2.1 v3.2.2).bind fun v6 => (m16_enc_Reader_Us 1 v6.2.1 v6.2.2 v3.2.2).bind fun v7 => (m16_enc_Reader_Us 1 v7.2.1 v7.2.2 v3.2.2).bind fun v8 => (m16_enc_Reader_Us 1 v8.2.1 v8.2.2 v3.2.2).bind fun v9 => (m16_enc_Reader_Us 2 v4.1 v4.2.1 v4.2.2).bind fun v10 => (m16_enc_Reader_Us 2 v10.2.1 v10.2.2 v4.2.2).bind fun v11 => (m16_enc_Reader_Us 4 v5.1 v5.2.1 v5.2.2).bind fun v12 => if v1 then (if (decide ((v10.1.toNat : Int) = ((v6.1 + (v7.1 * (256#64))).toNat : Int))) then (if (decide ((v11.1.toNat : Int) = ((v8.1 + (v9.1 * (256#64))).toNat : Int))) then (if (decide ((v12.1.toNat : Int) = ((v10.1 + (v11.1 * (65536#64))).toNat : Int))) then ((m25_enc_Reader_Ats v9.2.1 v9.2.2 v3.2.2).bind fun v13 => if (decide (v13.1 = 4)) then ((m25_enc_Reader_Ats v11.2.1 v11.2.2 v4.2.2).bind fun v14 => if (decide (v14.1 = 4)) then ((m25_enc_Reader_Ats v12.2.1 v12.2.2 v5.2.2).bind fun v15 => some (decide (v15.1 = 4))) else (some false)) else (some false)) else (some false)) else (some false)) else (some false)) else (some false)
def m8_l01_EncSplit (a0 : List UInt8) : Option Bool :=
  (m9_l01_awake).bind fun v1 => if (decide (100 < (a0.length : Int))) then (some v1) else (if (decide ((a0.length : Int) < 4)) then (some v1) else (m8_l01_EncSplit_k2 a0 v1 ()))

set_option maxRecDepth 100000 in
theorem m8_l01_EncSplit_c {a0 : List UInt8} {r : Bool} (h : m8_l01_EncSplit a0 = some r) : CallsA Try.prog 8 [.one (.sl a0.length (a0.flatMap eU8))] (· = .s (.one (.b r))) := by
  unfold m8_l01_EncSplit at h
  refine callsA_of Try.func8 rfl (nt := 84) rfl (Nat.le_of_ble_eq_true rfl) ?_
  intro w0 S0
  refine cseq ?_
  refine cregion ?_
  refine sv rfl (opv_as rfl) ?_
  refine snil ?_
  refine cseq ?_
  refine cregion ?_
  obtain ⟨v1, hv1, h⟩ := bind_eq h
  refine scall1 rfl fn9 opnds_nil (pubA_id rfl) (m9_l01_awake_c hv1) ?_
  refine sv rfl (opv_as rfl) ?_
  refine snil ?_
  refine cseq ?_
  refine cseq ?_
  refine cjoin3 (Unit) (fun b2 => [(0, .s (.one (.sl a0.length (a0.flatMap eU8)))), (3, .s (.one (.b v1)))]) (fun b2 => []) (fun b2 => m8_l01_EncSplit_k2 a0 v1 b2 = some r) (fun _ _ => inbL_of rfl) (fun _ _ => blkinb_of rfl) (fun _ _ => Nat.le_of_ble_eq_true rfl) (fun b2 h => ?_) ?_
  · unfold m8_l01_EncSplit_k2 at h
    refine cseq ?_
    refine cregion ?_
    refine sv rfl (opv_mv rfl) ?_
    obtain ⟨v3, hv3, h⟩ := bind_eq h
    refine scallB (x' := .s (.one (.lp 0 0))) (M' := [.box [.fn 30 [] [.lp 1 0, .lp 2 0], .i .i64 v3.1], .box [.i .i64 v3.2.1], .box [.sl v3.2.2.length (v3.2.2.flatMap eU8)]]) [] rfl fn14 (.func _) (opnds_cons rfl opnds_nil) (m14_enc_News_c hv3) rfl rfl (by decide) rfl rfl rfl ?_
    refine sv rfl (opv_as rfl) ?_
    refine snil ?_
    refine cseq ?_
    refine cregion ?_
    refine sv rfl (opv_mv rfl) ?_
    obtain ⟨v4, hv4, h⟩ := bind_eq h
    refine scallB (x' := .s (.one (.lp 3 0))) (M' := [.box [.fn 30 [] [.lp 1 0, .lp 2 0], .i .i64 v3.1], .box [.i .i64 v3.2.1], .box [.sl v3.2.2.length (v3.2.2.flatMap eU8)], .box [.fn 30 [] [.lp 4 0, .lp 5 0], .i .i64 v4.1], .box [.i .i64 v4.2.1], .box [.sl v4.2.2.length (v4.2.2.flatMap eU8)]]) [] rfl fn14 (.func _) (opnds_cons rfl opnds_nil) (m14_enc_News_c hv4) rfl rfl (by decide) rfl rfl rfl ?_
    refine sv rfl (opv_as rfl) ?_
    refine snil ?_
    refine cseq ?_
    refine cregion ?_
    refine sv rfl (opv_mv rfl) ?_
    obtain ⟨v5, hv5, h⟩ := bind_eq h
    refine scallB (x' := .s (.one (.lp 6 0))) (M' := [.box [.fn 30 [] [.lp 1 0, .lp 2 0], .i .i64 v3.1], .box [.i .i64 v3.2.1], .box [.sl v3.2.2.length (v3.2.2.flatMap eU8)], .box [.fn 30 [] [.lp 4 0, .lp 5 0], .i .i64 v4.1], .box [.i .i64 v4.2.1], .box [.sl v4.2.2.length (v4.2.2.flatMap eU8)], .box [.fn 30 [] [.lp 7 0, .lp 8 0], .i .i64 v5.1], .box [.i .i64 v5.2.1], .box [.sl v5.2.2.length (v5.2.2.flatMap eU8)]]) [] rfl fn14 (.func _) (opnds_cons rfl opnds_nil) (m14_enc_News_c hv5) rfl rfl (by decide) rfl rfl rfl ?_
    refine sv rfl (opv_as rfl) ?_
    refine snil ?_
    refine cseq ?_
    refine cregion ?_
    refine sv rfl (opv_mv rfl) ?_
    obtain ⟨v6, hv6, h⟩ := bind_eq h
    refine scallB (x' := .s (.one (.i .u64 (v6.1.toNat : Int)))) (M' := [.box [.fn 30 [] [.lp 1 0, .lp 2 0], .i .i64 v6.2.1], .box [.i .i64 v6.2.2], .box [.sl v3.2.2.length (v3.2.2.flatMap eU8)], .box [.fn 30 [] [.lp 4 0, .lp 5 0], .i .i64 v4.1], .box [.i .i64 v4.2.1], .box [.sl v4.2.2.length (v4.2.2.flatMap eU8)], .box [.fn 30 [] [.lp 7 0, .lp 8 0], .i .i64 v5.1], .box [.i .i64 v5.2.1], .box [.sl v5.2.2.length (v5.2.2.flatMap eU8)]]) [0, 1, 2] rfl fn16 (.func _) (opnds_cons rfl (opnds_cons rfl opnds_nil)) (m16_enc_Reader_Us_c hv6) rfl rfl (by decide) rfl rfl rfl ?_
    refine sv rfl (opv_as rfl) ?_
    refine snil ?_
    refine cseq ?_
    refine cregion ?_
    refine sv rfl (opv_mv rfl) ?_
    obtain ⟨v7, hv7, h⟩ := bind_eq h
    refine scallB (x' := .s (.one (.i .u64 (v7.1.toNat : Int)))) (M' := [.box [.fn 30 [] [.lp 1 0, .lp 2 0], .i .i64 v7.2.1], .box [.i .i64 v7.2.2], .box [.sl v3.2.2.length (v3.2.2.flatMap eU8)], .box [.fn 30 [] [.lp 4 0, .lp 5 0], .i .i64 v4.1], .box [.i .i64 v4.2.1], .box [.sl v4.2.2.length (v4.2.2.flatMap eU8)], .box [.fn 30 [] [.lp 7 0, .lp 8 0], .i .i64 v5.1], .box [.i .i64 v5.2.1], .box [.sl v5.2.2.length (v5.2.2.flatMap eU8)]]) [0, 1, 2] rfl fn16 (.func _) (opnds_cons rfl (opnds_cons rfl opnds_nil)) (m16_enc_Reader_Us_c hv7) rfl rfl (by decide) rfl rfl rfl ?_
    refine sv rfl (opv_as rfl) ?_
    refine snil ?_
    refine cseq ?_
    refine cregion ?_
    refine sv rfl (opv_mv rfl) ?_
    obtain ⟨v8, hv8, h⟩ := bind_eq h
    refine scallB (x' := .s (.one (.i .u64 (v8.1.toNat : Int)))) (M' := [.box [.fn 30 [] [.lp 1 0, .lp 2 0], .i .i64 v8.2.1], .box [.i .i64 v8.2.2], .box [.sl v3.2.2.length (v3.2.2.flatMap eU8)], .box [.fn 30 [] [.lp 4 0, .lp 5 0], .i .i64 v4.1], .box [.i .i64 v4.2.1], .box [.sl v4.2.2.length (v4.2.2.flatMap eU8)], .box [.fn 30 [] [.lp 7 0, .lp 8 0], .i .i64 v5.1], .box [.i .i64 v5.2.1], .box [.sl v5.2.2.length (v5.2.2.flatMap eU8)]]) [0, 1, 2] rfl fn16 (.func _) (opnds_cons rfl (opnds_cons rfl opnds_nil)) (m16_enc_Reader_Us_c hv8) rfl rfl (by decide) rfl rfl rfl ?_
    refine sv rfl (opv_as rfl) ?_
    refine snil ?_
    refine cseq ?_
    refine cregion ?_
    refine sv rfl (opv_mv rfl) ?_
    obtain ⟨v9, hv9, h⟩ := bind_eq h
    refine scallB (x' := .s (.one (.i .u64 (v9.1.toNat : Int)))) (M' := [.box [.fn 30 [] [.lp 1 0, .lp 2 0], .i .i64 v9.2.1], .box [.i .i64 v9.2.2], .box [.sl v3.2.2.length (v3.2.2.flatMap eU8)], .box [.fn 30 [] [.lp 4 0, .lp 5 0], .i .i64 v4.1], .box [.i .i64 v4.2.1], .box [.sl v4.2.2.length (v4.2.2.flatMap eU8)], .box [.fn 30 [] [.lp 7 0, .lp 8 0], .i .i64 v5.1], .box [.i .i64 v5.2.1], .box [.sl v5.2.2.length (v5.2.2.flatMap eU8)]]) [0, 1, 2] rfl fn16 (.func _) (opnds_cons rfl (opnds_cons rfl opnds_nil)) (m16_enc_Reader_Us_c hv9) rfl rfl (by decide) rfl rfl rfl ?_
    refine sv rfl (opv_as rfl) ?_
    refine snil ?_
    refine cseq ?_
    refine cregion ?_
    refine sv rfl (opv_mv rfl) ?_
    obtain ⟨v10, hv10, h⟩ := bind_eq h
    refine scallB (x' := .s (.one (.i .u64 (v10.1.toNat : Int)))) (M' := [.box [.fn 30 [] [.lp 1 0, .lp 2 0], .i .i64 v9.2.1], .box [.i .i64 v9.2.2], .box [.sl v3.2.2.length (v3.2.2.flatMap eU8)], .box [.fn 30 [] [.lp 4 0, .lp 5 0], .i .i64 v10.2.1], .box [.i .i64 v10.2.2], .box [.sl v4.2.2.length (v4.2.2.flatMap eU8)], .box [.fn 30 [] [.lp 7 0, .lp 8 0], .i .i64 v5.1], .box [.i .i64 v5.2.1], .box [.sl v5.2.2.length (v5.2.2.flatMap eU8)]]) [3, 4, 5] rfl fn16 (.func _) (opnds_cons rfl (opnds_cons rfl opnds_nil)) (m16_enc_Reader_Us_c hv10) rfl rfl (by decide) rfl rfl rfl ?_
    refine sv rfl (opv_as rfl) ?_
    refine snil ?_
    refine cseq ?_
    refine cregion ?_
    refine sv rfl (opv_mv rfl) ?_
    obtain ⟨v11, hv11, h⟩ := bind_eq h
    refine scallB (x' := .s (.one (.i .u64 (v11.1.toNat : Int)))) (M' := [.box [.fn 30 [] [.lp 1 0, .lp 2 0], .i .i64 v9.2.1], .box [.i .i64 v9.2.2], .box [.sl v3.2.2.length (v3.2.2.flatMap eU8)], .box [.fn 30 [] [.lp 4 0, .lp 5 0], .i .i64 v11.2.1], .box [.i .i64 v11.2.2], .box [.sl v4.2.2.length (v4.2.2.flatMap eU8)], .box [.fn 30 [] [.lp 7 0, .lp 8 0], .i .i64 v5.1], .box [.i .i64 v5.2.1], .box [.sl v5.2.2.length (v5.2.2.flatMap eU8)]]) [3, 4, 5] rfl fn16 (.func _) (opnds_cons rfl (opnds_cons rfl opnds_nil)) (m16_enc_Reader_Us_c hv11) rfl rfl (by decide) rfl rfl rfl ?_
    refine sv rfl (opv_as rfl) ?_
    refine snil ?_
    refine cseq ?_
    refine cregion ?_
    refine sv rfl (opv_mv rfl) ?_
    obtain ⟨v12, hv12, h⟩ := bind_eq h
    refine scallB (x' := .s (.one (.i .u64 (v12.1.toNat : Int)))) (M' := [.box [.fn 30 [] [.lp 1 0, .lp 2 0], .i .i64 v9.2.1], .box [.i .i64 v9.2.2], .box [.sl v3.2.2.length (v3.2.2.flatMap eU8)], .box [.fn 30 [] [.lp 4 0, .lp 5 0], .i .i64 v11.2.1], .box [.i .i64 v11.2.2], .box [.sl v4.2.2.length (v4.2.2.flatMap eU8)], .box [.fn 30 [] [.lp 7 0, .lp 8 0], .i .i64 v12.2.1], .box [.i .i64 v12.2.2], .box [.sl v5.2.2.length (v5.2.2.flatMap eU8)]]) [6, 7, 8] rfl fn16 (.func _) (opnds_cons rfl (opnds_cons rfl opnds_nil)) (m16_enc_Reader_Us_c hv12) rfl rfl (by decide) rfl rfl rfl ?_
    refine sv rfl (opv_as rfl) ?_
    refine snil ?_
    refine cseq ?_
    refine cregion ?_
    refine sv rfl (opv_mv rfl) ?_
    refine sv rfl (opv_mv rfl) ?_
    refine ssplit 45 rfl (fun hc => ?_) (fun hc => ?_)
    · replace h := ite_t hc h
      clear hc
      refine son rfl rfl rfl ?_
      refine sv rfl (opv_mv rfl) ?_
      refine son rfl rfl rfl ?_
      refine sv rfl (opv_mv rfl) ?_
      refine son rfl rfl rfl ?_
      refine sv rfl (opv_mv rfl) ?_
      refine son rfl rfl rfl ?_
      refine sv rfl (opv_mul_u64 (a := v7.1) (b := 256#64) rfl rfl rfl rfl) ?_
      refine son rfl rfl rfl ?_
      refine sv rfl (opv_add_u64 (a := v6.1) (b := (v7.1 * (256#64))) rfl rfl rfl rfl) ?_
      refine son rfl rfl rfl ?_
      refine sv rfl (opv_ieql rfl rfl) ?_
      refine sv rfl (opv_pick_t rfl rfl) ?_
      refine sv rfl (opv_mv rfl) ?_
      refine ssplit 53 rfl (fun hc => ?_) (fun hc => ?_)
      · replace h := ite_t hc h
        clear hc
        refine son rfl rfl rfl ?_
        refine sv rfl (opv_mv rfl) ?_
        refine son rfl rfl rfl ?_
        refine sv rfl (opv_mv rfl) ?_
        refine son rfl rfl rfl ?_
        refine sv rfl (opv_mv rfl) ?_
        refine son rfl rfl rfl ?_
        refine sv rfl (opv_mul_u64 (a := v9.1) (b := 256#64) rfl rfl rfl rfl) ?_
        refine son rfl rfl rfl ?_
        refine sv rfl (opv_add_u64 (a := v8.1) (b := (v9.1 * (256#64))) rfl rfl rfl rfl) ?_
        refine son rfl rfl rfl ?_
        refine sv rfl (opv_ieql rfl rfl) ?_
        refine sv rfl (opv_pick_t rfl rfl) ?_
        refine sv rfl (opv_mv rfl) ?_
        refine ssplit 61 rfl (fun hc => ?_) (fun hc => ?_)
        · replace h := ite_t hc h
          clear hc
          refine son rfl rfl rfl ?_
          refine sv rfl (opv_mv rfl) ?_
          refine son rfl rfl rfl ?_
          refine sv rfl (opv_mv rfl) ?_
          refine son rfl rfl rfl ?_
          refine sv rfl (opv_mv rfl) ?_
          refine son rfl rfl rfl ?_
          refine sv rfl (opv_mul_u64 (a := v11.1) (b := 65536#64) rfl rfl rfl rfl) ?_
          refine son rfl rfl rfl ?_
          refine sv rfl (opv_add_u64 (a := v10.1) (b := (v11.1 * (65536#64))) rfl rfl rfl rfl) ?_
          refine son rfl rfl rfl ?_
          refine sv rfl (opv_ieql rfl rfl) ?_
          refine sv rfl (opv_pick_t rfl rfl) ?_
          refine sv rfl (opv_mv rfl) ?_
          refine ssplit 69 rfl (fun hc => ?_) (fun hc => ?_)
          · replace h := ite_t hc h
            clear hc
            refine son rfl rfl rfl ?_
            refine sv rfl (opv_mv rfl) ?_
            refine son rfl rfl rfl ?_
            obtain ⟨v13, hv13, h⟩ := bind_eq h
            refine scallB (x' := .s (.one (.i .i64 v13.1))) (M' := [.box [.fn 30 [] [.lp 1 0, .lp 2 0], .i .i64 v9.2.1], .box [.i .i64 v13.2], .box [.sl v3.2.2.length (v3.2.2.flatMap eU8)], .box [.fn 30 [] [.lp 4 0, .lp 5 0], .i .i64 v11.2.1], .box [.i .i64 v11.2.2], .box [.sl v4.2.2.length (v4.2.2.flatMap eU8)], .box [.fn 30 [] [.lp 7 0, .lp 8 0], .i .i64 v12.2.1], .box [.i .i64 v12.2.2], .box [.sl v5.2.2.length (v5.2.2.flatMap eU8)]]) [0, 1, 2] rfl fn25 (.func _) (opnds_cons rfl opnds_nil) (m25_enc_Reader_Ats_c hv13) rfl rfl (by decide) rfl rfl rfl ?_
            refine son rfl rfl rfl ?_
            refine sv rfl (opv_ieql rfl rfl) ?_
            refine sv rfl (opv_pick_t rfl rfl) ?_
            refine sv rfl (opv_mv rfl) ?_
            refine ssplit 74 rfl (fun hc => ?_) (fun hc => ?_)
            · replace h := ite_t hc h
              clear hc
              refine son rfl rfl rfl ?_
              refine sv rfl (opv_mv rfl) ?_
              refine son rfl rfl rfl ?_
              obtain ⟨v14, hv14, h⟩ := bind_eq h
              refine scallB (x' := .s (.one (.i .i64 v14.1))) (M' := [.box [.fn 30 [] [.lp 1 0, .lp 2 0], .i .i64 v9.2.1], .box [.i .i64 v13.2], .box [.sl v3.2.2.length (v3.2.2.flatMap eU8)], .box [.fn 30 [] [.lp 4 0, .lp 5 0], .i .i64 v11.2.1], .box [.i .i64 v14.2], .box [.sl v4.2.2.length (v4.2.2.flatMap eU8)], .box [.fn 30 [] [.lp 7 0, .lp 8 0], .i .i64 v12.2.1], .box [.i .i64 v12.2.2], .box [.sl v5.2.2.length (v5.2.2.flatMap eU8)]]) [3, 4, 5] rfl fn25 (.func _) (opnds_cons rfl opnds_nil) (m25_enc_Reader_Ats_c hv14) rfl rfl (by decide) rfl rfl rfl ?_
              refine son rfl rfl rfl ?_
              refine sv rfl (opv_ieql rfl rfl) ?_
              refine sv rfl (opv_pick_t rfl rfl) ?_
              refine sv rfl (opv_mv rfl) ?_
              refine ssplit 79 rfl (fun hc => ?_) (fun hc => ?_)
              · replace h := ite_t hc h
                clear hc
                refine son rfl rfl rfl ?_
                refine sv rfl (opv_mv rfl) ?_
                refine son rfl rfl rfl ?_
                obtain ⟨v15, hv15, h⟩ := bind_eq h
                refine scallB (x' := .s (.one (.i .i64 v15.1))) (M' := [.box [.fn 30 [] [.lp 1 0, .lp 2 0], .i .i64 v9.2.1], .box [.i .i64 v13.2], .box [.sl v3.2.2.length (v3.2.2.flatMap eU8)], .box [.fn 30 [] [.lp 4 0, .lp 5 0], .i .i64 v11.2.1], .box [.i .i64 v14.2], .box [.sl v4.2.2.length (v4.2.2.flatMap eU8)], .box [.fn 30 [] [.lp 7 0, .lp 8 0], .i .i64 v12.2.1], .box [.i .i64 v15.2], .box [.sl v5.2.2.length (v5.2.2.flatMap eU8)]]) [6, 7, 8] rfl fn25 (.func _) (opnds_cons rfl opnds_nil) (m25_enc_Reader_Ats_c hv15) rfl rfl (by decide) rfl rfl rfl ?_
                refine son rfl rfl rfl ?_
                refine sv rfl (opv_ieql rfl rfl) ?_
                refine sv rfl (opv_pick_t rfl rfl) ?_
                refine sv rfl (opv_as rfl) ?_
                refine snil ?_
                refine cret ?_
                obtain rfl := Option.some.inj h
                refine ⟨Or.inr rfl, _, _, _, (resVs_cons (ResV.tmp _ _ rfl) resVs_nil), (pubA_id rfl), ?_⟩
                rfl
              · replace h := ite_f hc h
                clear hc
                refine soff rfl rfl rfl rfl ?_
                refine soff rfl rfl rfl rfl ?_
                refine soff rfl rfl rfl rfl ?_
                refine sv rfl (opv_pick_f rfl rfl) ?_
                refine sv rfl (opv_as rfl) ?_
                refine snil ?_
                refine cret ?_
                obtain rfl := Option.some.inj h
                refine ⟨Or.inr rfl, _, _, _, (resVs_cons (ResV.tmp _ _ rfl) resVs_nil), (pubA_id rfl), ?_⟩
                rfl
            · replace h := ite_f hc h
              clear hc
              refine soff rfl rfl rfl rfl ?_
              refine soff rfl rfl rfl rfl ?_
              refine soff rfl rfl rfl rfl ?_
              refine sv rfl (opv_pick_f rfl rfl) ?_
              refine sv rfl (opv_mv rfl) ?_
              refine soff rfl rfl rfl rfl ?_
              refine soff rfl rfl rfl rfl ?_
              refine soff rfl rfl rfl rfl ?_
              refine sv rfl (opv_pick_f rfl rfl) ?_
              refine sv rfl (opv_as rfl) ?_
              refine snil ?_
              refine cret ?_
              obtain rfl := Option.some.inj h
              refine ⟨Or.inr rfl, _, _, _, (resVs_cons (ResV.tmp _ _ rfl) resVs_nil), (pubA_id rfl), ?_⟩
              rfl
          · replace h := ite_f hc h
            clear hc
            refine soff rfl rfl rfl rfl ?_
            refine soff rfl rfl rfl rfl ?_
            refine soff rfl rfl rfl rfl ?_
            refine sv rfl (opv_pick_f rfl rfl) ?_
            refine sv rfl (opv_mv rfl) ?_
            refine soff rfl rfl rfl rfl ?_
            refine soff rfl rfl rfl rfl ?_
            refine soff rfl rfl rfl rfl ?_
            refine sv rfl (opv_pick_f rfl rfl) ?_
            refine sv rfl (opv_mv rfl) ?_
            refine soff rfl rfl rfl rfl ?_
            refine soff rfl rfl rfl rfl ?_
            refine soff rfl rfl rfl rfl ?_
            refine sv rfl (opv_pick_f rfl rfl) ?_
            refine sv rfl (opv_as rfl) ?_
            refine snil ?_
            refine cret ?_
            obtain rfl := Option.some.inj h
            refine ⟨Or.inr rfl, _, _, _, (resVs_cons (ResV.tmp _ _ rfl) resVs_nil), (pubA_id rfl), ?_⟩
            rfl
        · replace h := ite_f hc h
          clear hc
          refine soff rfl rfl rfl rfl ?_
          refine soff rfl rfl rfl rfl ?_
          refine soff rfl rfl rfl rfl ?_
          refine soff rfl rfl rfl rfl ?_
          refine soff rfl rfl rfl rfl ?_
          refine soff rfl rfl rfl rfl ?_
          refine sv rfl (opv_pick_f rfl rfl) ?_
          refine sv rfl (opv_mv rfl) ?_
          refine soff rfl rfl rfl rfl ?_
          refine soff rfl rfl rfl rfl ?_
          refine soff rfl rfl rfl rfl ?_
          refine sv rfl (opv_pick_f rfl rfl) ?_
          refine sv rfl (opv_mv rfl) ?_
          refine soff rfl rfl rfl rfl ?_
          refine soff rfl rfl rfl rfl ?_
          refine soff rfl rfl rfl rfl ?_
          refine sv rfl (opv_pick_f rfl rfl) ?_
          refine sv rfl (opv_mv rfl) ?_
          refine soff rfl rfl rfl rfl ?_
          refine soff rfl rfl rfl rfl ?_
          refine soff rfl rfl rfl rfl ?_
          refine sv rfl (opv_pick_f rfl rfl) ?_
          refine sv rfl (opv_as rfl) ?_
          refine snil ?_
          refine cret ?_
          obtain rfl := Option.some.inj h
          refine ⟨Or.inr rfl, _, _, _, (resVs_cons (ResV.tmp _ _ rfl) resVs_nil), (pubA_id rfl), ?_⟩
          rfl
      · replace h := ite_f hc h
        clear hc
        refine soff rfl rfl rfl rfl ?_
        refine soff rfl rfl rfl rfl ?_
        refine soff rfl rfl rfl rfl ?_
        refine soff rfl rfl rfl rfl ?_
        refine soff rfl rfl rfl rfl ?_
        refine soff rfl rfl rfl rfl ?_
        refine sv rfl (opv_pick_f rfl rfl) ?_
        refine sv rfl (opv_mv rfl) ?_
        refine soff rfl rfl rfl rfl ?_
        refine soff rfl rfl rfl rfl ?_
        refine soff rfl rfl rfl rfl ?_
        refine soff rfl rfl rfl rfl ?_
        refine soff rfl rfl rfl rfl ?_
        refine soff rfl rfl rfl rfl ?_
        refine sv rfl (opv_pick_f rfl rfl) ?_
        refine sv rfl (opv_mv rfl) ?_
        refine soff rfl rfl rfl rfl ?_
        refine soff rfl rfl rfl rfl ?_
        refine soff rfl rfl rfl rfl ?_
        refine sv rfl (opv_pick_f rfl rfl) ?_
        refine sv rfl (opv_mv rfl) ?_
        refine soff rfl rfl rfl rfl ?_
        refine soff rfl rfl rfl rfl ?_
        refine soff rfl rfl rfl rfl ?_
        refine sv rfl (opv_pick_f rfl rfl) ?_
        refine sv rfl (opv_mv rfl) ?_
        refine soff rfl rfl rfl rfl ?_
        refine soff rfl rfl rfl rfl ?_
        refine soff rfl rfl rfl rfl ?_
        refine sv rfl (opv_pick_f rfl rfl) ?_
        refine sv rfl (opv_as rfl) ?_
        refine snil ?_
        refine cret ?_
        obtain rfl := Option.some.inj h
        refine ⟨Or.inr rfl, _, _, _, (resVs_cons (ResV.tmp _ _ rfl) resVs_nil), (pubA_id rfl), ?_⟩
        rfl
    · replace h := ite_f hc h
      clear hc
      refine soff rfl rfl rfl rfl ?_
      refine soff rfl rfl rfl rfl ?_
      refine soff rfl rfl rfl rfl ?_
      refine soff rfl rfl rfl rfl ?_
      refine soff rfl rfl rfl rfl ?_
      refine soff rfl rfl rfl rfl ?_
      refine sv rfl (opv_pick_f rfl rfl) ?_
      refine sv rfl (opv_mv rfl) ?_
      refine soff rfl rfl rfl rfl ?_
      refine soff rfl rfl rfl rfl ?_
      refine soff rfl rfl rfl rfl ?_
      refine soff rfl rfl rfl rfl ?_
      refine soff rfl rfl rfl rfl ?_
      refine soff rfl rfl rfl rfl ?_
      refine sv rfl (opv_pick_f rfl rfl) ?_
      refine sv rfl (opv_mv rfl) ?_
      refine soff rfl rfl rfl rfl ?_
      refine soff rfl rfl rfl rfl ?_
      refine soff rfl rfl rfl rfl ?_
      refine soff rfl rfl rfl rfl ?_
      refine soff rfl rfl rfl rfl ?_
      refine soff rfl rfl rfl rfl ?_
      refine sv rfl (opv_pick_f rfl rfl) ?_
      refine sv rfl (opv_mv rfl) ?_
      refine soff rfl rfl rfl rfl ?_
      refine soff rfl rfl rfl rfl ?_
      refine soff rfl rfl rfl rfl ?_
      refine sv rfl (opv_pick_f rfl rfl) ?_
      refine sv rfl (opv_mv rfl) ?_
      refine soff rfl rfl rfl rfl ?_
      refine soff rfl rfl rfl rfl ?_
      refine soff rfl rfl rfl rfl ?_
      refine sv rfl (opv_pick_f rfl rfl) ?_
      refine sv rfl (opv_mv rfl) ?_
      refine soff rfl rfl rfl rfl ?_
      refine soff rfl rfl rfl rfl ?_
      refine soff rfl rfl rfl rfl ?_
      refine sv rfl (opv_pick_f rfl rfl) ?_
      refine sv rfl (opv_as rfl) ?_
      refine snil ?_
      refine cret ?_
      obtain rfl := Option.some.inj h
      refine ⟨Or.inr rfl, _, _, _, (resVs_cons (ResV.tmp _ _ rfl) resVs_nil), (pubA_id rfl), ?_⟩
      rfl
  · skip
    refine cregion ?_
    refine sv rfl (opv_mv rfl) ?_
    refine sv rfl (opv_len_sl si22 rfl) ?_
    refine sv rfl (opv_gtr rfl rfl) ?_
    refine sv rfl (opv_mv rfl) ?_
    refine ssplit 18 rfl (fun hc => ?_) (fun hc => ?_)
    · replace h := ite_t hc h
      clear hc
      refine soff rfl rfl rfl rfl ?_
      refine soff rfl rfl rfl rfl ?_
      refine soff rfl rfl rfl rfl ?_
      refine sv rfl (opv_pick_t rfl rfl) ?_
      refine snil ?_
      refine ccond rfl (fun _ => ?_) (fun hx => Bool.noConfusion hx)
      refine cseq ?_
      refine cregion ?_
      refine sv rfl (opv_mv rfl) ?_
      refine sv rfl (opv_as rfl) ?_
      refine snil ?_
      refine cret ?_
      refine then_ret ?_
      obtain rfl := Option.some.inj h
      refine ⟨Or.inr rfl, _, _, _, (resVs_cons (ResV.tmp _ _ rfl) resVs_nil), (pubA_id rfl), ?_⟩
      rfl
    · replace h := ite_f hc h
      clear hc
      refine son rfl rfl rfl ?_
      refine sv rfl (opv_mv rfl) ?_
      refine son rfl rfl rfl ?_
      refine sv rfl (opv_len_sl si22 rfl) ?_
      refine son rfl rfl rfl ?_
      refine sv rfl (opv_lss rfl rfl) ?_
      refine sv rfl (opv_pick_f rfl rfl) ?_
      refine snil ?_
      refine ccond rfl (fun hc => ?_) (fun hc => ?_)
      · replace h := ite_t hc h
        clear hc
        refine cseq ?_
        refine cregion ?_
        refine sv rfl (opv_mv rfl) ?_
        refine sv rfl (opv_as rfl) ?_
        refine snil ?_
        refine cret ?_
        refine then_ret ?_
        obtain rfl := Option.some.inj h
        refine ⟨Or.inr rfl, _, _, _, (resVs_cons (ResV.tmp _ _ rfl) resVs_nil), (pubA_id rfl), ?_⟩
        rfl
      · replace h := ite_f hc h
        clear hc
        refine cskip ?_
        refine then_normal ?_
        exact ⟨(), _, h, ⟨rfl, rfl, trivial⟩, rfl⟩

def m14_enc_New (a0 : List UInt8) : Option (Int × Int × (List UInt8)) :=
  some (0, 0, a0)

set_option maxRecDepth 100000 in
theorem m14_enc_New_c {a0 : List UInt8} {r : Int × Int × (List UInt8)} (h : m14_enc_New a0 = some r) : CallsB Try.prog 14 [] [.one (.sl a0.length (a0.flatMap eU8))] (fun y m' => y = .s (.one (.lp 0 0)) ∧ m' = [.box [.fn 30 [] [.lp 1 0, .lp 2 0], .i .i64 r.1], .box [.i .i64 r.2.1], .box [.sl r.2.2.length (r.2.2.flatMap eU8)]]) := by
  unfold m14_enc_New at h
  refine callsB_of Try.func14 rfl (nt := 7) rfl (Nat.le_of_ble_eq_true rfl) ?_
  intro w0 S0 X0 H0
  refine cseq ?_
  refine cregion ?_
  refine sbox rfl rfl ?_
  refine sv rfl (opv_as rfl) ?_
  refine snil ?_
  refine cseq ?_
  refine cregion ?_
  refine salloc rfl zi3 ?_
  refine sstore sz3 rfl rfl rfl rfl (Nat.le_of_ble_eq_true rfl) ?_
  refine smem [.box [.sl a0.length (a0.flatMap eU8)], .box [.i .i64 0]] rfl ?_
  refine snil ?_
  refine cseq ?_
  refine cregion ?_
  refine sv rfl (opv_makeFunc opnds1_nil (opnds1_cons rfl rfl (opnds1_cons rfl rfl opnds1_nil))) ?_
  refine sv rfl (opv_build zi54 pi54 (parts_cons rfl parts_nil) (.cons _ _ _ _ _ _ _ rfl rfl (Nat.le_of_ble_eq_true rfl) (.nil _))) ?_
  refine sbox rfl rfl ?_
  refine sv rfl (opv_as rfl) ?_
  refine snil ?_
  refine cret ?_
  obtain rfl := Option.some.inj h
  exact ⟨Or.inr rfl, _, [2, 1, 0], [.one (.lp 0 0)], [.box [.fn 30 [] [.lp 1 0, .lp 2 0], .i .i64 0], .box [.i .i64 0], .box [.sl a0.length (a0.flatMap eU8)]], (resVs_cons (ResV.tmp _ _ rfl) resVs_nil), rfl, rfl, ⟨by decide, rfl⟩, rfl, rfl, ⟨rfl, rfl⟩⟩

def m15_r01_New (a0 : List UInt8) : Option ((List UInt8) × Int × Int) :=
  some (a0, 0, 0)

set_option maxRecDepth 100000 in
theorem m15_r01_New_c {a0 : List UInt8} {r : (List UInt8) × Int × Int} (h : m15_r01_New a0 = some r) : CallsB Try.prog 15 [] [.one (.sl a0.length (a0.flatMap eU8))] (fun y m' => y = .s (.one (.lp 0 0)) ∧ m' = [.box [.sl r.1.length (r.1.flatMap eU8), .i .i64 r.2.1, .i .i64 r.2.2]]) := by
  unfold m15_r01_New at h
  refine callsB_of Try.func15 rfl (nt := 6) rfl (Nat.le_of_ble_eq_true rfl) ?_
  intro w0 S0 X0 H0
  refine cseq ?_
  refine cregion ?_
  refine sv rfl (opv_as rfl) ?_
  refine snil ?_
  refine cseq ?_
  refine cregion ?_
  refine sv rfl (opv_mv rfl) ?_
  refine sv rfl (opv_build zi41 pi41 (parts_cons rfl parts_nil) (.cons _ _ _ _ _ _ _ rfl rfl (Nat.le_of_ble_eq_true rfl) (.nil _))) ?_
  refine sbox rfl rfl ?_
  refine sv rfl (opv_as rfl) ?_
  refine snil ?_
  refine cret ?_
  obtain rfl := Option.some.inj h
  exact ⟨Or.inr rfl, _, [0], [.one (.lp 0 0)], [.box [.sl a0.length (a0.flatMap eU8), .i .i64 0, .i .i64 0]], (resVs_cons (ResV.tmp _ _ rfl) resVs_nil), rfl, rfl, ⟨by decide, rfl⟩, rfl, rfl, ⟨rfl, rfl⟩⟩


end Go.Proofs.Ytlfgbpkigdmjdaa.Abs
