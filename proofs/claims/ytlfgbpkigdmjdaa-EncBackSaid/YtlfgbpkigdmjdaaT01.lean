/-
  t
-/
import Derived.Test.YtlfgbpkigdmjdaaT01a
namespace Go.Proofs.Ytlfgbpkigdmjdaa.Abs
open Go.RowKit Go.Proofs
def m8_l01_EncSplit_k2 (a0 : List UInt8) (v1 : Bool) (b2 : Unit) : Option Bool :=
  (m14_enc_News a0).bind fun v3 => (m14_enc_News a0).bind fun v4 => (m14_enc_News a0).bind fun v5 => (m16_enc_Reader_Us 1 v3.1 v3.2.1 v3.2.2).bind fun v6 => (m16_enc_Reader_Us 1 v6.2.1 v6.2.2 v3.2.2).bind fun v7 => (m16_enc_Reader_Us 1 v7.2.1 v7.2.2 v3.2.2).bind fun v8 => (m16_enc_Reader_Us 1 v8.2.1 v8.2.2 v3.2.2).bind fun v9 => (m16_enc_Reader_Us 2 v4.1 v4.2.1 v4.2.2).bind fun v10 => (m16_enc_Reader_Us 2 v10.2.1 v10.2.2 v4.2.2).bind fun v11 => (m16_enc_Reader_Us 4 v5.1 v5.2.1 v5.2.2).bind fun v12 => if v1 then (if (decide ((v10.1.toNat : Int) = ((v6.1 + (v7.1 * (256#64))).toNat : Int))) then (if (decide ((v11.1.toNat : Int) = ((v8.1 + (v9.1 * (256#64))).toNat : Int))) then (if (decide ((v12.1.toNat : Int) = ((v10.1 + (v11.1 * (65536#64))).toNat : Int))) then ((m25_enc_Reader_Ats v9.2.1 v9.2.2 v3.2.2).bind fun v13 => if (decide (v13.1 = 4)) then ((m25_enc_Reader_Ats v11.2.1 v11.2.2 v4.2.2).bind fun v14 => if (decide (v14.1 = 4)) then ((m25_enc_Reader_Ats v12.2.1 v12.2.2 v5.2.2).bind fun v15 => some (decide (v15.1 = 4))) else (some false)) else (some false)) else (some false)) else (some false)) else (some false)) else (some false)
def m8_l01_EncSplit (a0 : List UInt8) : Option Bool :=
  (m9_l01_awake).bind fun v1 => if (decide (100 < (a0.length : Int))) then (some v1) else (if (decide ((a0.length : Int) < 4)) then (some v1) else (m8_l01_EncSplit_k2 a0 v1 ()))

set_option maxRecDepth 100000 in
theorem m8_l01_EncSplit_c {a0 : List UInt8} {r : Bool} (h : m8_l01_EncSplit a0 = some r) : CallsA Try.prog 8 [.one (.sl a0.length (a0.flatMap eU8))] (· = .s (.one (.b r))) := by
  unfold m8_l01_EncSplit at h
  refine callsA_of Try.func8 rfl (nt := 84) rfl (Nat.le_of_ble_eq_true rfl) ?_
  intro w0 S0
  refine cseq ?_
  refine cregion ?_
  refine sv rfl (opv_as rfl) ?_
  refine snil ?_
  refine cseq ?_
  refine cregion ?_
  obtain ⟨v1, hv1, h⟩ := bind_eq h
  refine scall1 rfl fn9 opnds_nil (pubA_id rfl) (m9_l01_awake_c hv1) ?_
  refine sv rfl (opv_as rfl) ?_
  refine snil ?_
  refine cseq ?_
  refine cseq ?_
  refine cjoin3 (Unit) (fun b2 => [(0, .s (.one (.sl a0.length (a0.flatMap eU8)))), (3, .s (.one (.b v1)))]) (fun b2 => []) (fun b2 => m8_l01_EncSplit_k2 a0 v1 b2 = some r) (fun _ _ => inbL_of rfl) (fun _ _ => blkinb_of rfl) (fun _ _ => Nat.le_of_ble_eq_true rfl) (fun b2 h => ?_) ?_
  · unfold m8_l01_EncSplit_k2 at h
    refine cseq ?_
    refine cregion ?_
    refine sv rfl (opv_mv rfl) ?_
    obtain ⟨v3, hv3, h⟩ := bind_eq h
    refine scallB (x' := .s (.one (.lp 0 0))) (M' := [.box [.fn 30 [] [.lp 1 0, .lp 2 0], .i .i64 v3.1], .box [.i .i64 v3.2.1], .box [.sl v3.2.2.length (v3.2.2.flatMap eU8)]]) [] rfl fn14 (.func _) (opnds_cons rfl opnds_nil) (m14_enc_News_c hv3) rfl rfl (by decide) rfl rfl rfl ?_
    refine sv rfl (opv_as rfl) ?_
    refine snil ?_
    refine cseq ?_
    refine cregion ?_
    refine sv rfl (opv_mv rfl) ?_
    obtain ⟨v4, hv4, h⟩ := bind_eq h
    refine scallB (x' := .s (.one (.lp 3 0))) (M' := [.box [.fn 30 [] [.lp 1 0, .lp 2 0], .i .i64 v3.1], .box [.i .i64 v3.2.1], .box [.sl v3.2.2.length (v3.2.2.flatMap eU8)], .box [.fn 30 [] [.lp 4 0, .lp 5 0], .i .i64 v4.1], .box [.i .i64 v4.2.1], .box [.sl v4.2.2.length (v4.2.2.flatMap eU8)]]) [] rfl fn14 (.func _) (opnds_cons rfl opnds_nil) (m14_enc_News_c hv4) rfl rfl (by decide) rfl rfl rfl ?_
    refine sv rfl (opv_as rfl) ?_
    refine snil ?_
    refine cseq ?_
    refine cregion ?_
    refine sv rfl (opv_mv rfl) ?_
    obtain ⟨v5, hv5, h⟩ := bind_eq h
    refine scallB (x' := .s (.one (.lp 6 0))) (M' := [.box [.fn 30 [] [.lp 1 0, .lp 2 0], .i .i64 v3.1], .box [.i .i64 v3.2.1], .box [.sl v3.2.2.length (v3.2.2.flatMap eU8)], .box [.fn 30 [] [.lp 4 0, .lp 5 0], .i .i64 v4.1], .box [.i .i64 v4.2.1], .box [.sl v4.2.2.length (v4.2.2.flatMap eU8)], .box [.fn 30 [] [.lp 7 0, .lp 8 0], .i .i64 v5.1], .box [.i .i64 v5.2.1], .box [.sl v5.2.2.length (v5.2.2.flatMap eU8)]]) [] rfl fn14 (.func _) (opnds_cons rfl opnds_nil) (m14_enc_News_c hv5) rfl rfl (by decide) rfl rfl rfl ?_
    refine sv rfl (opv_as rfl) ?_
    refine snil ?_
    refine cseq ?_
    refine cregion ?_
    refine sv rfl (opv_mv rfl) ?_
    obtain ⟨v6, hv6, h⟩ := bind_eq h
    refine scallB (x' := .s (.one (.i .u64 (v6.1.toNat : Int)))) (M' := [.box [.fn 30 [] [.lp 1 0, .lp 2 0], .i .i64 v6.2.1], .box [.i .i64 v6.2.2], .box [.sl v3.2.2.length (v3.2.2.flatMap eU8)], .box [.fn 30 [] [.lp 4 0, .lp 5 0], .i .i64 v4.1], .box [.i .i64 v4.2.1], .box [.sl v4.2.2.length (v4.2.2.flatMap eU8)], .box [.fn 30 [] [.lp 7 0, .lp 8 0], .i .i64 v5.1], .box [.i .i64 v5.2.1], .box [.sl v5.2.2.length (v5.2.2.flatMap eU8)]]) [0, 1, 2] rfl fn16 (.func _) (opnds_cons rfl (opnds_cons rfl opnds_nil)) (m16_enc_Reader_Us_c hv6) rfl rfl (by decide) rfl rfl rfl ?_
    refine sv rfl (opv_as rfl) ?_
    refine snil ?_
    refine cseq ?_
    refine cregion ?_
    refine sv rfl (opv_mv rfl) ?_
    obtain ⟨v7, hv7, h⟩ := bind_eq h
    refine scallB (x' := .s (.one (.i .u64 (v7.1.toNat : Int)))) (M' := [.box [.fn 30 [] [.lp 1 0, .lp 2 0], .i .i64 v7.2.1], .box [.i .i64 v7.2.2], .box [.sl v3.2.2.length (v3.2.2.flatMap eU8)], .box [.fn 30 [] [.lp 4 0, .lp 5 0], .i .i64 v4.1], .box [.i .i64 v4.2.1], .box [.sl v4.2.2.length (v4.2.2.flatMap eU8)], .box [.fn 30 [] [.lp 7 0, .lp 8 0], .i .i64 v5.1], .box [.i .i64 v5.2.1], .box [.sl v5.2.2.length (v5.2.2.flatMap eU8)]]) [0, 1, 2] rfl fn16 (.func _) (opnds_cons rfl (opnds_cons rfl opnds_nil)) (m16_enc_Reader_Us_c hv7) rfl rfl (by decide) rfl rfl rfl ?_
    refine sv rfl (opv_as rfl) ?_
    refine snil ?_
    refine cseq ?_
    refine cregion ?_
    refine sv rfl (opv_mv rfl) ?_
    obtain ⟨v8, hv8, h⟩ := bind_eq h
    refine scallB (x' := .s (.one (.i .u64 (v8.1.toNat : Int)))) (M' := [.box [.fn 30 [] [.lp 1 0, .lp 2 0], .i .i64 v8.2.1], .box [.i .i64 v8.2.2], .box [.sl v3.2.2.length (v3.2.2.flatMap eU8)], .box [.fn 30 [] [.lp 4 0, .lp 5 0], .i .i64 v4.1], .box [.i .i64 v4.2.1], .box [.sl v4.2.2.length (v4.2.2.flatMap eU8)], .box [.fn 30 [] [.lp 7 0, .lp 8 0], .i .i64 v5.1], .box [.i .i64 v5.2.1], .box [.sl v5.2.2.length (v5.2.2.flatMap eU8)]]) [0, 1, 2] rfl fn16 (.func _) (opnds_cons rfl (opnds_cons rfl opnds_nil)) (m16_enc_Reader_Us_c hv8) rfl rfl (by decide) rfl rfl rfl ?_
    refine sv rfl (opv_as rfl) ?_
    refine snil ?_
    refine cseq ?_
    refine cregion ?_
    refine sv rfl (opv_mv rfl) ?_
    obtain ⟨v9, hv9, h⟩ := bind_eq h
    refine scallB (x' := .s (.one (.i .u64 (v9.1.toNat : Int)))) (M' := [.box [.fn 30 [] [.lp 1 0, .lp 2 0], .i .i64 v9.2.1], .box [.i .i64 v9.2.2], .box [.sl v3.2.2.length (v3.2.2.flatMap eU8)], .box [.fn 30 [] [.lp 4 0, .lp 5 0], .i .i64 v4.1], .box [.i .i64 v4.2.1], .box [.sl v4.2.2.length (v4.2.2.flatMap eU8)], .box [.fn 30 [] [.lp 7 0, .lp 8 0], .i .i64 v5.1], .box [.i .i64 v5.2.1], .box [.sl v5.2.2.length (v5.2.2.flatMap eU8)]]) [0, 1, 2] rfl fn16 (.func _) (opnds_cons rfl (opnds_cons rfl opnds_nil)) (m16_enc_Reader_Us_c hv9) rfl rfl (by decide) rfl rfl rfl ?_
    refine sv rfl (opv_as rfl) ?_
    refine snil ?_
    refine cseq ?_
    refine cregion ?_
    refine sv rfl (opv_mv rfl) ?_
    obtain ⟨v10, hv10, h⟩ := bind_eq h
    refine scallB (x' := .s (.one (.i .u64 (v10.1.toNat : Int)))) (M' := [.box [.fn 30 [] [.lp 1 0, .lp 2 0], .i .i64 v9.2.1], .box [.i .i64 v9.2.2], .box [.sl v3.2.2.length (v3.2.2.flatMap eU8)], .box [.fn 30 [] [.lp 4 0, .lp 5 0], .i .i64 v10.2.1], .box [.i .i64 v10.2.2], .box [.sl v4.2.2.length (v4.2.2.flatMap eU8)], .box [.fn 30 [] [.lp 7 0, .lp 8 0], .i .i64 v5.1], .box [.i .i64 v5.2.1], .box [.sl v5.2.2.length (v5.2.2.flatMap eU8)]]) [3, 4, 5] rfl fn16 (.func _) (opnds_cons rfl (opnds_cons rfl opnds_nil)) (m16_enc_Reader_Us_c hv10) rfl rfl (by decide) rfl rfl rfl ?_
    refine sv rfl (opv_as rfl) ?_
    refine snil ?_
    refine cseq ?_
    refine cregion ?_
    refine sv rfl (opv_mv rfl) ?_
    obtain ⟨v11, hv11, h⟩ := bind_eq h
    refine scallB (x' := .s (.one (.i .u64 (v11.1.toNat : Int)))) (M' := [.box [.fn 30 [] [.lp 1 0, .lp 2 0], .i .i64 v9.2.1], .box [.i .i64 v9.2.2], .box [.sl v3.2.2.length (v3.2.2.flatMap eU8)], .box [.fn 30 [] [.lp 4 0, .lp 5 0], .i .i64 v11.2.1], .box [.i .i64 v11.2.2], .box [.sl v4.2.2.length (v4.2.2.flatMap eU8)], .box [.fn 30 [] [.lp 7 0, .lp 8 0], .i .i64 v5.1], .box [.i .i64 v5.2.1], .box [.sl v5.2.2.length (v5.2.2.flatMap eU8)]]) [3, 4, 5] rfl fn16 (.func _) (opnds_cons rfl (opnds_cons rfl opnds_nil)) (m16_enc_Reader_Us_c hv11) rfl rfl (by decide) rfl rfl rfl ?_
    refine sv rfl (opv_as rfl) ?_
    refine snil ?_
    refine cseq ?_
    refine cregion ?_
    refine sv rfl (opv_mv rfl) ?_
    obtain ⟨v12, hv12, h⟩ := bind_eq h
    refine scallB (x' := .s (.one (.i .u64 (v12.1.toNat : Int)))) (M' := [.box [.fn 30 [] [.lp 1 0, .lp 2 0], .i .i64 v9.2.1], .box [.i .i64 v9.2.2], .box [.sl v3.2.2.length (v3.2.2.flatMap eU8)], .box [.fn 30 [] [.lp 4 0, .lp 5 0], .i .i64 v11.2.1], .box [.i .i64 v11.2.2], .box [.sl v4.2.2.length (v4.2.2.flatMap eU8)], .box [.fn 30 [] [.lp 7 0, .lp 8 0], .i .i64 v12.2.1], .box [.i .i64 v12.2.2], .box [.sl v5.2.2.length (v5.2.2.flatMap eU8)]]) [6, 7, 8] rfl fn16 (.func _) (opnds_cons rfl (opnds_cons rfl opnds_nil)) (m16_enc_Reader_Us_c hv12) rfl rfl (by decide) rfl rfl rfl ?_
    refine sv rfl (opv_as rfl) ?_
    refine snil ?_
    refine cseq ?_
    refine cregion ?_
    refine sv rfl (opv_mv rfl) ?_
    refine sv rfl (opv_mv rfl) ?_
    refine ssplit 45 rfl (fun hc => ?_) (fun hc => ?_)
    · replace h := ite_t hc h
      clear hc
      refine son rfl rfl rfl ?_
      refine sv rfl (opv_mv rfl) ?_
      refine son rfl rfl rfl ?_
      refine sv rfl (opv_mv rfl) ?_
      refine son rfl rfl rfl ?_
      refine sv rfl (opv_mv rfl) ?_
      refine son rfl rfl rfl ?_
      refine sv rfl (opv_mul_u64 (a := v7.1) (b := 256#64) rfl rfl rfl rfl) ?_
      refine son rfl rfl rfl ?_
      refine sv rfl (opv_add_u64 (a := v6.1) (b := (v7.1 * (256#64))) rfl rfl rfl rfl) ?_
      refine son rfl rfl rfl ?_
      refine sv rfl (opv_ieql rfl rfl) ?_
      refine sv rfl (opv_pick_t rfl rfl) ?_
      refine sv rfl (opv_mv rfl) ?_
      refine ssplit 53 rfl (fun hc => ?_) (fun hc => ?_)
      · replace h := ite_t hc h
        clear hc
        refine son rfl rfl rfl ?_
        refine sv rfl (opv_mv rfl) ?_
        refine son rfl rfl rfl ?_
        refine sv rfl (opv_mv rfl) ?_
        refine son rfl rfl rfl ?_
        refine sv rfl (opv_mv rfl) ?_
        refine son rfl rfl rfl ?_
        refine sv rfl (opv_mul_u64 (a := v9.1) (b := 256#64) rfl rfl rfl rfl) ?_
        refine son rfl rfl rfl ?_
        refine sv rfl (opv_add_u64 (a := v8.1) (b := (v9.1 * (256#64))) rfl rfl rfl rfl) ?_
        refine son rfl rfl rfl ?_
        refine sv rfl (opv_ieql rfl rfl) ?_
        refine sv rfl (opv_pick_t rfl rfl) ?_
        refine sv rfl (opv_mv rfl) ?_
        refine ssplit 61 rfl (fun hc => ?_) (fun hc => ?_)
        · replace h := ite_t hc h
          clear hc
          refine son rfl rfl rfl ?_
          refine sv rfl (opv_mv rfl) ?_
          refine son rfl rfl rfl ?_
          refine sv rfl (opv_mv rfl) ?_
          refine son rfl rfl rfl ?_
          refine sv rfl (opv_mv rfl) ?_
          refine son rfl rfl rfl ?_
          refine sv rfl (opv_mul_u64 (a := v11.1) (b := 65536#64) rfl rfl rfl rfl) ?_
          refine son rfl rfl rfl ?_
          refine sv rfl (opv_add_u64 (a := v10.1) (b := (v11.1 * (65536#64))) rfl rfl rfl rfl) ?_
          refine son rfl rfl rfl ?_
          refine sv rfl (opv_ieql rfl rfl) ?_
          refine sv rfl (opv_pick_t rfl rfl) ?_
          refine sv rfl (opv_mv rfl) ?_
          refine ssplit 69 rfl (fun hc => ?_) (fun hc => ?_)
          · replace h := ite_t hc h
            clear hc
            refine son rfl rfl rfl ?_
            refine sv rfl (opv_mv rfl) ?_
            refine son rfl rfl rfl ?_
            obtain ⟨v13, hv13, h⟩ := bind_eq h
            refine scallB (x' := .s (.one (.i .i64 v13.1))) (M' := [.box [.fn 30 [] [.lp 1 0, .lp 2 0], .i .i64 v9.2.1], .box [.i .i64 v13.2], .box [.sl v3.2.2.length (v3.2.2.flatMap eU8)], .box [.fn 30 [] [.lp 4 0, .lp 5 0], .i .i64 v11.2.1], .box [.i .i64 v11.2.2], .box [.sl v4.2.2.length (v4.2.2.flatMap eU8)], .box [.fn 30 [] [.lp 7 0, .lp 8 0], .i .i64 v12.2.1], .box [.i .i64 v12.2.2], .box [.sl v5.2.2.length (v5.2.2.flatMap eU8)]]) [0, 1, 2] rfl fn25 (.func _) (opnds_cons rfl opnds_nil) (m25_enc_Reader_Ats_c hv13) rfl rfl (by decide) rfl rfl rfl ?_
            refine son rfl rfl rfl ?_
            refine sv rfl (opv_ieql rfl rfl) ?_
            refine sv rfl (opv_pick_t rfl rfl) ?_
            refine sv rfl (opv_mv rfl) ?_
            refine ssplit 74 rfl (fun hc => ?_) (fun hc => ?_)
            · replace h := ite_t hc h
              clear hc
              refine son rfl rfl rfl ?_
              refine sv rfl (opv_mv rfl) ?_
              refine son rfl rfl rfl ?_
              obtain ⟨v14, hv14, h⟩ := bind_eq h
              refine scallB (x' := .s (.one (.i .i64 v14.1))) (M' := [.box [.fn 30 [] [.lp 1 0, .lp 2 0], .i .i64 v9.2.1], .box [.i .i64 v13.2], .box [.sl v3.2.2.length (v3.2.2.flatMap eU8)], .box [.fn 30 [] [.lp 4 0, .lp 5 0], .i .i64 v11.2.1], .box [.i .i64 v14.2], .box [.sl v4.2.2.length (v4.2.2.flatMap eU8)], .box [.fn 30 [] [.lp 7 0, .lp 8 0], .i .i64 v12.2.1], .box [.i .i64 v12.2.2], .box [.sl v5.2.2.length (v5.2.2.flatMap eU8)]]) [3, 4, 5] rfl fn25 (.func _) (opnds_cons rfl opnds_nil) (m25_enc_Reader_Ats_c hv14) rfl rfl (by decide) rfl rfl rfl ?_
              refine son rfl rfl rfl ?_
              refine sv rfl (opv_ieql rfl rfl) ?_
              refine sv rfl (opv_pick_t rfl rfl) ?_
              refine sv rfl (opv_mv rfl) ?_
              refine ssplit 79 rfl (fun hc => ?_) (fun hc => ?_)
              · replace h := ite_t hc h
                clear hc
                refine son rfl rfl rfl ?_
                refine sv rfl (opv_mv rfl) ?_
                refine son rfl rfl rfl ?_
                obtain ⟨v15, hv15, h⟩ := bind_eq h
                refine scallB (x' := .s (.one (.i .i64 v15.1))) (M' := [.box [.fn 30 [] [.lp 1 0, .lp 2 0], .i .i64 v9.2.1], .box [.i .i64 v13.2], .box [.sl v3.2.2.length (v3.2.2.flatMap eU8)], .box [.fn 30 [] [.lp 4 0, .lp 5 0], .i .i64 v11.2.1], .box [.i .i64 v14.2], .box [.sl v4.2.2.length (v4.2.2.flatMap eU8)], .box [.fn 30 [] [.lp 7 0, .lp 8 0], .i .i64 v12.2.1], .box [.i .i64 v15.2], .box [.sl v5.2.2.length (v5.2.2.flatMap eU8)]]) [6, 7, 8] rfl fn25 (.func _) (opnds_cons rfl opnds_nil) (m25_enc_Reader_Ats_c hv15) rfl rfl (by decide) rfl rfl rfl ?_
                refine son rfl rfl rfl ?_
                refine sv rfl (opv_ieql rfl rfl) ?_
                refine sv rfl (opv_pick_t rfl rfl) ?_
                refine sv rfl (opv_as rfl) ?_
                refine snil ?_
                refine cret ?_
                obtain rfl := Option.some.inj h
                refine ⟨Or.inr rfl, _, _, _, (resVs_cons (ResV.tmp _ _ rfl) resVs_nil), (pubA_id rfl), ?_⟩
                rfl
              · replace h := ite_f hc h
                clear hc
                refine soff rfl rfl rfl rfl ?_
                refine soff rfl rfl rfl rfl ?_
                refine soff rfl rfl rfl rfl ?_
                refine sv rfl (opv_pick_f rfl rfl) ?_
                refine sv rfl (opv_as rfl) ?_
                refine snil ?_
                refine cret ?_
                obtain rfl := Option.some.inj h
                refine ⟨Or.inr rfl, _, _, _, (resVs_cons (ResV.tmp _ _ rfl) resVs_nil), (pubA_id rfl), ?_⟩
                rfl
            · replace h := ite_f hc h
              clear hc
              refine soff rfl rfl rfl rfl ?_
              refine soff rfl rfl rfl rfl ?_
              refine soff rfl rfl rfl rfl ?_
              refine sv rfl (opv_pick_f rfl rfl) ?_
              refine sv rfl (opv_mv rfl) ?_
              refine soff rfl rfl rfl rfl ?_
              refine soff rfl rfl rfl rfl ?_
              refine soff rfl rfl rfl rfl ?_
              refine sv rfl (opv_pick_f rfl rfl) ?_
              refine sv rfl (opv_as rfl) ?_
              refine snil ?_
              refine cret ?_
              obtain rfl := Option.some.inj h
              refine ⟨Or.inr rfl, _, _, _, (resVs_cons (ResV.tmp _ _ rfl) resVs_nil), (pubA_id rfl), ?_⟩
              rfl
          · replace h := ite_f hc h
            clear hc
            refine soff rfl rfl rfl rfl ?_
            refine soff rfl rfl rfl rfl ?_
            refine soff rfl rfl rfl rfl ?_
            refine sv rfl (opv_pick_f rfl rfl) ?_
            refine sv rfl (opv_mv rfl) ?_
            refine soff rfl rfl rfl rfl ?_
            refine soff rfl rfl rfl rfl ?_
            refine soff rfl rfl rfl rfl ?_
            refine sv rfl (opv_pick_f rfl rfl) ?_
            refine sv rfl (opv_mv rfl) ?_
            refine soff rfl rfl rfl rfl ?_
            refine soff rfl rfl rfl rfl ?_
            refine soff rfl rfl rfl rfl ?_
            refine sv rfl (opv_pick_f rfl rfl) ?_
            refine sv rfl (opv_as rfl) ?_
            refine snil ?_
            refine cret ?_
            obtain rfl := Option.some.inj h
            refine ⟨Or.inr rfl, _, _, _, (resVs_cons (ResV.tmp _ _ rfl) resVs_nil), (pubA_id rfl), ?_⟩
            rfl
        · replace h := ite_f hc h
          clear hc
          refine soff rfl rfl rfl rfl ?_
          refine soff rfl rfl rfl rfl ?_
          refine soff rfl rfl rfl rfl ?_
          refine soff rfl rfl rfl rfl ?_
          refine soff rfl rfl rfl rfl ?_
          refine soff rfl rfl rfl rfl ?_
          refine sv rfl (opv_pick_f rfl rfl) ?_
          refine sv rfl (opv_mv rfl) ?_
          refine soff rfl rfl rfl rfl ?_
          refine soff rfl rfl rfl rfl ?_
          refine soff rfl rfl rfl rfl ?_
          refine sv rfl (opv_pick_f rfl rfl) ?_
          refine sv rfl (opv_mv rfl) ?_
          refine soff rfl rfl rfl rfl ?_
          refine soff rfl rfl rfl rfl ?_
          refine soff rfl rfl rfl rfl ?_
          refine sv rfl (opv_pick_f rfl rfl) ?_
          refine sv rfl (opv_mv rfl) ?_
          refine soff rfl rfl rfl rfl ?_
          refine soff rfl rfl rfl rfl ?_
          refine soff rfl rfl rfl rfl ?_
          refine sv rfl (opv_pick_f rfl rfl) ?_
          refine sv rfl (opv_as rfl) ?_
          refine snil ?_
          refine cret ?_
          obtain rfl := Option.some.inj h
          refine ⟨Or.inr rfl, _, _, _, (resVs_cons (ResV.tmp _ _ rfl) resVs_nil), (pubA_id rfl), ?_⟩
          rfl
      · replace h := ite_f hc h
        clear hc
        refine soff rfl rfl rfl rfl ?_
        refine soff rfl rfl rfl rfl ?_
        refine soff rfl rfl rfl rfl ?_
        refine soff rfl rfl rfl rfl ?_
        refine soff rfl rfl rfl rfl ?_
        refine soff rfl rfl rfl rfl ?_
        refine sv rfl (opv_pick_f rfl rfl) ?_
        refine sv rfl (opv_mv rfl) ?_
        refine soff rfl rfl rfl rfl ?_
        refine soff rfl rfl rfl rfl ?_
        refine soff rfl rfl rfl rfl ?_
        refine soff rfl rfl rfl rfl ?_
        refine soff rfl rfl rfl rfl ?_
        refine soff rfl rfl rfl rfl ?_
        refine sv rfl (opv_pick_f rfl rfl) ?_
        refine sv rfl (opv_mv rfl) ?_
        refine soff rfl rfl rfl rfl ?_
        refine soff rfl rfl rfl rfl ?_
        refine soff rfl rfl rfl rfl ?_
        refine sv rfl (opv_pick_f rfl rfl) ?_
        refine sv rfl (opv_mv rfl) ?_
        refine soff rfl rfl rfl rfl ?_
        refine soff rfl rfl rfl rfl ?_
        refine soff rfl rfl rfl rfl ?_
        refine sv rfl (opv_pick_f rfl rfl) ?_
        refine sv rfl (opv_mv rfl) ?_
        refine soff rfl rfl rfl rfl ?_
        refine soff rfl rfl rfl rfl ?_
        refine soff rfl rfl rfl rfl ?_
        refine sv rfl (opv_pick_f rfl rfl) ?_
        refine sv rfl (opv_as rfl) ?_
        refine snil ?_
        refine cret ?_
        obtain rfl := Option.some.inj h
        refine ⟨Or.inr rfl, _, _, _, (resVs_cons (ResV.tmp _ _ rfl) resVs_nil), (pubA_id rfl), ?_⟩
        rfl
    · replace h := ite_f hc h
      clear hc
      refine soff rfl rfl rfl rfl ?_
      refine soff rfl rfl rfl rfl ?_
      refine soff rfl rfl rfl rfl ?_
      refine soff rfl rfl rfl rfl ?_
      refine soff rfl rfl rfl rfl ?_
      refine soff rfl rfl rfl rfl ?_
      refine sv rfl (opv_pick_f rfl rfl) ?_
      refine sv rfl (opv_mv rfl) ?_
      refine soff rfl rfl rfl rfl ?_
      refine soff rfl rfl rfl rfl ?_
      refine soff rfl rfl rfl rfl ?_
      refine soff rfl rfl rfl rfl ?_
      refine soff rfl rfl rfl rfl ?_
      refine soff rfl rfl rfl rfl ?_
      refine sv rfl (opv_pick_f rfl rfl) ?_
      refine sv rfl (opv_mv rfl) ?_
      refine soff rfl rfl rfl rfl ?_
      refine soff rfl rfl rfl rfl ?_
      refine soff rfl rfl rfl rfl ?_
      refine soff rfl rfl rfl rfl ?_
      refine soff rfl rfl rfl rfl ?_
      refine soff rfl rfl rfl rfl ?_
      refine sv rfl (opv_pick_f rfl rfl) ?_
      refine sv rfl (opv_mv rfl) ?_
      refine soff rfl rfl rfl rfl ?_
      refine soff rfl rfl rfl rfl ?_
      refine soff rfl rfl rfl rfl ?_
      refine sv rfl (opv_pick_f rfl rfl) ?_
      refine sv rfl (opv_mv rfl) ?_
      refine soff rfl rfl rfl rfl ?_
      refine soff rfl rfl rfl rfl ?_
      refine soff rfl rfl rfl rfl ?_
      refine sv rfl (opv_pick_f rfl rfl) ?_
      refine sv rfl (opv_mv rfl) ?_
      refine soff rfl rfl rfl rfl ?_
      refine soff rfl rfl rfl rfl ?_
      refine soff rfl rfl rfl rfl ?_
      refine sv rfl (opv_pick_f rfl rfl) ?_
      refine sv rfl (opv_as rfl) ?_
      refine snil ?_
      refine cret ?_
      obtain rfl := Option.some.inj h
      refine ⟨Or.inr rfl, _, _, _, (resVs_cons (ResV.tmp _ _ rfl) resVs_nil), (pubA_id rfl), ?_⟩
      rfl
  · skip
    refine cregion ?_
    refine sv rfl (opv_mv rfl) ?_
    refine sv rfl (opv_len_sl si22 rfl) ?_
    refine sv rfl (opv_gtr rfl rfl) ?_
    refine sv rfl (opv_mv rfl) ?_
    refine ssplit 18 rfl (fun hc => ?_) (fun hc => ?_)
    · replace h := ite_t hc h
      clear hc
      refine soff rfl rfl rfl rfl ?_
      refine soff rfl rfl rfl rfl ?_
      refine soff rfl rfl rfl rfl ?_
      refine sv rfl (opv_pick_t rfl rfl) ?_
      refine snil ?_
      refine ccond rfl (fun _ => ?_) (fun hx => Bool.noConfusion hx)
      refine cseq ?_
      refine cregion ?_
      refine sv rfl (opv_mv rfl) ?_
      refine sv rfl (opv_as rfl) ?_
      refine snil ?_
      refine cret ?_
      refine then_ret ?_
      obtain rfl := Option.some.inj h
      refine ⟨Or.inr rfl, _, _, _, (resVs_cons (ResV.tmp _ _ rfl) resVs_nil), (pubA_id rfl), ?_⟩
      rfl
    · replace h := ite_f hc h
      clear hc
      refine son rfl rfl rfl ?_
      refine sv rfl (opv_mv rfl) ?_
      refine son rfl rfl rfl ?_
      refine sv rfl (opv_len_sl si22 rfl) ?_
      refine son rfl rfl rfl ?_
      refine sv rfl (opv_lss rfl rfl) ?_
      refine sv rfl (opv_pick_f rfl rfl) ?_
      refine snil ?_
      refine ccond rfl (fun hc => ?_) (fun hc => ?_)
      · replace h := ite_t hc h
        clear hc
        refine cseq ?_
        refine cregion ?_
        refine sv rfl (opv_mv rfl) ?_
        refine sv rfl (opv_as rfl) ?_
        refine snil ?_
        refine cret ?_
        refine then_ret ?_
        obtain rfl := Option.some.inj h
        refine ⟨Or.inr rfl, _, _, _, (resVs_cons (ResV.tmp _ _ rfl) resVs_nil), (pubA_id rfl), ?_⟩
        rfl
      · replace h := ite_f hc h
        clear hc
        refine cskip ?_
        refine then_normal ?_
        exact ⟨(), _, h, ⟨rfl, rfl, trivial⟩, rfl⟩

def m14_enc_New (a0 : List UInt8) : Option (Int × Int × (List UInt8)) :=
  some (0, 0, a0)

set_option maxRecDepth 100000 in
theorem m14_enc_New_c {a0 : List UInt8} {r : Int × Int × (List UInt8)} (h : m14_enc_New a0 = some r) : CallsB Try.prog 14 [] [.one (.sl a0.length (a0.flatMap eU8))] (fun y m' => y = .s (.one (.lp 0 0)) ∧ m' = [.box [.fn 30 [] [.lp 1 0, .lp 2 0], .i .i64 r.1], .box [.i .i64 r.2.1], .box [.sl r.2.2.length (r.2.2.flatMap eU8)]]) := by
  unfold m14_enc_New at h
  refine callsB_of Try.func14 rfl (nt := 7) rfl (Nat.le_of_ble_eq_true rfl) ?_
  intro w0 S0 X0 H0
  refine cseq ?_
  refine cregion ?_
  refine sbox rfl rfl ?_
  refine sv rfl (opv_as rfl) ?_
  refine snil ?_
  refine cseq ?_
  refine cregion ?_
  refine salloc rfl zi3 ?_
  refine sstore sz3 rfl rfl rfl rfl (Nat.le_of_ble_eq_true rfl) ?_
  refine smem [.box [.sl a0.length (a0.flatMap eU8)], .box [.i .i64 0]] rfl ?_
  refine snil ?_
  refine cseq ?_
  refine cregion ?_
  refine sv rfl (opv_makeFunc opnds1_nil (opnds1_cons rfl rfl (opnds1_cons rfl rfl opnds1_nil))) ?_
  refine sv rfl (opv_build zi54 pi54 (parts_cons rfl parts_nil) (.cons _ _ _ _ _ _ _ rfl rfl (Nat.le_of_ble_eq_true rfl) (.nil _))) ?_
  refine sbox rfl rfl ?_
  refine sv rfl (opv_as rfl) ?_
  refine snil ?_
  refine cret ?_
  obtain rfl := Option.some.inj h
  exact ⟨Or.inr rfl, _, [2, 1, 0], [.one (.lp 0 0)], [.box [.fn 30 [] [.lp 1 0, .lp 2 0], .i .i64 0], .box [.i .i64 0], .box [.sl a0.length (a0.flatMap eU8)]], (resVs_cons (ResV.tmp _ _ rfl) resVs_nil), rfl, rfl, ⟨by decide, rfl⟩, rfl, rfl, ⟨rfl, rfl⟩⟩

def m15_r01_New (a0 : List UInt8) : Option ((List UInt8) × Int × Int) :=
  some (a0, 0, 0)

set_option maxRecDepth 100000 in
theorem m15_r01_New_c {a0 : List UInt8} {r : (List UInt8) × Int × Int} (h : m15_r01_New a0 = some r) : CallsB Try.prog 15 [] [.one (.sl a0.length (a0.flatMap eU8))] (fun y m' => y = .s (.one (.lp 0 0)) ∧ m' = [.box [.sl r.1.length (r.1.flatMap eU8), .i .i64 r.2.1, .i .i64 r.2.2]]) := by
  unfold m15_r01_New at h
  refine callsB_of Try.func15 rfl (nt := 6) rfl (Nat.le_of_ble_eq_true rfl) ?_
  intro w0 S0 X0 H0
  refine cseq ?_
  refine cregion ?_
  refine sv rfl (opv_as rfl) ?_
  refine snil ?_
  refine cseq ?_
  refine cregion ?_
  refine sv rfl (opv_mv rfl) ?_
  refine sv rfl (opv_build zi41 pi41 (parts_cons rfl parts_nil) (.cons _ _ _ _ _ _ _ rfl rfl (Nat.le_of_ble_eq_true rfl) (.nil _))) ?_
  refine sbox rfl rfl ?_
  refine sv rfl (opv_as rfl) ?_
  refine snil ?_
  refine cret ?_
  obtain rfl := Option.some.inj h
  exact ⟨Or.inr rfl, _, [0], [.one (.lp 0 0)], [.box [.sl a0.length (a0.flatMap eU8), .i .i64 0, .i .i64 0]], (resVs_cons (ResV.tmp _ _ rfl) resVs_nil), rfl, rfl, ⟨by decide, rfl⟩, rfl, rfl, ⟨rfl, rfl⟩⟩

def m29_slices_Concat_k3 (b3 : (List UInt8)) : Option (List UInt8) :=
  some b3

def m29_slices_Concat_s4 (a0 : List (List UInt8)) (s4 : Int × (List UInt8)) : Option (LB (Int × (List UInt8)) ((List UInt8))) :=
  if (decide (s4.1 < (a0.length : Int))) then ((idx a0 s4.1).bind fun u5 => if (s4.2.length + u5.length) * 1 ≤ 140737488355328 then (some (.cont ((wI (s4.1 + 1)), (s4.2 ++ u5)))) else none) else (some (.brk s4.2))

def m29_slices_Concat_k1 (a0 : List (List UInt8)) (b1 : Int) : Option (List UInt8) :=
  (m35_slices_Growo b1).bind fun v2 => (iterB (m29_slices_Concat_s4 a0) fuel (0, v2)).bind fun e7 => m29_slices_Concat_k3 e7

def m29_slices_Concat_s8 (a0 : List (List UInt8)) (s8 : Int × Int) : Option (LB (Int × Int) (Int)) :=
  if (decide (s8.2 < (a0.length : Int))) then ((idx a0 s8.2).bind fun u9 => if (decide ((wI (s8.1 + (u9.length : Int))) < 0)) then none else (some (.cont ((wI (s8.1 + (u9.length : Int))), (wI (s8.2 + 1)))))) else (some (.brk s8.1))
def m29_slices_Concat (a0 : List (List UInt8)) : Option (List UInt8) :=
  (iterB (m29_slices_Concat_s8 a0) fuel (0, 0)).bind fun e10 => m29_slices_Concat_k1 a0 e10

set_option maxRecDepth 100000 in
theorem m29_slices_Concat_c {a0 : List (List UInt8)} {r : (List UInt8)} (h : m29_slices_Concat a0 = some r) : CallsA Try.prog 29 [.one (.sl a0.length (a0.flatMap (eL eU8)))] (· = .s (.one (.sl r.length (r.flatMap eU8)))) := by
  unfold m29_slices_Concat at h
  refine callsA_of Try.func29 rfl (nt := 36) rfl (Nat.le_of_ble_eq_true rfl) ?_
  intro w0 S0
  refine cseq ?_
  refine cregion ?_
  refine sv rfl (opv_as rfl) ?_
  refine snil ?_
  refine cseq ?_
  refine cregion ?_
  refine sv rfl (opv_as rfl) ?_
  refine snil ?_
  refine cseq ?_
  refine cseq ?_
  refine cregion ?_
  refine sv rfl (opv_mv rfl) ?_
  refine sv rfl (opv_len_sl si45 rfl) ?_
  refine sv rfl (opv_mv rfl) ?_
  refine snil ?_
  refine cjoin (Int) (fun b1 => [(0, .s (.one (.sl a0.length (a0.flatMap (eL eU8))))), (3, .s (.one (.i .i64 b1)))]) (fun b1 => []) (fun b1 => m29_slices_Concat_k1 a0 b1 = some r) (fun _ _ => inbL_of rfl) (fun _ _ => blkinb_of rfl) (fun _ _ => Nat.le_of_ble_eq_true rfl) (fun b1 h => ?_) ?_
  · unfold m29_slices_Concat_k1 at h
    refine cseq ?_
    refine cregion ?_
    refine sv rfl (opv_mv rfl) ?_
    obtain ⟨v2, hv2, h⟩ := bind_eq h
    refine scallB (x' := .s (.one (.ls 0 v2.length))) (M' := [.arr 5 1 0 (v2.flatMap eU8)]) [] rfl fn35 (.func _) (opnds_cons rfl (opnds_cons rfl opnds_nil)) (m35_slices_Growo_c hv2) rfl rfl (by decide) rfl rfl rfl ?_
    refine sv rfl (opv_as rfl) ?_
    refine snil ?_
    refine cseq ?_
    refine cseq ?_
    refine cregion ?_
    refine sv rfl (opv_mv rfl) ?_
    refine sv rfl (opv_len_sl si45 rfl) ?_
    refine sv rfl (opv_mv rfl) ?_
    refine snil ?_
    refine cjoin ((List UInt8)) (fun b3 => [(6, .s (.one (.ls 0 b3.length)))]) (fun b3 => [.arr 5 1 0 (b3.flatMap eU8)]) (fun b3 => m29_slices_Concat_k3 b3 = some r) (fun _ _ => inbL_of rfl) (fun _ _ => blkinb_of rfl) (fun _ _ => Nat.le_of_ble_eq_true rfl) (fun b3 h => ?_) ?_
    · unfold m29_slices_Concat_k3 at h
      refine cseq ?_
      refine cregion ?_
      refine sv rfl (opv_mv rfl) ?_
      refine sv rfl (opv_as rfl) ?_
      refine snil ?_
      refine cret ?_
      obtain rfl := Option.some.inj h
      refine ⟨Or.inr rfl, _, _, _, (resVs_cons (ResV.tmp _ _ rfl) resVs_nil), (by (repeat' first | exact PubA.nil _ | apply PubA.cons | apply PubV.one | apply PubV.agg | exact PubL.nil | exact PubL.ls _ _ _ _ _ _ rfl (flat_len (f := eU8) (fun _ => rfl) _).symm | exact PubL.id _ rfl | exact PubLs.nil _ | apply PubLs.cons)), ?_⟩
      rfl
    · skip
      refine cblock ?_
      obtain ⟨x4, hx4, ho4⟩ := bind_eq h
      refine awc_loop (G := Nat × (Int × (List UInt8))) (fun g => [(6, .s (.one (.ls 0 g.2.2.length))), (25, .s (.one (.sl a0.length (a0.flatMap (eL eU8))))), (26, .s (.one (.i .i64 (a0.length : Int)))), (27, .s (.one (.i .i64 g.2.1)))]) (fun g => [.arr 5 1 0 (g.2.2.flatMap eU8)]) (fun g => iterB (m29_slices_Concat_s4 a0) g.1 g.2 = some x4) (fun g => g.1) (fuel, (0, v2)) hx4 ⟨rfl, rfl, rfl, rfl, trivial⟩ [] rfl (fun _ _ => inbL_of rfl) (fun _ _ => blkinb_of rfl) (fun _ _ => Nat.le_of_ble_eq_true rfl) ?_
      clear hx4 h
      rintro ⟨n4, s4⟩ h
      obtain ⟨n4, y4, rfl, h, hk4⟩ := iterB_eq h
      unfold m29_slices_Concat_s4 at h
      refine cseq ?_
      refine cregion ?_
      refine sv rfl (opv_lss rfl rfl) ?_
      refine snil ?_
      refine cseq ?_
      refine ccond rfl (fun hc => ?_) (fun hc => ?_)
      · replace h := ite_t hc h
        clear hc
        refine cskip ?_
        refine then_normal ?_
        refine cseq ?_
        refine cblock ?_
        refine cseq ?_
        refine cregion ?_
        obtain ⟨u5, hu5, h⟩ := bind_eq h
        refine sv rfl (opv_ix (f := (eL eU8)) si45 (fun _ => rfl) rfl rfl rfl rfl hu5) ?_
        refine sv rfl (opv_load1 ti22 rfl (.cp _) rfl) ?_
        refine sv rfl (opv_as rfl) ?_
        refine snil ?_
        refine cregion ?_
        refine sv rfl (opv_mv rfl) ?_
        refine sv rfl (opv_mv rfl) ?_
        obtain ⟨hb6, h⟩ := chk_eq h
        refine sapp (f := eU8) (xs := s4.2) (us := u5) rfl Try.underlying22 ei5 ni22 (fun _ => rfl) rfl rfl (.one _ _ _ _ (.id _ rfl)) rfl rfl rfl (.sl _ _ _ (flat_len (f := eU8) (fun _ => rfl) _)) rfl rfl hb6 (by decide) ?_
        refine sv rfl (opv_as rfl) ?_
        refine snil0 ?_
        refine block_normal ?_
        refine then_normal ?_
        refine cregion ?_
        refine sv rfl (opv_add rfl rfl) ?_
        refine sv rfl (opv_mv rfl) ?_
        refine snil ?_
        obtain rfl := Option.some.inj h
        exact ⟨(n4, ((wI (s4.1 + 1)), (s4.2 ++ u5))), _, hk4, ⟨rfl, rfl, rfl, rfl, trivial⟩, rfl, Nat.lt_succ_self _⟩
      · replace h := ite_f hc h
        clear hc
        refine cexit ?_
        refine then_exit ?_
        refine then_exit ?_
        refine block_hit ?_
        refine then_normal ?_
        obtain rfl := Option.some.inj h
        obtain rfl : _ = x4 := hk4
        exact ⟨s4.2, _, ho4, ⟨rfl, trivial⟩, rfl⟩
  · skip
    refine cblock ?_
    obtain ⟨x8, hx8, ho8⟩ := bind_eq h
    refine awc_loop (G := Nat × (Int × Int)) (fun g => [(0, .s (.one (.sl a0.length (a0.flatMap (eL eU8))))), (3, .s (.one (.i .i64 g.2.1))), (9, .s (.one (.sl a0.length (a0.flatMap (eL eU8))))), (10, .s (.one (.i .i64 (a0.length : Int)))), (11, .s (.one (.i .i64 g.2.2)))]) (fun g => []) (fun g => iterB (m29_slices_Concat_s8 a0) g.1 g.2 = some x8) (fun g => g.1) (fuel, (0, 0)) hx8 ⟨rfl, rfl, rfl, rfl, rfl, trivial⟩ [] rfl (fun _ _ => inbL_of rfl) (fun _ _ => blkinb_of rfl) (fun _ _ => Nat.le_of_ble_eq_true rfl) ?_
    clear hx8 h
    rintro ⟨n8, s8⟩ h
    obtain ⟨n8, y8, rfl, h, hk8⟩ := iterB_eq h
    unfold m29_slices_Concat_s8 at h
    refine cseq ?_
    refine cregion ?_
    refine sv rfl (opv_lss rfl rfl) ?_
    refine snil ?_
    refine cseq ?_
    refine ccond rfl (fun hc => ?_) (fun hc => ?_)
    · replace h := ite_t hc h
      clear hc
      refine cskip ?_
      refine then_normal ?_
      refine cseq ?_
      refine cblock ?_
      refine cseq ?_
      refine cregion ?_
      obtain ⟨u9, hu9, h⟩ := bind_eq h
      refine sv rfl (opv_ix (f := (eL eU8)) si45 (fun _ => rfl) rfl rfl rfl rfl hu9) ?_
      refine sv rfl (opv_load1 ti22 rfl (.cp _) rfl) ?_
      refine sv rfl (opv_as rfl) ?_
      refine snil ?_
      refine cseq ?_
      refine cregion ?_
      refine sv rfl (opv_mv rfl) ?_
      refine sv rfl (opv_mv rfl) ?_
      refine sv rfl (opv_len_sl si22 rfl) ?_
      refine sv rfl (opv_add rfl rfl) ?_
      refine sv rfl (opv_as rfl) ?_
      refine snil ?_
      refine cseq ?_
      refine cregion ?_
      refine sv rfl (opv_mv rfl) ?_
      refine sv rfl (opv_lss rfl rfl) ?_
      refine snil ?_
      refine ccond rfl (fun hc => ?_) (fun hc => ?_)
      · replace h := ite_t hc h
        clear hc
        cases h
      · replace h := ite_f hc h
        clear hc
        refine cskip ?_
        refine block_normal ?_
        refine then_normal ?_
        refine cregion ?_
        refine sv rfl (opv_add rfl rfl) ?_
        refine sv rfl (opv_mv rfl) ?_
        refine snil ?_
        obtain rfl := Option.some.inj h
        exact ⟨(n8, ((wI (s8.1 + (u9.length : Int))), (wI (s8.2 + 1)))), _, hk8, ⟨rfl, rfl, rfl, rfl, rfl, trivial⟩, rfl, Nat.lt_succ_self _⟩
    · replace h := ite_f hc h
      clear hc
      refine cexit ?_
      refine then_exit ?_
      refine then_exit ?_
      refine block_hit ?_
      refine then_normal ?_
      obtain rfl := Option.some.inj h
      obtain rfl : _ = x8 := hk8
      exact ⟨s8.1, _, ho8, ⟨rfl, rfl, trivial⟩, rfl⟩

def m33_slices_Clone (a0 : List UInt8) : Option (List UInt8) :=
  if (([] : List UInt8).length + a0.length) * 1 ≤ 140737488355328 then (some (([] : List UInt8) ++ a0)) else none

set_option maxRecDepth 100000 in
theorem m33_slices_Clone_c {a0 : List UInt8} {r : (List UInt8)} (h : m33_slices_Clone a0 = some r) : CallsA Try.prog 33 [.one (.sl a0.length (a0.flatMap eU8))] (· = .s (.one (.sl r.length (r.flatMap eU8)))) := by
  unfold m33_slices_Clone at h
  refine callsA_of Try.func33 rfl (nt := 8) rfl (Nat.le_of_ble_eq_true rfl) ?_
  intro w0 S0
  refine cseq ?_
  refine cregion ?_
  refine sv rfl (opv_as rfl) ?_
  refine snil ?_
  refine cseq ?_
  refine cseq ?_
  refine cregion ?_
  refine sv rfl (opv_mv rfl) ?_
  refine snilq rfl Try.underlying22 rfl (fun nq hnq => ?_)
  cases nq
  · skip
    refine snil ?_
    refine ccond rfl (fun hx => Bool.noConfusion hx) (fun _ => ?_)
    refine cskip ?_
    refine then_normal ?_
    refine cseq ?_
    refine cregion ?_
    refine sbuild0 rfl Try.underlying22 ei5 ?_
    refine sv rfl (opv_mv rfl) ?_
    obtain ⟨hb1, h⟩ := chk_eq h
    refine sapp (f := eU8) (xs := ([] : List UInt8)) (us := a0) rfl Try.underlying22 ei5 ni22 (fun _ => rfl) rfl rfl (.one _ _ _ _ (.id _ rfl)) rfl rfl rfl (.sl _ _ _ (flat_len (f := eU8) (fun _ => rfl) _)) rfl rfl hb1 (by decide) ?_
    refine sv rfl (opv_as rfl) ?_
    refine snil ?_
    refine cret ?_
    obtain rfl := Option.some.inj h
    refine ⟨Or.inr rfl, _, _, _, (resVs_cons (ResV.tmp _ _ rfl) resVs_nil), (by (repeat' first | exact PubA.nil _ | apply PubA.cons | apply PubV.one | apply PubV.agg | exact PubL.nil | exact PubL.ls _ _ _ _ _ _ rfl (flat_len (f := eU8) (fun _ => rfl) _).symm | exact PubL.id _ rfl | exact PubLs.nil _ | apply PubLs.cons)), ?_⟩
    rfl
  · obtain rfl := List.eq_nil_of_length_eq_zero (hnq rfl)
    replace h : (some ([] : List UInt8)) = some r := by first | exact h | (rw [if_pos (by decide)] at h; exact h)
    refine snil ?_
    refine ccond rfl (fun _ => ?_) (fun hx => Bool.noConfusion hx)
    refine cseq ?_
    refine cregion ?_
    refine sv rfl (opv_as rfl) ?_
    refine snil ?_
    refine cret ?_
    refine then_ret ?_
    obtain rfl := Option.some.inj h
    refine ⟨Or.inr rfl, _, _, _, (resVs_cons (ResV.tmp _ _ rfl) resVs_nil), (pubC rfl), ?_⟩
    rfl


end Go.Proofs.Ytlfgbpkigdmjdaa.Abs
