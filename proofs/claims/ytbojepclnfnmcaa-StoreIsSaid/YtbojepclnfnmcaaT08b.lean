/-
  t
-/
import Derived.Test.YtbojepclnfnmcaaT08a
namespace Go.Proofs.Ytbojepclnfnmcaa.Abs
open Go.RowKit Go.Proofs
def m21_store_Scan (a0 : GStoreStore) (a1 : GApiRange) (a2 : Int) (a3 : Int) : Option (List GApiKV) :=
  (m23_store_Sane a0).bind fun v1 => if (!v1) then (some ([] : List GApiKV)) else ((iterB (m21_store_Scan_s3 a0 a1 a2 a3) fuel (0, ([] : List GApiKV))).bind fun e9 => m21_store_Scan_k2 e9)

set_option maxRecDepth 100000 in
theorem m21_store_Scan_c {a0 : GStoreStore} {a1 : GApiRange} {a2 : Int} {a3 : Int} {r : (List GApiKV)} (h : m21_store_Scan a0 a1 a2 a3 = some r) : CallsA Try.prog 21 [.agg a0, .agg a1, .one (.i .i64 a2), .one (.i .i64 a3)] (· = .s (.one (.sl r.length (r.flatMap eGApiKV)))) := by
  unfold m21_store_Scan at h
  refine callsA_of Try.func21 rfl (nt := 54) rfl (Nat.le_of_ble_eq_true rfl) ?_
  intro w0 S0
  refine cseq ?_
  refine cregion ?_
  refine sbox rfl rfl ?_
  refine sbox rfl rfl ?_
  refine sv rfl (opv_as rfl) ?_
  refine snil ?_
  refine cscope (fun _ _ h => by rcases h with ⟨h | h, _⟩ <;> cases h) ?_
  refine cseq ?_
  refine cseq ?_
  refine cregion ?_
  refine sv rfl (opv_loadN ti36 rfl (.lp _ _ _ rfl) (Nat.le_of_ble_eq_true rfl)) ?_
  obtain ⟨v1, hv1, h⟩ := bind_eq h
  refine scall1 rfl fn23 (opnds_cons rfl opnds_nil) (pubA_id rfl) (m23_store_Sane_c hv1) ?_
  refine sv rfl (opv_not rfl) ?_
  refine snil ?_
  refine ccond rfl (fun hc => ?_) (fun hc => ?_)
  · replace h := ite_t hc h
    clear hc
    refine cseq ?_
    refine cregion ?_
    refine sv rfl (opv_as rfl) ?_
    refine snil ?_
    refine cret ?_
    refine then_ret ?_
    obtain rfl := Option.some.inj h
    refine ⟨Or.inr rfl, _, _, _, (resVs_cons (ResV.tmp _ _ rfl) resVs_nil), (pubC rfl), ?_⟩
    rfl
  · replace h := ite_f hc h
    clear hc
    refine cskip ?_
    refine then_normal ?_
    refine cseq ?_
    refine cregion ?_
    refine sv rfl (opv_as rfl) ?_
    refine snil ?_
    refine cseq ?_
    refine clabel ?_
    refine then_normal ?_
    refine cseq ?_
    refine cseq ?_
    refine cregion ?_
    refine sv rfl (opv_fieldAddr_lp fi36_0 rfl) ?_
    refine sv rfl (opv_load1 ti22 rfl (.lp _ _ _ rfl) rfl) ?_
    refine sv rfl (opv_len_sl si22 rfl) ?_
    refine sv rfl (opv_mv rfl) ?_
    refine snil ?_
    refine sadopt_c 71 2 9 (by decide) rfl ?_
    refine cjoin ((List GApiKV)) (fun b2 => [(9, .s (.one (.ls 2 b2.length)))]) (fun b2 => [.box a0, .box a1, .arr 71 2 0 (b2.flatMap eGApiKV)]) (fun b2 => m21_store_Scan_k2 b2 = some r) (fun _ _ => inbL_of rfl) (fun _ _ => blkinb_of rfl) (fun _ _ => Nat.le_of_ble_eq_true rfl) (fun b2 h => ?_) ?_
    · unfold m21_store_Scan_k2 at h
      refine cseq ?_
      refine cregion ?_
      refine sv rfl (opv_mv rfl) ?_
      refine sv rfl (opv_as rfl) ?_
      refine snil ?_
      refine cret ?_
      obtain rfl := Option.some.inj h
      refine ⟨Or.inr rfl, _, _, _, (resVs_cons (ResV.tmp _ _ rfl) resVs_nil), (by (repeat' first | exact PubA.nil _ | apply PubA.cons | apply PubV.one | apply PubV.agg | exact PubL.nil | exact PubL.ls _ _ _ _ _ _ rfl (flat_len (f := eGApiKV) (fun _ => rfl) _).symm | exact PubL.id _ rfl | exact PubLs.nil _ | apply PubLs.cons)), ?_⟩
      rfl
    · skip
      refine cblock ?_
      obtain ⟨x3, hx3, ho3⟩ := bind_eq h
      refine awc_loop (G := Nat × (Int × (List GApiKV))) (fun g => [(2, .s (.one (.i .i64 a2))), (3, .s (.one (.i .i64 a3))), (4, .s (.one (.lp 0 0))), (5, .s (.one (.lp 1 0))), (9, .s (.one (.ls 2 g.2.2.length))), (18, .s (.one (.sl a0.Keys.length (a0.Keys.flatMap (eL eU8))))), (19, .s (.one (.i .i64 (a0.Keys.length : Int)))), (20, .s (.one (.i .i64 g.2.1)))]) (fun g => [.box a0, .box a1, .arr 71 2 0 (g.2.2.flatMap eGApiKV)]) (fun g => iterB (m21_store_Scan_s3 a0 a1 a2 a3) g.1 g.2 = some x3) (fun g => g.1) (fuel, (0, ([] : List GApiKV))) hx3 ⟨rfl, rfl, rfl, rfl, rfl, rfl, rfl, rfl, trivial⟩ [] rfl (fun _ _ => inbL_of rfl) (fun _ _ => blkinb_of rfl) (fun _ _ => Nat.le_of_ble_eq_true rfl) ?_
      clear hx3 h
      rintro ⟨n3, s3⟩ h
      obtain ⟨n3, y3, rfl, h, hk3⟩ := iterB_eq h
      unfold m21_store_Scan_s3 at h
      refine cseq ?_
      refine cregion ?_
      refine sv rfl (opv_lss rfl rfl) ?_
      refine snil ?_
      refine cseq ?_
      refine ccond rfl (fun hc => ?_) (fun hc => ?_)
      · replace h := ite_t hc h
        clear hc
        refine cskip ?_
        refine then_normal ?_
        refine cseq ?_
        refine cblock ?_
        refine cseq ?_
        refine cregion ?_
        refine sv rfl (opv_mv rfl) ?_
        obtain ⟨u4, hu4, h⟩ := bind_eq h
        refine sv rfl (opv_ix (f := (eL eU8)) si22 (fun _ => rfl) rfl rfl rfl rfl hu4) ?_
        refine sv rfl (opv_load1 ti26 rfl (.cp _) rfl) ?_
        refine sv rfl (opv_as rfl) ?_
        refine sv rfl (opv_as rfl) ?_
        refine snil ?_
        refine cseq ?_
        refine cblock ?_
        refine cseq ?_
        refine cregion ?_
        refine sv rfl (opv_mv rfl) ?_
        refine sv rfl (opv_len_ls si49 rfl rfl (flat_len (f := eGApiKV) (fun _ => rfl) _).symm) ?_
        refine sv rfl (opv_mv rfl) ?_
        refine sv rfl (opv_geq rfl rfl) ?_
        refine sv rfl (opv_as rfl) ?_
        refine snil ?_
        refine ccond rfl (fun hc => ?_) (fun hc => ?_)
        · replace h := ite_t hc h
          clear hc
          refine cexit ?_
          refine block_miss rfl ?_
          refine then_exit ?_
          refine block_miss rfl ?_
          refine then_exit ?_
          refine then_exit ?_
          refine block_hit ?_
          refine then_normal ?_
          obtain rfl := Option.some.inj h
          obtain rfl : _ = x3 := hk3
          exact ⟨s3.2, _, ho3, ⟨rfl, trivial⟩, rfl⟩
        · replace h := ite_f hc h
          clear hc
          refine cseq ?_
          refine cregion ?_
          refine sv rfl (opv_loadN ti28 rfl (.lp _ _ _ rfl) (Nat.le_of_ble_eq_true rfl)) ?_
          refine sv rfl (opv_mv rfl) ?_
          obtain ⟨v5, hv5, h⟩ := bind_eq h
          refine scall1 rfl fn50 (opnds_cons rfl (opnds_cons rfl opnds_nil)) (pubA_id rfl) (m50_keys_Has_c hv5) ?_
          refine sv rfl (opv_not rfl) ?_
          refine sv rfl (opv_as rfl) ?_
          refine snil ?_
          refine ccond rfl (fun hc => ?_) (fun hc => ?_)
          · replace h := ite_t hc h
            clear hc
            refine cexit ?_
            refine block_miss rfl ?_
            refine then_exit ?_
            refine block_hit ?_
            refine then_normal ?_
            refine cregion ?_
            refine sv rfl (opv_add rfl rfl) ?_
            refine sv rfl (opv_mv rfl) ?_
            refine snil ?_
            obtain rfl := Option.some.inj h
            exact ⟨(n3, ((wI (s3.1 + 1)), s3.2)), _, hk3, ⟨rfl, rfl, rfl, rfl, rfl, rfl, rfl, rfl, trivial⟩, rfl, Nat.lt_succ_self _⟩
          · replace h := ite_f hc h
            clear hc
            refine cskip ?_
            refine block_normal ?_
            refine then_normal ?_
            refine cseq ?_
            refine cregion ?_
            refine sv rfl (opv_fieldAddr_lp fi36_1 rfl) ?_
            refine sv rfl (opv_load1 ti34 rfl (.lp _ _ _ rfl) rfl) ?_
            refine sv rfl (opv_mv rfl) ?_
            obtain ⟨u6, hu6, h⟩ := bind_eq h
            refine sv rfl (opv_ix (f := eGChainChain) si34 (fun _ => rfl) rfl rfl rfl rfl hu6) ?_
            refine sv rfl (opv_loadNe (ys := [.sl u6.L.length (u6.L.flatMap eGChainVer)]) ti82 rfl (.cp _) rfl rfl) ?_
            refine sv rfl (opv_mv rfl) ?_
            obtain ⟨v7, hv7, h⟩ := bind_eq h
            refine scall1 rfl fn39 (opnds_cons rfl (opnds_cons rfl opnds_nil)) (pubA_id rfl) (m39_chain_Value_c hv7) ?_
            refine sv rfl (opv_mvt rfl) ?_
            refine sv rfl (opv_extract rfl rfl) ?_
            refine sv rfl (opv_extract rfl rfl) ?_
            refine sv rfl (opv_as rfl) ?_
            refine sv rfl (opv_as rfl) ?_
            refine snil ?_
            refine cseq ?_
            refine cregion ?_
            refine sv rfl (opv_mv rfl) ?_
            refine snil ?_
            refine ccond rfl (fun hc => ?_) (fun hc => ?_)
            · replace h := ite_t hc h
              clear hc
              refine cregion ?_
              refine sv rfl (opv_mv rfl) ?_
              refine sv rfl (opv_mv rfl) ?_
              refine sv rfl (opv_mv rfl) ?_
              refine sv rfl (opv_build zi71 pi71 (parts_cons rfl (parts_cons rfl parts_nil)) (.cons _ _ _ _ _ _ _ rfl rfl (Nat.le_of_ble_eq_true rfl) (.cons _ _ _ _ _ _ _ rfl rfl (Nat.le_of_ble_eq_true rfl) (.nil _)))) ?_
              refine sbuild1 rfl Try.underlying49 ei71 rfl rfl (List.all_eq_true.1 rfl) (by decide) ?_
              refine smem [.box a0, .box a1, .arr 71 2 0 (s3.2.flatMap eGApiKV), .arr 71 2 0 ([(GApiKV.mk u4 v7.1)].flatMap eGApiKV)] rfl ?_
              obtain ⟨hb8, h⟩ := chk_eq h
              refine sapp (f := eGApiKV) (xs := s3.2) (us := [(GApiKV.mk u4 v7.1)]) rfl Try.underlying49 ei71 ni49 (fun _ => rfl) rfl rfl (.one _ _ _ _ (.ls _ _ _ _ _ _ rfl (flat_len (f := eGApiKV) (fun _ => rfl) [(GApiKV.mk u4 v7.1)]).symm)) rfl rfl rfl (.sl _ _ _ (flat_len (f := eGApiKV) (fun _ => rfl) _)) rfl rfl hb8 (by decide) ?_
              refine sv rfl (opv_as rfl) ?_
              refine snil0 ?_
              refine block_normal ?_
              refine then_normal ?_
              refine cregion ?_
              refine sv rfl (opv_add rfl rfl) ?_
              refine sv rfl (opv_mv rfl) ?_
              refine snil ?_
              obtain rfl := Option.some.inj h
              exact ⟨(n3, ((wI (s3.1 + 1)), (s3.2 ++ [(GApiKV.mk u4 v7.1)]))), _, hk3, ⟨rfl, rfl, rfl, rfl, rfl, rfl, rfl, rfl, trivial⟩, rfl, Nat.lt_succ_self _⟩
            · replace h := ite_f hc h
              clear hc
              refine cskip ?_
              refine block_normal ?_
              refine then_normal ?_
              refine cregion ?_
              refine sv rfl (opv_add rfl rfl) ?_
              refine sv rfl (opv_mv rfl) ?_
              refine snil ?_
              obtain rfl := Option.some.inj h
              exact ⟨(n3, ((wI (s3.1 + 1)), s3.2)), _, hk3, ⟨rfl, rfl, rfl, rfl, rfl, rfl, rfl, rfl, trivial⟩, rfl, Nat.lt_succ_self _⟩
      · replace h := ite_f hc h
        clear hc
        refine cexit ?_
        refine then_exit ?_
        refine then_exit ?_
        refine block_hit ?_
        refine then_normal ?_
        obtain rfl := Option.some.inj h
        obtain rfl : _ = x3 := hk3
        exact ⟨s3.2, _, ho3, ⟨rfl, trivial⟩, rfl⟩

def m32_store_Latest (a0 : GStoreStore) : Option (List GApiKV) :=
  (m21_store_Scan (GStoreStore.mk a0.Keys a0.Chains a0.Ts) (GApiRange.mk ([] : List UInt8) ([] : List UInt8) true) a0.Ts (a0.Keys.length : Int)).bind fun v1 => some v1

set_option maxRecDepth 100000 in
theorem m32_store_Latest_c {a0 : GStoreStore} {r : (List GApiKV)} (h : m32_store_Latest a0 = some r) : CallsA Try.prog 32 [.agg a0] (· = .s (.one (.sl r.length (r.flatMap eGApiKV)))) := by
  unfold m32_store_Latest at h
  refine callsA_of Try.func32 rfl (nt := 11) rfl (Nat.le_of_ble_eq_true rfl) ?_
  intro w0 S0
  refine cseq ?_
  refine cregion ?_
  refine sbox rfl rfl ?_
  refine sv rfl (opv_as rfl) ?_
  refine snil ?_
  refine cseq ?_
  refine cregion ?_
  refine sv rfl (opv_loadN ti36 rfl (.lp _ _ _ rfl) (Nat.le_of_ble_eq_true rfl)) ?_
  refine sv rfl (opv_build zi28 pi28 (parts_cons rfl parts_nil) (.cons _ _ _ _ _ _ _ rfl rfl (Nat.le_of_ble_eq_true rfl) (.nil _))) ?_
  refine sv rfl (opv_fieldAddr_lp fi36_2 rfl) ?_
  refine sv rfl (opv_load1 ti3 rfl (.lp _ _ _ rfl) rfl) ?_
  refine sv rfl (opv_fieldAddr_lp fi36_0 rfl) ?_
  refine sv rfl (opv_load1 ti22 rfl (.lp _ _ _ rfl) rfl) ?_
  refine sv rfl (opv_len_sl si22 rfl) ?_
  obtain ⟨v1, hv1, h⟩ := bind_eq h
  refine scall1 rfl fn21 (opnds_cons rfl (opnds_cons rfl (opnds_cons rfl (opnds_cons rfl opnds_nil)))) (pubC rfl) (m21_store_Scan_c hv1) ?_
  refine sv rfl (opv_as rfl) ?_
  refine snil ?_
  refine cret ?_
  obtain rfl := Option.some.inj h
  refine ⟨Or.inr rfl, _, _, _, (resVs_cons (ResV.tmp _ _ rfl) resVs_nil), (pubA_id rfl), ?_⟩
  rfl

def m9_l08_awake  : Option Bool :=
  (m16_store_Install (GStoreStore.mk ([] : List (List UInt8)) ([] : List GChainChain) 0) 3 [(GApiWrite.mk [(UInt8.ofBitVec (97#8))] [(UInt8.ofBitVec (118#8))] false)]).bind fun v1 => (m14_store_Get (GStoreStore.mk v1.1.Keys v1.1.Chains v1.1.Ts) [(UInt8.ofBitVec (97#8))] 2).bind fun v2 => (m14_store_Get (GStoreStore.mk v1.1.Keys v1.1.Chains v1.1.Ts) [(UInt8.ofBitVec (97#8))] 3).bind fun v3 => if (decide (v1.2 = 0)) then (if (!v2.2) then (if v3.2 then (if (v3.1 == ([118] : List UInt8)) then (if (decide (v1.1.Ts = 3)) then ((m32_store_Latest (GStoreStore.mk v1.1.Keys v1.1.Chains v1.1.Ts)).bind fun v4 => some (decide ((v4.length : Int) = 1))) else (some false)) else (some false)) else (some false)) else (some false)) else (some false)

set_option maxRecDepth 100000 in
theorem m9_l08_awake_c  {r : Bool} (h : m9_l08_awake = some r) : CallsA Try.prog 9 [] (· = .s (.one (.b r))) := by
  unfold m9_l08_awake at h
  refine callsA_of Try.func9 rfl (nt := 57) rfl (Nat.le_of_ble_eq_true rfl) ?_
  intro w0 S0
  refine cseq ?_
  refine cregion ?_
  refine sv rfl (opv_as rfl) ?_
  refine snil ?_
  refine cseq ?_
  refine cregion ?_
  refine sv rfl (opv_build zi36 pi36 parts_nil (.nil _)) ?_
  refine sbuild1 rfl Try.underlying26 ei5 rfl rfl (List.all_eq_true.1 rfl) (by decide) ?_
  refine smem [.arr 5 1 0 ([(UInt8.ofBitVec (97#8))].flatMap eU8)] rfl ?_
  refine sconv_id rfl Try.underlying26 Try.underlying5 rfl rfl (flat_len (f := eU8) (fun _ => rfl) [(UInt8.ofBitVec (97#8))]).symm (by decide) ?_
  refine sbuild1 rfl Try.underlying26 ei5 rfl rfl (List.all_eq_true.1 rfl) (by decide) ?_
  refine smem [.dead, .arr 5 1 0 ([(UInt8.ofBitVec (118#8))].flatMap eU8)] rfl ?_
  refine sconv_id rfl Try.underlying26 Try.underlying5 rfl rfl (flat_len (f := eU8) (fun _ => rfl) [(UInt8.ofBitVec (118#8))]).symm (by decide) ?_
  refine sv rfl (opv_build zi67 pi67 (parts_cons rfl (parts_cons rfl parts_nil)) (.cons _ _ _ _ _ _ _ rfl rfl (Nat.le_of_ble_eq_true rfl) (.cons _ _ _ _ _ _ _ rfl rfl (Nat.le_of_ble_eq_true rfl) (.nil _)))) ?_
  refine sbuild1 rfl Try.underlying29 ei67 rfl rfl (List.all_eq_true.1 rfl) (by decide) ?_
  refine smem [.dead, .dead, .arr 67 3 0 ([(GApiWrite.mk [(UInt8.ofBitVec (97#8))] [(UInt8.ofBitVec (118#8))] false)].flatMap eGApiWrite)] rfl ?_
  refine spub 14 rfl (by (repeat' first | exact PubA.nil _ | apply PubA.cons | apply PubV.one | apply PubV.agg | exact PubL.nil | exact PubL.ls _ _ _ _ _ _ rfl (flat_len (f := eGApiWrite) (fun _ => rfl) ([(GApiWrite.mk [(UInt8.ofBitVec (97#8))] [(UInt8.ofBitVec (118#8))] false)] : List GApiWrite)).symm | exact PubL.ls _ _ _ _ _ _ rfl (flat_len (f := eGApiWrite) (fun _ => rfl) _).symm | exact PubL.id _ rfl | exact PubLs.nil _ | apply PubLs.cons)) ?_
  obtain ⟨v1, hv1, h⟩ := bind_eq h
  refine scall1 rfl fn16 (opnds_cons rfl (opnds_cons rfl (opnds_cons rfl opnds_nil))) (pubC rfl) (m16_store_Install_c hv1) ?_
  refine sv rfl (opv_mvt rfl) ?_
  refine sv rfl (opv_extract rfl rfl) ?_
  refine sv rfl (opv_extract rfl rfl) ?_
  refine salloc rfl zi36 ?_
  refine sstore sz36 rfl rfl rfl rfl (Nat.le_of_ble_eq_true rfl) ?_
  refine smem [.dead, .dead, .arr 67 3 ([(GApiWrite.mk [(UInt8.ofBitVec (97#8))] [(UInt8.ofBitVec (118#8))] false)].flatMap eGApiWrite).length ([(GApiWrite.mk [(UInt8.ofBitVec (97#8))] [(UInt8.ofBitVec (118#8))] false)].flatMap eGApiWrite), .box v1.1] rfl ?_
  refine sv rfl (opv_as rfl) ?_
  refine snil ?_
  refine cseq ?_
  refine cregion ?_
  refine sv rfl (opv_loadN ti36 rfl (.lp _ _ _ rfl) (Nat.le_of_ble_eq_true rfl)) ?_
  refine sbuild1 rfl Try.underlying26 ei5 rfl rfl (List.all_eq_true.1 rfl) (by decide) ?_
  refine smem [.dead, .dead, .arr 67 3 ([(GApiWrite.mk [(UInt8.ofBitVec (97#8))] [(UInt8.ofBitVec (118#8))] false)].flatMap eGApiWrite).length ([(GApiWrite.mk [(UInt8.ofBitVec (97#8))] [(UInt8.ofBitVec (118#8))] false)].flatMap eGApiWrite), .box v1.1, .arr 5 1 0 ([(UInt8.ofBitVec (97#8))].flatMap eU8)] rfl ?_
  refine sconv_id rfl Try.underlying26 Try.underlying5 rfl rfl (flat_len (f := eU8) (fun _ => rfl) [(UInt8.ofBitVec (97#8))]).symm (by decide) ?_
  obtain ⟨v2, hv2, h⟩ := bind_eq h
  refine scall1 rfl fn14 (opnds_cons rfl (opnds_cons rfl (opnds_cons rfl opnds_nil))) (pubA_id rfl) (m14_store_Get_c hv2) ?_
  refine sv rfl (opv_mvt rfl) ?_
  refine sv rfl (opv_extract rfl rfl) ?_
  refine sv rfl (opv_extract rfl rfl) ?_
  refine sv rfl (opv_as rfl) ?_
  refine sv rfl (opv_as rfl) ?_
  refine snil ?_
  refine cseq ?_
  refine cregion ?_
  refine sv rfl (opv_loadN ti36 rfl (.lp _ _ _ rfl) (Nat.le_of_ble_eq_true rfl)) ?_
  refine sbuild1 rfl Try.underlying26 ei5 rfl rfl (List.all_eq_true.1 rfl) (by decide) ?_
  refine smem [.dead, .dead, .arr 67 3 ([(GApiWrite.mk [(UInt8.ofBitVec (97#8))] [(UInt8.ofBitVec (118#8))] false)].flatMap eGApiWrite).length ([(GApiWrite.mk [(UInt8.ofBitVec (97#8))] [(UInt8.ofBitVec (118#8))] false)].flatMap eGApiWrite), .box v1.1, .dead, .arr 5 1 0 ([(UInt8.ofBitVec (97#8))].flatMap eU8)] rfl ?_
  refine sconv_id rfl Try.underlying26 Try.underlying5 rfl rfl (flat_len (f := eU8) (fun _ => rfl) [(UInt8.ofBitVec (97#8))]).symm (by decide) ?_
  obtain ⟨v3, hv3, h⟩ := bind_eq h
  refine scall1 rfl fn14 (opnds_cons rfl (opnds_cons rfl (opnds_cons rfl opnds_nil))) (pubA_id rfl) (m14_store_Get_c hv3) ?_
  refine sv rfl (opv_mvt rfl) ?_
  refine sv rfl (opv_extract rfl rfl) ?_
  refine sv rfl (opv_extract rfl rfl) ?_
  refine sv rfl (opv_as rfl) ?_
  refine sv rfl (opv_as rfl) ?_
  refine snil ?_
  refine cseq ?_
  refine cregion ?_
  refine sv rfl (opv_mv rfl) ?_
  refine sv rfl (opv_ieql rfl rfl) ?_
  refine sv rfl (opv_mv rfl) ?_
  refine ssplit 34 rfl (fun hc => ?_) (fun hc => ?_)
  · replace h := ite_t hc h
    clear hc
    refine son rfl rfl rfl ?_
    refine sv rfl (opv_mv rfl) ?_
    refine son rfl rfl rfl ?_
    refine sv rfl (opv_not rfl) ?_
    refine sv rfl (opv_pick_t rfl rfl) ?_
    refine sv rfl (opv_mv rfl) ?_
    refine ssplit 38 rfl (fun hc => ?_) (fun hc => ?_)
    · replace h := ite_t hc h
      clear hc
      refine son rfl rfl rfl ?_
      refine sv rfl (opv_mv rfl) ?_
      refine sv rfl (opv_pick_t rfl rfl) ?_
      refine sv rfl (opv_mv rfl) ?_
      refine ssplit 41 rfl (fun hc => ?_) (fun hc => ?_)
      · replace h := ite_t hc h
        clear hc
        refine son rfl rfl rfl ?_
        refine sv rfl (opv_mv rfl) ?_
        refine son rfl rfl rfl ?_
        refine sv rfl (opv_bs (l := v3.1) Try.underlying26 Try.underlying5 Try.underlying9 rfl rfl rfl) ?_
        refine son rfl rfl rfl ?_
        refine sv rfl (opv_seql' rfl rfl) ?_
        refine sv rfl (opv_pick_t rfl rfl) ?_
        refine sv rfl (opv_mv rfl) ?_
        refine ssplit 46 rfl (fun hc => ?_) (fun hc => ?_)
        · replace h := ite_t hc h
          clear hc
          refine son rfl rfl rfl ?_
          refine sv rfl (opv_fieldAddr_lp fi36_2 rfl) ?_
          refine son rfl rfl rfl ?_
          refine sv rfl (opv_load1 ti3 rfl (.lp _ _ _ rfl) rfl) ?_
          refine son rfl rfl rfl ?_
          refine sv rfl (opv_ieql rfl rfl) ?_
          refine sv rfl (opv_pick_t rfl rfl) ?_
          refine sv rfl (opv_mv rfl) ?_
          refine ssplit 51 rfl (fun hc => ?_) (fun hc => ?_)
          · replace h := ite_t hc h
            clear hc
            refine son rfl rfl rfl ?_
            refine sv rfl (opv_loadN ti36 rfl (.lp _ _ _ rfl) (Nat.le_of_ble_eq_true rfl)) ?_
            refine son rfl rfl rfl ?_
            obtain ⟨v4, hv4, h⟩ := bind_eq h
            refine scall1 rfl fn32 (opnds_cons rfl opnds_nil) (pubA_id rfl) (m32_store_Latest_c hv4) ?_
            refine son rfl rfl rfl ?_
            refine sv rfl (opv_len_sl si49 rfl) ?_
            refine son rfl rfl rfl ?_
            refine sv rfl (opv_ieql rfl rfl) ?_
            refine sv rfl (opv_pick_t rfl rfl) ?_
            refine sv rfl (opv_as rfl) ?_
            refine snil ?_
            refine cret ?_
            obtain rfl := Option.some.inj h
            refine ⟨Or.inr rfl, _, _, _, (resVs_cons (ResV.tmp _ _ rfl) resVs_nil), (pubA_id rfl), ?_⟩
            rfl
          · replace h := ite_f hc h
            clear hc
            refine soff rfl rfl rfl rfl ?_
            refine soff rfl rfl rfl rfl ?_
            refine soff rfl rfl rfl rfl ?_
            refine soff rfl rfl rfl rfl ?_
            refine sv rfl (opv_pick_f rfl rfl) ?_
            refine sv rfl (opv_as rfl) ?_
            refine snil ?_
            refine cret ?_
            obtain rfl := Option.some.inj h
            refine ⟨Or.inr rfl, _, _, _, (resVs_cons (ResV.tmp _ _ rfl) resVs_nil), (pubA_id rfl), ?_⟩
            rfl
        · replace h := ite_f hc h
          clear hc
          refine soff rfl rfl rfl rfl ?_
          refine soff rfl rfl rfl rfl ?_
          refine soff rfl rfl rfl rfl ?_
          refine sv rfl (opv_pick_f rfl rfl) ?_
          refine sv rfl (opv_mv rfl) ?_
          refine soff rfl rfl rfl rfl ?_
          refine soff rfl rfl rfl rfl ?_
          refine soff rfl rfl rfl rfl ?_
          refine soff rfl rfl rfl rfl ?_
          refine sv rfl (opv_pick_f rfl rfl) ?_
          refine sv rfl (opv_as rfl) ?_
          refine snil ?_
          refine cret ?_
          obtain rfl := Option.some.inj h
          refine ⟨Or.inr rfl, _, _, _, (resVs_cons (ResV.tmp _ _ rfl) resVs_nil), (pubA_id rfl), ?_⟩
          rfl
      · replace h := ite_f hc h
        clear hc
        refine soff rfl rfl rfl rfl ?_
        refine soff rfl rfl rfl rfl ?_
        refine soff rfl rfl rfl rfl ?_
        refine sv rfl (opv_pick_f rfl rfl) ?_
        refine sv rfl (opv_mv rfl) ?_
        refine soff rfl rfl rfl rfl ?_
        refine soff rfl rfl rfl rfl ?_
        refine soff rfl rfl rfl rfl ?_
        refine sv rfl (opv_pick_f rfl rfl) ?_
        refine sv rfl (opv_mv rfl) ?_
        refine soff rfl rfl rfl rfl ?_
        refine soff rfl rfl rfl rfl ?_
        refine soff rfl rfl rfl rfl ?_
        refine soff rfl rfl rfl rfl ?_
        refine sv rfl (opv_pick_f rfl rfl) ?_
        refine sv rfl (opv_as rfl) ?_
        refine snil ?_
        refine cret ?_
        obtain rfl := Option.some.inj h
        refine ⟨Or.inr rfl, _, _, _, (resVs_cons (ResV.tmp _ _ rfl) resVs_nil), (pubA_id rfl), ?_⟩
        rfl
    · replace h := ite_f hc h
      clear hc
      refine soff rfl rfl rfl rfl ?_
      refine sv rfl (opv_pick_f rfl rfl) ?_
      refine sv rfl (opv_mv rfl) ?_
      refine soff rfl rfl rfl rfl ?_
      refine soff rfl rfl rfl rfl ?_
      refine soff rfl rfl rfl rfl ?_
      refine sv rfl (opv_pick_f rfl rfl) ?_
      refine sv rfl (opv_mv rfl) ?_
      refine soff rfl rfl rfl rfl ?_
      refine soff rfl rfl rfl rfl ?_
      refine soff rfl rfl rfl rfl ?_
      refine sv rfl (opv_pick_f rfl rfl) ?_
      refine sv rfl (opv_mv rfl) ?_
      refine soff rfl rfl rfl rfl ?_
      refine soff rfl rfl rfl rfl ?_
      refine soff rfl rfl rfl rfl ?_
      refine soff rfl rfl rfl rfl ?_
      refine sv rfl (opv_pick_f rfl rfl) ?_
      refine sv rfl (opv_as rfl) ?_
      refine snil ?_
      refine cret ?_
      obtain rfl := Option.some.inj h
      refine ⟨Or.inr rfl, _, _, _, (resVs_cons (ResV.tmp _ _ rfl) resVs_nil), (pubA_id rfl), ?_⟩
      rfl
  · replace h := ite_f hc h
    clear hc
    refine soff rfl rfl rfl rfl ?_
    refine soff rfl rfl rfl rfl ?_
    refine sv rfl (opv_pick_f rfl rfl) ?_
    refine sv rfl (opv_mv rfl) ?_
    refine soff rfl rfl rfl rfl ?_
    refine sv rfl (opv_pick_f rfl rfl) ?_
    refine sv rfl (opv_mv rfl) ?_
    refine soff rfl rfl rfl rfl ?_
    refine soff rfl rfl rfl rfl ?_
    refine soff rfl rfl rfl rfl ?_
    refine sv rfl (opv_pick_f rfl rfl) ?_
    refine sv rfl (opv_mv rfl) ?_
    refine soff rfl rfl rfl rfl ?_
    refine soff rfl rfl rfl rfl ?_
    refine soff rfl rfl rfl rfl ?_
    refine sv rfl (opv_pick_f rfl rfl) ?_
    refine sv rfl (opv_mv rfl) ?_
    refine soff rfl rfl rfl rfl ?_
    refine soff rfl rfl rfl rfl ?_
    refine soff rfl rfl rfl rfl ?_
    refine soff rfl rfl rfl rfl ?_
    refine sv rfl (opv_pick_f rfl rfl) ?_
    refine sv rfl (opv_as rfl) ?_
    refine snil ?_
    refine cret ?_
    obtain rfl := Option.some.inj h
    refine ⟨Or.inr rfl, _, _, _, (resVs_cons (ResV.tmp _ _ rfl) resVs_nil), (pubA_id rfl), ?_⟩
    rfl

def m37_r07_Few_k1 (b1 : Unit) : Option Bool :=
  some true

def m37_r07_Few_s2 (a0 : GR07Chain) (s2 : Int) : Option (LR (Int) (Unit) (Bool)) :=
  if (decide (s2 < (a0.L.length : Int))) then ((idx a0.L s2).bind fun u3 => if (decide (100 < (u3.Val.length : Int))) then (some (.ret false)) else (some (.cont (wI (s2 + 1))))) else (some (.brk ()))
def m37_r07_Few (a0 : GR07Chain) : Option Bool :=
  if (decide (60 < (a0.L.length : Int))) then (some false) else ((iter (m37_r07_Few_s2 a0) fuel 0).bind fun x => match x with | .inl r => some r | .inr e4 => m37_r07_Few_k1 e4)

set_option maxRecDepth 100000 in
theorem m37_r07_Few_c {a0 : GR07Chain} {r : Bool} (h : m37_r07_Few a0 = some r) : CallsA Try.prog 37 [.agg [.sl a0.L.length (a0.L.flatMap eGR07Ver)]] (· = .s (.one (.b r))) := by
  unfold m37_r07_Few at h
  refine callsA_of Try.func37 rfl (nt := 23) rfl (Nat.le_of_ble_eq_true rfl) ?_
  intro w0 S0
  refine cseq ?_
  refine cregion ?_
  refine sbox rfl rfl ?_
  refine sv rfl (opv_as rfl) ?_
  refine snil ?_
  refine cseq ?_
  refine cseq ?_
  refine cregion ?_
  refine sv rfl (opv_fieldAddr_lp fi79_0 rfl) ?_
  refine sv rfl (opv_load1 ti77 rfl (.lp _ _ _ rfl) rfl) ?_
  refine sv rfl (opv_len_sl si77 rfl) ?_
  refine sv rfl (opv_gtr rfl rfl) ?_
  refine snil ?_
  refine ccond rfl (fun hc => ?_) (fun hc => ?_)
  · replace h := ite_t hc h
    clear hc
    refine cseq ?_
    refine cregion ?_
    refine sv rfl (opv_as rfl) ?_
    refine snil ?_
    refine cret ?_
    refine then_ret ?_
    obtain rfl := Option.some.inj h
    refine ⟨Or.inr rfl, _, _, _, (resVs_cons (ResV.tmp _ _ rfl) resVs_nil), (pubA_id rfl), ?_⟩
    rfl
  · replace h := ite_f hc h
    clear hc
    refine cskip ?_
    refine then_normal ?_
    refine cseq ?_
    refine cseq ?_
    refine cregion ?_
    refine sv rfl (opv_as rfl) ?_
    refine snil ?_
    refine cjoin (Unit) (fun b1 => []) (fun b1 => [.box [.sl a0.L.length (a0.L.flatMap eGR07Ver)]]) (fun b1 => m37_r07_Few_k1 b1 = some r) (fun _ _ => inbL_of rfl) (fun _ _ => blkinb_of rfl) (fun _ _ => Nat.le_of_ble_eq_true rfl) (fun b1 h => ?_) ?_
    · unfold m37_r07_Few_k1 at h
      refine cseq ?_
      refine cregion ?_
      refine sv rfl (opv_as rfl) ?_
      refine snil ?_
      refine cret ?_
      obtain rfl := Option.some.inj h
      refine ⟨Or.inr rfl, _, _, _, (resVs_cons (ResV.tmp _ _ rfl) resVs_nil), (pubA_id rfl), ?_⟩
      rfl
    · skip
      refine cblock ?_
      obtain ⟨x2, hx2, ho2⟩ := bind_eq h
      refine awc_loop (G := Nat × (Int)) (fun g => [(1, .s (.one (.lp 0 0))), (3, .s (.one (.i .i64 g.2)))]) (fun g => [.box [.sl a0.L.length (a0.L.flatMap eGR07Ver)]]) (fun g => iter (m37_r07_Few_s2 a0) g.1 g.2 = some x2) (fun g => g.1) (fuel, 0) hx2 ⟨rfl, rfl, trivial⟩ [] rfl (fun _ _ => inbL_of rfl) (fun _ _ => blkinb_of rfl) (fun _ _ => Nat.le_of_ble_eq_true rfl) ?_
      clear hx2 h
      rintro ⟨n2, s2⟩ h
      obtain ⟨n2, y2, rfl, h, hk2⟩ := iter_eq h
      unfold m37_r07_Few_s2 at h
      refine cseq ?_
      refine cseq ?_
      refine cregion ?_
      refine sv rfl (opv_mv rfl) ?_
      refine sv rfl (opv_fieldAddr_lp fi79_0 rfl) ?_
      refine sv rfl (opv_load1 ti77 rfl (.lp _ _ _ rfl) rfl) ?_
      refine sv rfl (opv_len_sl si77 rfl) ?_
      refine sv rfl (opv_lss rfl rfl) ?_
      refine snil ?_
      refine ccond rfl (fun hc => ?_) (fun hc => ?_)
      · replace h := ite_t hc h
        clear hc
        refine cskip ?_
        refine then_normal ?_
        refine cseq ?_
        refine cblock ?_
        refine cseq ?_
        refine cregion ?_
        refine sv rfl (opv_fieldAddr_lp fi79_0 rfl) ?_
        refine sv rfl (opv_load1 ti77 rfl (.lp _ _ _ rfl) rfl) ?_
        refine sv rfl (opv_mv rfl) ?_
        obtain ⟨u3, hu3, h⟩ := bind_eq h
        refine sv rfl (opv_ix (f := eGR07Ver) si77 (fun _ => rfl) rfl rfl rfl rfl hu3) ?_
        refine sv rfl (opv_fieldAddr_cp fi84_1 rfl) ?_
        refine sv rfl (opv_load1 ti26 rfl (.cp _) rfl) ?_
        refine sv rfl (opv_len_sl si26 rfl) ?_
        refine sv rfl (opv_gtr rfl rfl) ?_
        refine snil ?_
        refine ccond rfl (fun hc => ?_) (fun hc => ?_)
        · replace h := ite_t hc h
          clear hc
          refine cseq ?_
          refine cregion ?_
          refine sv rfl (opv_as rfl) ?_
          refine snil ?_
          refine cret ?_
          refine block_ret ?_
          refine then_ret ?_
          refine then_ret ?_
          refine block_ret ?_
          refine then_ret ?_
          obtain rfl := Option.some.inj h
          obtain rfl : Sum.inl _ = x2 := hk2
          replace ho2 : some _ = some _ := ho2
          obtain rfl := Option.some.inj ho2
          refine ⟨Or.inr rfl, _, _, _, (resVs_cons (ResV.tmp _ _ rfl) resVs_nil), (pubA_id rfl), ?_⟩
          rfl
        · replace h := ite_f hc h
          clear hc
          refine cskip ?_
          refine block_normal ?_
          refine then_normal ?_
          refine cregion ?_
          refine sv rfl (opv_mv rfl) ?_
          refine sv rfl (opv_add rfl rfl) ?_
          refine sv rfl (opv_as rfl) ?_
          refine snil ?_
          obtain rfl := Option.some.inj h
          exact ⟨(n2, (wI (s2 + 1))), _, hk2, ⟨rfl, rfl, trivial⟩, rfl, Nat.lt_succ_self _⟩
      · replace h := ite_f hc h
        clear hc
        refine cexit ?_
        refine then_exit ?_
        refine then_exit ?_
        refine block_hit ?_
        refine then_normal ?_
        obtain rfl := Option.some.inj h
        obtain rfl : _ = x2 := hk2
        exact ⟨(), _, ho2, trivial, rfl⟩

def m10_r08_Few_k3 (b3 : Unit) : Option Bool :=
  some true

def m10_r08_Few_s4 (a0 : GR08Store) (s4 : Int) : Option (LR (Int) (Unit) (Bool)) :=
  if (decide (s4 < (a0.Chains.length : Int))) then ((idx a0.Chains s4).bind fun u5 => (m37_r07_Few u5).bind fun v6 => if (!v6) then (some (.ret false)) else (some (.cont (wI (s4 + 1))))) else (some (.brk ()))

def m10_r08_Few_k2 (a0 : GR08Store) (b2 : Unit) : Option Bool :=
  (iter (m10_r08_Few_s4 a0) fuel 0).bind fun x => match x with | .inl r => some r | .inr e7 => m10_r08_Few_k3 e7

def m10_r08_Few_s8 (a0 : GR08Store) (s8 : Int) : Option (LR (Int) (Unit) (Bool)) :=
  if (decide (s8 < (a0.Keys.length : Int))) then ((idx a0.Keys s8).bind fun u9 => if (decide (50 < (u9.length : Int))) then (some (.ret false)) else (some (.cont (wI (s8 + 1))))) else (some (.brk ()))

def m10_r08_Few_k1 (a0 : GR08Store) (b1 : Unit) : Option Bool :=
  (iter (m10_r08_Few_s8 a0) fuel 0).bind fun x => match x with | .inl r => some r | .inr e10 => m10_r08_Few_k2 a0 e10
def m10_r08_Few (a0 : GR08Store) : Option Bool :=
  if (decide (140 < (a0.Keys.length : Int))) then (some false) else (if (decide (140 < (a0.Chains.length : Int))) then (some false) else (m10_r08_Few_k1 a0 ()))

set_option maxRecDepth 100000 in
theorem m10_r08_Few_c {a0 : GR08Store} {r : Bool} (h : m10_r08_Few a0 = some r) : CallsA Try.prog 10 [.agg a0] (· = .s (.one (.b r))) := by
  unfold m10_r08_Few at h
  refine callsA_of Try.func10 rfl (nt := 43) rfl (Nat.le_of_ble_eq_true rfl) ?_
  intro w0 S0
  refine cseq ?_
  refine cregion ?_
  refine sbox rfl rfl ?_
  refine sv rfl (opv_as rfl) ?_
  refine snil ?_
  refine cseq ?_
  refine cseq ?_
  refine cjoin3 (Unit) (fun b1 => [(1, .s (.one (.lp 0 0)))]) (fun b1 => [.box a0]) (fun b1 => m10_r08_Few_k1 a0 b1 = some r) (fun _ _ => inbL_of rfl) (fun _ _ => blkinb_of rfl) (fun _ _ => Nat.le_of_ble_eq_true rfl) (fun b1 h => ?_) ?_
  · unfold m10_r08_Few_k1 at h
    refine cseq ?_
    refine cseq ?_
    refine cregion ?_
    refine sv rfl (opv_as rfl) ?_
    refine snil ?_
    refine cjoin (Unit) (fun b2 => [(1, .s (.one (.lp 0 0)))]) (fun b2 => [.box a0]) (fun b2 => m10_r08_Few_k2 a0 b2 = some r) (fun _ _ => inbL_of rfl) (fun _ _ => blkinb_of rfl) (fun _ _ => Nat.le_of_ble_eq_true rfl) (fun b2 h => ?_) ?_
    · unfold m10_r08_Few_k2 at h
      refine cseq ?_
      refine cseq ?_
      refine cregion ?_
      refine sv rfl (opv_as rfl) ?_
      refine snil ?_
      refine cjoin (Unit) (fun b3 => []) (fun b3 => [.box a0]) (fun b3 => m10_r08_Few_k3 b3 = some r) (fun _ _ => inbL_of rfl) (fun _ _ => blkinb_of rfl) (fun _ _ => Nat.le_of_ble_eq_true rfl) (fun b3 h => ?_) ?_
      · unfold m10_r08_Few_k3 at h
        refine cseq ?_
        refine cregion ?_
        refine sv rfl (opv_as rfl) ?_
        refine snil ?_
        refine cret ?_
        obtain rfl := Option.some.inj h
        refine ⟨Or.inr rfl, _, _, _, (resVs_cons (ResV.tmp _ _ rfl) resVs_nil), (pubA_id rfl), ?_⟩
        rfl
      · skip
        refine cblock ?_
        obtain ⟨x4, hx4, ho4⟩ := bind_eq h
        refine awc_loop (G := Nat × (Int)) (fun g => [(1, .s (.one (.lp 0 0))), (4, .s (.one (.i .i64 g.2)))]) (fun g => [.box a0]) (fun g => iter (m10_r08_Few_s4 a0) g.1 g.2 = some x4) (fun g => g.1) (fuel, 0) hx4 ⟨rfl, rfl, trivial⟩ [] rfl (fun _ _ => inbL_of rfl) (fun _ _ => blkinb_of rfl) (fun _ _ => Nat.le_of_ble_eq_true rfl) ?_
        clear hx4 h
        rintro ⟨n4, s4⟩ h
        obtain ⟨n4, y4, rfl, h, hk4⟩ := iter_eq h
        unfold m10_r08_Few_s4 at h
        refine cseq ?_
        refine cseq ?_
        refine cregion ?_
        refine sv rfl (opv_mv rfl) ?_
        refine sv rfl (opv_fieldAddr_lp fi25_1 rfl) ?_
        refine sv rfl (opv_load1 ti23 rfl (.lp _ _ _ rfl) rfl) ?_
        refine sv rfl (opv_len_sl si23 rfl) ?_
        refine sv rfl (opv_lss rfl rfl) ?_
        refine snil ?_
        refine ccond rfl (fun hc => ?_) (fun hc => ?_)
        · replace h := ite_t hc h
          clear hc
          refine cskip ?_
          refine then_normal ?_
          refine cseq ?_
          refine cblock ?_
          refine cseq ?_
          refine cregion ?_
          refine sv rfl (opv_fieldAddr_lp fi25_1 rfl) ?_
          refine sv rfl (opv_load1 ti23 rfl (.lp _ _ _ rfl) rfl) ?_
          refine sv rfl (opv_mv rfl) ?_
          obtain ⟨u5, hu5, h⟩ := bind_eq h
          refine sv rfl (opv_ix (f := eGR07Chain) si23 (fun _ => rfl) rfl rfl rfl rfl hu5) ?_
          refine sv rfl (opv_loadNe (ys := [.sl u5.L.length (u5.L.flatMap eGR07Ver)]) ti79 rfl (.cp _) rfl rfl) ?_
          obtain ⟨v6, hv6, h⟩ := bind_eq h
          refine scall1 rfl fn37 (opnds_cons rfl opnds_nil) (pubA_id rfl) (m37_r07_Few_c hv6) ?_
          refine sv rfl (opv_not rfl) ?_
          refine snil ?_
          refine ccond rfl (fun hc => ?_) (fun hc => ?_)
          · replace h := ite_t hc h
            clear hc
            refine cseq ?_
            refine cregion ?_
            refine sv rfl (opv_as rfl) ?_
            refine snil ?_
            refine cret ?_
            refine block_ret ?_
            refine then_ret ?_
            refine then_ret ?_
            refine block_ret ?_
            refine then_ret ?_
            obtain rfl := Option.some.inj h
            obtain rfl : Sum.inl _ = x4 := hk4
            replace ho4 : some _ = some _ := ho4
            obtain rfl := Option.some.inj ho4
            refine ⟨Or.inr rfl, _, _, _, (resVs_cons (ResV.tmp _ _ rfl) resVs_nil), (pubA_id rfl), ?_⟩
            rfl
          · replace h := ite_f hc h
            clear hc
            refine cskip ?_
            refine block_normal ?_
            refine then_normal ?_
            refine cregion ?_
            refine sv rfl (opv_mv rfl) ?_
            refine sv rfl (opv_add rfl rfl) ?_
            refine sv rfl (opv_as rfl) ?_
            refine snil ?_
            obtain rfl := Option.some.inj h
            exact ⟨(n4, (wI (s4 + 1))), _, hk4, ⟨rfl, rfl, trivial⟩, rfl, Nat.lt_succ_self _⟩
        · replace h := ite_f hc h
          clear hc
          refine cexit ?_
          refine then_exit ?_
          refine then_exit ?_
          refine block_hit ?_
          refine then_normal ?_
          obtain rfl := Option.some.inj h
          obtain rfl : _ = x4 := hk4
          exact ⟨(), _, ho4, trivial, rfl⟩
    · skip
      refine cblock ?_
      obtain ⟨x8, hx8, ho8⟩ := bind_eq h
      refine awc_loop (G := Nat × (Int)) (fun g => [(1, .s (.one (.lp 0 0))), (3, .s (.one (.i .i64 g.2)))]) (fun g => [.box a0]) (fun g => iter (m10_r08_Few_s8 a0) g.1 g.2 = some x8) (fun g => g.1) (fuel, 0) hx8 ⟨rfl, rfl, trivial⟩ [] rfl (fun _ _ => inbL_of rfl) (fun _ _ => blkinb_of rfl) (fun _ _ => Nat.le_of_ble_eq_true rfl) ?_
      clear hx8 h
      rintro ⟨n8, s8⟩ h
      obtain ⟨n8, y8, rfl, h, hk8⟩ := iter_eq h
      unfold m10_r08_Few_s8 at h
      refine cseq ?_
      refine cseq ?_
      refine cregion ?_
      refine sv rfl (opv_mv rfl) ?_
      refine sv rfl (opv_fieldAddr_lp fi25_0 rfl) ?_
      refine sv rfl (opv_load1 ti22 rfl (.lp _ _ _ rfl) rfl) ?_
      refine sv rfl (opv_len_sl si22 rfl) ?_
      refine sv rfl (opv_lss rfl rfl) ?_
      refine snil ?_
      refine ccond rfl (fun hc => ?_) (fun hc => ?_)
      · replace h := ite_t hc h
        clear hc
        refine cskip ?_
        refine then_normal ?_
        refine cseq ?_
        refine cblock ?_
        refine cseq ?_
        refine cregion ?_
        refine sv rfl (opv_fieldAddr_lp fi25_0 rfl) ?_
        refine sv rfl (opv_load1 ti22 rfl (.lp _ _ _ rfl) rfl) ?_
        refine sv rfl (opv_mv rfl) ?_
        obtain ⟨u9, hu9, h⟩ := bind_eq h
        refine sv rfl (opv_ix (f := (eL eU8)) si22 (fun _ => rfl) rfl rfl rfl rfl hu9) ?_
        refine sv rfl (opv_load1 ti26 rfl (.cp _) rfl) ?_
        refine sv rfl (opv_len_sl si26 rfl) ?_
        refine sv rfl (opv_gtr rfl rfl) ?_
        refine snil ?_
        refine ccond rfl (fun hc => ?_) (fun hc => ?_)
        · replace h := ite_t hc h
          clear hc
          refine cseq ?_
          refine cregion ?_
          refine sv rfl (opv_as rfl) ?_
          refine snil ?_
          refine cret ?_
          refine block_ret ?_
          refine then_ret ?_
          refine then_ret ?_
          refine block_ret ?_
          refine then_ret ?_
          obtain rfl := Option.some.inj h
          obtain rfl : Sum.inl _ = x8 := hk8
          replace ho8 : some _ = some _ := ho8
          obtain rfl := Option.some.inj ho8
          refine ⟨Or.inr rfl, _, _, _, (resVs_cons (ResV.tmp _ _ rfl) resVs_nil), (pubA_id rfl), ?_⟩
          rfl
        · replace h := ite_f hc h
          clear hc
          refine cskip ?_
          refine block_normal ?_
          refine then_normal ?_
          refine cregion ?_
          refine sv rfl (opv_mv rfl) ?_
          refine sv rfl (opv_add rfl rfl) ?_
          refine sv rfl (opv_as rfl) ?_
          refine snil ?_
          obtain rfl := Option.some.inj h
          exact ⟨(n8, (wI (s8 + 1))), _, hk8, ⟨rfl, rfl, trivial⟩, rfl, Nat.lt_succ_self _⟩
      · replace h := ite_f hc h
        clear hc
        refine cexit ?_
        refine then_exit ?_
        refine then_exit ?_
        refine block_hit ?_
        refine then_normal ?_
        obtain rfl := Option.some.inj h
        obtain rfl : _ = x8 := hk8
        exact ⟨(), _, ho8, ⟨rfl, trivial⟩, rfl⟩
  · skip
    refine cregion ?_
    refine sv rfl (opv_fieldAddr_lp fi25_0 rfl) ?_
    refine sv rfl (opv_load1 ti22 rfl (.lp _ _ _ rfl) rfl) ?_
    refine sv rfl (opv_len_sl si22 rfl) ?_
    refine sv rfl (opv_gtr rfl rfl) ?_
    refine sv rfl (opv_mv rfl) ?_
    refine ssplit 9 rfl (fun hc => ?_) (fun hc => ?_)
    · replace h := ite_t hc h
      clear hc
      refine soff rfl rfl rfl rfl ?_
      refine soff rfl rfl rfl rfl ?_
      refine soff rfl rfl rfl rfl ?_
      refine soff rfl rfl rfl rfl ?_
      refine sv rfl (opv_pick_t rfl rfl) ?_
      refine snil ?_
      refine ccond rfl (fun _ => ?_) (fun hx => Bool.noConfusion hx)
      refine cseq ?_
      refine cregion ?_
      refine sv rfl (opv_as rfl) ?_
      refine snil ?_
      refine cret ?_
      refine then_ret ?_
      obtain rfl := Option.some.inj h
      refine ⟨Or.inr rfl, _, _, _, (resVs_cons (ResV.tmp _ _ rfl) resVs_nil), (pubA_id rfl), ?_⟩
      rfl
    · replace h := ite_f hc h
      clear hc
      refine son rfl rfl rfl ?_
      refine sv rfl (opv_fieldAddr_lp fi25_1 rfl) ?_
      refine son rfl rfl rfl ?_
      refine sv rfl (opv_load1 ti23 rfl (.lp _ _ _ rfl) rfl) ?_
      refine son rfl rfl rfl ?_
      refine sv rfl (opv_len_sl si23 rfl) ?_
      refine son rfl rfl rfl ?_
      refine sv rfl (opv_gtr rfl rfl) ?_
      refine sv rfl (opv_pick_f rfl rfl) ?_
      refine snil ?_
      refine ccond rfl (fun hc => ?_) (fun hc => ?_)
      · replace h := ite_t hc h
        clear hc
        refine cseq ?_
        refine cregion ?_
        refine sv rfl (opv_as rfl) ?_
        refine snil ?_
        refine cret ?_
        refine then_ret ?_
        obtain rfl := Option.some.inj h
        refine ⟨Or.inr rfl, _, _, _, (resVs_cons (ResV.tmp _ _ rfl) resVs_nil), (pubA_id rfl), ?_⟩
        rfl
      · replace h := ite_f hc h
        clear hc
        refine cskip ?_
        refine then_normal ?_
        exact ⟨(), _, h, ⟨rfl, trivial⟩, rfl⟩

def m11_r06_Short (a0 : GApiRange) : Option Bool :=
  if (decide ((a0.Lo.length : Int) ≤ 100)) then (some (decide ((a0.Hi.length : Int) ≤ 100))) else (some false)

set_option maxRecDepth 100000 in
theorem m11_r06_Short_c {a0 : GApiRange} {r : Bool} (h : m11_r06_Short a0 = some r) : CallsA Try.prog 11 [.agg a0] (· = .s (.one (.b r))) := by
  unfold m11_r06_Short at h
  refine callsA_of Try.func11 rfl (nt := 13) rfl (Nat.le_of_ble_eq_true rfl) ?_
  intro w0 S0
  refine cseq ?_
  refine cregion ?_
  refine sbox rfl rfl ?_
  refine sv rfl (opv_as rfl) ?_
  refine snil ?_
  refine cseq ?_
  refine cregion ?_
  refine sv rfl (opv_fieldAddr_lp fi28_0 rfl) ?_
  refine sv rfl (opv_load1 ti26 rfl (.lp _ _ _ rfl) rfl) ?_
  refine sv rfl (opv_len_sl si26 rfl) ?_
  refine sv rfl (opv_leq rfl rfl) ?_
  refine sv rfl (opv_mv rfl) ?_
  refine ssplit 7 rfl (fun hc => ?_) (fun hc => ?_)
  · replace h := ite_t hc h
    clear hc
    refine son rfl rfl rfl ?_
    refine sv rfl (opv_fieldAddr_lp fi28_1 rfl) ?_
    refine son rfl rfl rfl ?_
    refine sv rfl (opv_load1 ti26 rfl (.lp _ _ _ rfl) rfl) ?_
    refine son rfl rfl rfl ?_
    refine sv rfl (opv_len_sl si26 rfl) ?_
    refine son rfl rfl rfl ?_
    refine sv rfl (opv_leq rfl rfl) ?_
    refine sv rfl (opv_pick_t rfl rfl) ?_
    refine sv rfl (opv_as rfl) ?_
    refine snil ?_
    refine cret ?_
    obtain rfl := Option.some.inj h
    refine ⟨Or.inr rfl, _, _, _, (resVs_cons (ResV.tmp _ _ rfl) resVs_nil), (pubA_id rfl), ?_⟩
    rfl
  · replace h := ite_f hc h
    clear hc
    refine soff rfl rfl rfl rfl ?_
    refine soff rfl rfl rfl rfl ?_
    refine soff rfl rfl rfl rfl ?_
    refine soff rfl rfl rfl rfl ?_
    refine sv rfl (opv_pick_f rfl rfl) ?_
    refine sv rfl (opv_as rfl) ?_
    refine snil ?_
    refine cret ?_
    obtain rfl := Option.some.inj h
    refine ⟨Or.inr rfl, _, _, _, (resVs_cons (ResV.tmp _ _ rfl) resVs_nil), (pubA_id rfl), ?_⟩
    rfl

def m12_r08_FewWrites_k1 (b1 : Unit) : Option Bool :=
  some true

def m12_r08_FewWrites_s2 (a0 : List GApiWrite) (s2 : Int) : Option (LR (Int) (Unit) (Bool)) :=
  if (decide (s2 < (a0.length : Int))) then ((idx a0 s2).bind fun u3 => if (decide (50 < (u3.Key.length : Int))) then (some (.ret false)) else ((idx a0 s2).bind fun u4 => if (decide (100 < (u4.Val.length : Int))) then (some (.ret false)) else (some (.cont (wI (s2 + 1)))))) else (some (.brk ()))
def m12_r08_FewWrites (a0 : List GApiWrite) : Option Bool :=
  if (decide (140 < (a0.length : Int))) then (some false) else ((iter (m12_r08_FewWrites_s2 a0) fuel 0).bind fun x => match x with | .inl r => some r | .inr e5 => m12_r08_FewWrites_k1 e5)

set_option maxRecDepth 100000 in
theorem m12_r08_FewWrites_c {a0 : List GApiWrite} {r : Bool} (h : m12_r08_FewWrites a0 = some r) : CallsA Try.prog 12 [.one (.sl a0.length (a0.flatMap eGApiWrite))] (· = .s (.one (.b r))) := by
  unfold m12_r08_FewWrites at h
  refine callsA_of Try.func12 rfl (nt := 29) rfl (Nat.le_of_ble_eq_true rfl) ?_
  intro w0 S0
  refine cseq ?_
  refine cregion ?_
  refine sv rfl (opv_as rfl) ?_
  refine snil ?_
  refine cseq ?_
  refine cseq ?_
  refine cregion ?_
  refine sv rfl (opv_mv rfl) ?_
  refine sv rfl (opv_len_sl si29 rfl) ?_
  refine sv rfl (opv_gtr rfl rfl) ?_
  refine snil ?_
  refine ccond rfl (fun hc => ?_) (fun hc => ?_)
  · replace h := ite_t hc h
    clear hc
    refine cseq ?_
    refine cregion ?_
    refine sv rfl (opv_as rfl) ?_
    refine snil ?_
    refine cret ?_
    refine then_ret ?_
    obtain rfl := Option.some.inj h
    refine ⟨Or.inr rfl, _, _, _, (resVs_cons (ResV.tmp _ _ rfl) resVs_nil), (pubA_id rfl), ?_⟩
    rfl
  · replace h := ite_f hc h
    clear hc
    refine cskip ?_
    refine then_normal ?_
    refine cseq ?_
    refine cseq ?_
    refine cregion ?_
    refine sv rfl (opv_as rfl) ?_
    refine snil ?_
    refine cjoin (Unit) (fun b1 => []) (fun b1 => []) (fun b1 => m12_r08_FewWrites_k1 b1 = some r) (fun _ _ => inbL_of rfl) (fun _ _ => blkinb_of rfl) (fun _ _ => Nat.le_of_ble_eq_true rfl) (fun b1 h => ?_) ?_
    · unfold m12_r08_FewWrites_k1 at h
      refine cseq ?_
      refine cregion ?_
      refine sv rfl (opv_as rfl) ?_
      refine snil ?_
      refine cret ?_
      obtain rfl := Option.some.inj h
      refine ⟨Or.inr rfl, _, _, _, (resVs_cons (ResV.tmp _ _ rfl) resVs_nil), (pubA_id rfl), ?_⟩
      rfl
    · skip
      refine cblock ?_
      obtain ⟨x2, hx2, ho2⟩ := bind_eq h
      refine awc_loop (G := Nat × (Int)) (fun g => [(0, .s (.one (.sl a0.length (a0.flatMap eGApiWrite)))), (3, .s (.one (.i .i64 g.2)))]) (fun g => []) (fun g => iter (m12_r08_FewWrites_s2 a0) g.1 g.2 = some x2) (fun g => g.1) (fuel, 0) hx2 ⟨rfl, rfl, trivial⟩ [] rfl (fun _ _ => inbL_of rfl) (fun _ _ => blkinb_of rfl) (fun _ _ => Nat.le_of_ble_eq_true rfl) ?_
      clear hx2 h
      rintro ⟨n2, s2⟩ h
      obtain ⟨n2, y2, rfl, h, hk2⟩ := iter_eq h
      unfold m12_r08_FewWrites_s2 at h
      refine cseq ?_
      refine cseq ?_
      refine cregion ?_
      refine sv rfl (opv_mv rfl) ?_
      refine sv rfl (opv_mv rfl) ?_
      refine sv rfl (opv_len_sl si29 rfl) ?_
      refine sv rfl (opv_lss rfl rfl) ?_
      refine snil ?_
      refine ccond rfl (fun hc => ?_) (fun hc => ?_)
      · replace h := ite_t hc h
        clear hc
        refine cskip ?_
        refine then_normal ?_
        refine cseq ?_
        refine cblock ?_
        refine cseq ?_
        refine cregion ?_
        refine sv rfl (opv_mv rfl) ?_
        refine sv rfl (opv_mv rfl) ?_
        obtain ⟨u3, hu3, h⟩ := bind_eq h
        refine sv rfl (opv_ix (f := eGApiWrite) si29 (fun _ => rfl) rfl rfl rfl rfl hu3) ?_
        refine sv rfl (opv_fieldAddr_cp fi67_0 rfl) ?_
        refine sv rfl (opv_load1 ti26 rfl (.cp _) rfl) ?_
        refine sv rfl (opv_len_sl si26 rfl) ?_
        refine sv rfl (opv_gtr rfl rfl) ?_
        refine sv rfl (opv_mv rfl) ?_
        refine ssplit 20 rfl (fun hc => ?_) (fun hc => ?_)
        · replace h := ite_t hc h
          clear hc
          refine soff rfl rfl rfl rfl ?_
          refine soff rfl rfl rfl rfl ?_
          refine soff rfl rfl rfl rfl ?_
          refine soff rfl rfl rfl rfl ?_
          refine soff rfl rfl rfl rfl ?_
          refine soff rfl rfl rfl rfl ?_
          refine soff rfl rfl rfl rfl ?_
          refine sv rfl (opv_pick_t rfl rfl) ?_
          refine snil ?_
          refine ccond rfl (fun _ => ?_) (fun hx => Bool.noConfusion hx)
          refine cseq ?_
          refine cregion ?_
          refine sv rfl (opv_as rfl) ?_
          refine snil ?_
          refine cret ?_
          refine block_ret ?_
          refine then_ret ?_
          refine then_ret ?_
          refine block_ret ?_
          refine then_ret ?_
          obtain rfl := Option.some.inj h
          obtain rfl : Sum.inl _ = x2 := hk2
          replace ho2 : some _ = some _ := ho2
          obtain rfl := Option.some.inj ho2
          refine ⟨Or.inr rfl, _, _, _, (resVs_cons (ResV.tmp _ _ rfl) resVs_nil), (pubA_id rfl), ?_⟩
          rfl
        · replace h := ite_f hc h
          clear hc
          refine son rfl rfl rfl ?_
          refine sv rfl (opv_mv rfl) ?_
          refine son rfl rfl rfl ?_
          refine sv rfl (opv_mv rfl) ?_
          refine son rfl rfl rfl ?_
          obtain ⟨u4, hu4, h⟩ := bind_eq h
          refine sv rfl (opv_ix (f := eGApiWrite) si29 (fun _ => rfl) rfl rfl rfl rfl hu4) ?_
          refine son rfl rfl rfl ?_
          refine sv rfl (opv_fieldAddr_cp fi67_1 rfl) ?_
          refine son rfl rfl rfl ?_
          refine sv rfl (opv_load1 ti26 rfl (.cp _) rfl) ?_
          refine son rfl rfl rfl ?_
          refine sv rfl (opv_len_sl si26 rfl) ?_
          refine son rfl rfl rfl ?_
          refine sv rfl (opv_gtr rfl rfl) ?_
          refine sv rfl (opv_pick_f rfl rfl) ?_
          refine snil ?_
          refine ccond rfl (fun hc => ?_) (fun hc => ?_)
          · replace h := ite_t hc h
            clear hc
            refine cseq ?_
            refine cregion ?_
            refine sv rfl (opv_as rfl) ?_
            refine snil ?_
            refine cret ?_
            refine block_ret ?_
            refine then_ret ?_
            refine then_ret ?_
            refine block_ret ?_
            refine then_ret ?_
            obtain rfl := Option.some.inj h
            obtain rfl : Sum.inl _ = x2 := hk2
            replace ho2 : some _ = some _ := ho2
            obtain rfl := Option.some.inj ho2
            refine ⟨Or.inr rfl, _, _, _, (resVs_cons (ResV.tmp _ _ rfl) resVs_nil), (pubA_id rfl), ?_⟩
            rfl
          · replace h := ite_f hc h
            clear hc
            refine cskip ?_
            refine block_normal ?_
            refine then_normal ?_
            refine cregion ?_
            refine sv rfl (opv_mv rfl) ?_
            refine sv rfl (opv_add rfl rfl) ?_
            refine sv rfl (opv_as rfl) ?_
            refine snil ?_
            obtain rfl := Option.some.inj h
            exact ⟨(n2, (wI (s2 + 1))), _, hk2, ⟨rfl, rfl, trivial⟩, rfl, Nat.lt_succ_self _⟩
      · replace h := ite_f hc h
        clear hc
        refine cexit ?_
        refine then_exit ?_
        refine then_exit ?_
        refine block_hit ?_
        refine then_normal ?_
        obtain rfl := Option.some.inj h
        obtain rfl : _ = x2 := hk2
        exact ⟨(), _, ho2, trivial, rfl⟩

def m13_l08_ours_k1 (a0 : GR08Store) (b1 : (List GChainChain)) : Option GStoreStore :=
  some (GStoreStore.mk a0.Keys b1 a0.Ts)

def m13_l08_ours_k3 (s2 : Int × (List GChainChain)) (b3 : (List GChainVer)) : Option (LB (Int × (List GChainChain)) ((List GChainChain))) :=
  if (s2.2.length + [(GChainChain.mk b3)].length) * 24 ≤ 140737488355328 then (some (.cont ((wI (s2.1 + 1)), (s2.2 ++ [(GChainChain.mk b3)])))) else none

def m13_l08_ours_s5 (a0 : GR08Store) (s2 : Int × (List GChainChain)) (s5 : Int × (List GChainVer)) : Option (LB (Int × (List GChainVer)) ((List GChainVer))) :=
  (idx a0.Chains s2.1).bind fun u6 => if (decide (s5.1 < (u6.L.length : Int))) then ((idx a0.Chains s2.1).bind fun u7 => (idx u7.L s5.1).bind fun u8 => if (s5.2.length + [(GChainVer.mk u8.Ts u8.Val u8.Del)].length) * 40 ≤ 140737488355328 then (some (.cont ((wI (s5.1 + 1)), (s5.2 ++ [(GChainVer.mk u8.Ts u8.Val u8.Del)])))) else none) else (some (.brk s5.2))

def m13_l08_ours_s2 (a0 : GR08Store) (s2 : Int × (List GChainChain)) : Option (LB (Int × (List GChainChain)) ((List GChainChain))) :=
  if (decide (s2.1 < (a0.Chains.length : Int))) then ((iterB (m13_l08_ours_s5 a0 s2) fuel (0, ([] : List GChainVer))).bind fun e10 => m13_l08_ours_k3 s2 e10) else (some (.brk s2.2))
def m13_l08_ours (a0 : GR08Store) : Option GStoreStore :=
  (iterB (m13_l08_ours_s2 a0) fuel (0, ([] : List GChainChain))).bind fun e11 => m13_l08_ours_k1 a0 e11

set_option maxRecDepth 100000 in
theorem m13_l08_ours_c {a0 : GR08Store} {r : GStoreStore} (h : m13_l08_ours a0 = some r) : CallsA Try.prog 13 [.agg a0] (· = .s (.agg r)) := by
  unfold m13_l08_ours at h
  refine callsA_of Try.func13 rfl (nt := 60) rfl (Nat.le_of_ble_eq_true rfl) ?_
  intro w0 S0
  refine cseq ?_
  refine cregion ?_
  refine sbox rfl rfl ?_
  refine salloc rfl zi36 ?_
  refine snil ?_
  refine cseq ?_
  refine cregion ?_
  refine sv rfl (opv_fieldAddr_lp fi25_0 rfl) ?_
  refine sv rfl (opv_load1 ti22 rfl (.lp _ _ _ rfl) rfl) ?_
  refine sv rfl (opv_fieldAddr_lp fi25_2 rfl) ?_
  refine sv rfl (opv_load1 ti3 rfl (.lp _ _ _ rfl) rfl) ?_
  refine sv rfl (opv_build zi36 pi36 (parts_cons rfl (parts_cons rfl parts_nil)) (.cons _ _ _ _ _ _ _ rfl rfl (Nat.le_of_ble_eq_true rfl) (.cons _ _ _ _ _ _ _ rfl rfl (Nat.le_of_ble_eq_true rfl) (.nil _)))) ?_
  refine salloc rfl zi36 ?_
  refine sstore sz36 rfl rfl rfl rfl (Nat.le_of_ble_eq_true rfl) ?_
  refine smem [.box a0, .box [.raw (.slice none 0 0), .raw (.slice none 0 0), .i .i64 0], .box [.sl a0.Keys.length (a0.Keys.flatMap (eL eU8)), .raw (.slice none 0 0), .i .i64 a0.Ts]] rfl ?_
  refine snil ?_
  refine cseq ?_
  refine cseq ?_
  refine cregion ?_
  refine sv rfl (opv_as rfl) ?_
  refine snil ?_
  refine sadopt_box_c 82 1 2 1 (by decide) rfl rfl ?_
  refine cjoin ((List GChainChain)) (fun b1 => [(2, .s (.one (.lp 1 0))), (3, .s (.one (.lp 2 0)))]) (fun b1 => [.box a0, .box [.raw (.slice none 0 0), .raw (.slice none 0 0), .i .i64 0], .box [.sl a0.Keys.length (a0.Keys.flatMap (eL eU8)), .ls 3 b1.length, .i .i64 a0.Ts], .arr 82 1 0 (b1.flatMap eGChainChain)]) (fun b1 => m13_l08_ours_k1 a0 b1 = some r) (fun _ _ => inbL_of rfl) (fun _ _ => blkinb_of rfl) (fun _ _ => Nat.le_of_ble_eq_true rfl) (fun b1 h => ?_) ?_
  · unfold m13_l08_ours_k1 at h
    refine cseq ?_
    refine cregion ?_
    refine sv rfl (opv_loadN ti36 rfl (.lp _ _ _ rfl) (Nat.le_of_ble_eq_true rfl)) ?_
    refine sstore sz36 rfl rfl rfl rfl (Nat.le_of_ble_eq_true rfl) ?_
    refine smem [.box a0, .box [.sl a0.Keys.length (a0.Keys.flatMap (eL eU8)), .ls 3 b1.length, .i .i64 a0.Ts], .box [.sl a0.Keys.length (a0.Keys.flatMap (eL eU8)), .ls 3 b1.length, .i .i64 a0.Ts], .arr 82 1 0 (b1.flatMap eGChainChain)] rfl ?_
    refine snil ?_
    refine cret ?_
    obtain rfl := Option.some.inj h
    refine ⟨Or.inr rfl, _, _, _, (resVs_cons (ResV.agg _ _ _ _ _ ti36 rfl (.lp _ _ _ rfl) (Nat.le_of_ble_eq_true rfl)) resVs_nil), (by (repeat' first | exact PubA.nil _ | apply PubA.cons | apply PubV.one | apply PubV.agg | exact PubL.nil | exact PubL.ls _ _ _ _ _ _ rfl (flat_len (f := eGChainChain) (fun _ => rfl) _).symm | exact PubL.id _ rfl | exact PubLs.nil _ | apply PubLs.cons)), ?_⟩
    rfl
  · skip
    refine cblock ?_
    obtain ⟨x2, hx2, ho2⟩ := bind_eq h
    refine awc_loop (G := Nat × (Int × (List GChainChain))) (fun g => [(1, .s (.one (.lp 0 0))), (2, .s (.one (.lp 1 0))), (3, .s (.one (.lp 2 0))), (4, .s (.one (.i .i64 g.2.1)))]) (fun g => [.box a0, .box [.raw (.slice none 0 0), .raw (.slice none 0 0), .i .i64 0], .box [.sl a0.Keys.length (a0.Keys.flatMap (eL eU8)), .ls 3 g.2.2.length, .i .i64 a0.Ts], .arr 82 1 0 (g.2.2.flatMap eGChainChain)]) (fun g => iterB (m13_l08_ours_s2 a0) g.1 g.2 = some x2) (fun g => g.1) (fuel, (0, ([] : List GChainChain))) hx2 ⟨rfl, rfl, rfl, rfl, trivial⟩ [] rfl (fun _ _ => inbL_of rfl) (fun _ _ => blkinb_of rfl) (fun _ _ => Nat.le_of_ble_eq_true rfl) ?_
    clear hx2 h
    rintro ⟨n2, s2⟩ h
    obtain ⟨n2, y2, rfl, h, hk2⟩ := iterB_eq h
    unfold m13_l08_ours_s2 at h
    refine cseq ?_
    refine cseq ?_
    refine cregion ?_
    refine sv rfl (opv_mv rfl) ?_
    refine sv rfl (opv_fieldAddr_lp fi25_1 rfl) ?_
    refine sv rfl (opv_load1 ti23 rfl (.lp _ _ _ rfl) rfl) ?_
    refine sv rfl (opv_len_sl si23 rfl) ?_
    refine sv rfl (opv_lss rfl rfl) ?_
    refine snil ?_
    refine ccond rfl (fun hc => ?_) (fun hc => ?_)
    · replace h := ite_t hc h
      clear hc
      refine cskip ?_
      refine then_normal ?_
      refine cseq ?_
      refine cblock ?_
      refine cseq ?_
      refine cregion ?_
      refine sv rfl (opv_build zi82 pi82 parts_nil (.nil _)) ?_
      refine salloc rfl zi82 ?_
      refine sstore sz82 rfl rfl rfl rfl (Nat.le_of_ble_eq_true rfl) ?_
      refine smem [.box a0, .box [.raw (.slice none 0 0), .raw (.slice none 0 0), .i .i64 0], .box [.sl a0.Keys.length (a0.Keys.flatMap (eL eU8)), .ls 3 s2.2.length, .i .i64 a0.Ts], .arr 82 1 0 (s2.2.flatMap eGChainChain), .box [.raw (.slice none 0 0)]] rfl ?_
      refine snil ?_
      refine cseq ?_
      refine cseq ?_
      refine cregion ?_
      refine sv rfl (opv_as rfl) ?_
      refine snil ?_
      refine sadopt_box_c 85 3 4 0 (by decide) rfl rfl ?_
      refine cjoin ((List GChainVer)) (fun b3 => [(1, .s (.one (.lp 0 0))), (2, .s (.one (.lp 1 0))), (3, .s (.one (.lp 2 0))), (4, .s (.one (.i .i64 s2.1))), (5, .s (.one (.lp 4 0)))]) (fun b3 => [.box a0, .box [.raw (.slice none 0 0), .raw (.slice none 0 0), .i .i64 0], .box [.sl a0.Keys.length (a0.Keys.flatMap (eL eU8)), .ls 3 s2.2.length, .i .i64 a0.Ts], .arr 82 1 0 (s2.2.flatMap eGChainChain), .box [.ls 5 b3.length], .arr 85 3 0 (b3.flatMap eGChainVer)]) (fun b3 => m13_l08_ours_k3 s2 b3 = some y2) (fun _ _ => inbL_of rfl) (fun _ _ => blkinb_of rfl) (fun _ _ => Nat.le_of_ble_eq_true rfl) (fun b3 h => ?_) ?_
      · unfold m13_l08_ours_k3 at h
        refine cregion ?_
        refine sv rfl (opv_fieldAddr_lp fi36_1 rfl) ?_
        refine sv rfl (opv_load1 ti34 rfl (.lp _ _ _ rfl) rfl) ?_
        refine sv rfl (opv_loadN ti82 rfl (.lp _ _ _ rfl) (Nat.le_of_ble_eq_true rfl)) ?_
        refine spub 55 rfl (by (repeat' first | exact PubA.nil _ | apply PubA.cons | apply PubV.one | apply PubV.agg | exact PubL.nil | exact PubL.ls _ _ _ _ _ _ rfl (flat_len (f := eGChainChain) (fun _ => rfl) _).symm | exact PubL.ls _ _ _ _ _ _ rfl (flat_len (f := eGChainVer) (fun _ => rfl) _).symm | exact PubL.id _ rfl | exact PubLs.nil _ | apply PubLs.cons)) ?_
        refine sbuild1 rfl Try.underlying34 ei82 rfl rfl (List.all_eq_true.1 rfl) (by decide) ?_
        refine smem [.box a0, .box [.raw (.slice none 0 0), .raw (.slice none 0 0), .i .i64 0], .box [.sl a0.Keys.length (a0.Keys.flatMap (eL eU8)), .ls 3 s2.2.length, .i .i64 a0.Ts], .arr 82 1 0 (s2.2.flatMap eGChainChain), .box [.ls 5 b3.length], .arr 85 3 (b3.flatMap eGChainVer).length (b3.flatMap eGChainVer), .arr 82 1 0 ([(GChainChain.mk b3)].flatMap eGChainChain)] rfl ?_
        obtain ⟨hb4, h⟩ := chk_eq h
        refine sapp (f := eGChainChain) (xs := s2.2) (us := [(GChainChain.mk b3)]) rfl Try.underlying34 ei82 ni34 (fun _ => rfl) rfl rfl (.one _ _ _ _ (.ls _ _ _ _ _ _ rfl (flat_len (f := eGChainChain) (fun _ => rfl) [(GChainChain.mk b3)]).symm)) rfl rfl rfl (.sl _ _ _ (flat_len (f := eGChainChain) (fun _ => rfl) _)) rfl rfl hb4 (by decide) ?_
        refine sv rfl (opv_fieldAddr_lp fi36_1 rfl) ?_
        refine sstore sz34 rfl rfl rfl rfl (Nat.le_of_ble_eq_true rfl) ?_
        refine smem [.box a0, .box [.raw (.slice none 0 0), .raw (.slice none 0 0), .i .i64 0], .box [.sl a0.Keys.length (a0.Keys.flatMap (eL eU8)), .ls 3 (s2.2 ++ [(GChainChain.mk b3)]).length, .i .i64 a0.Ts], .arr 82 1 0 ((s2.2 ++ [(GChainChain.mk b3)]).flatMap eGChainChain), .box [.ls 5 b3.length], .arr 85 3 (b3.flatMap eGChainVer).length (b3.flatMap eGChainVer), .arr 82 1 ([(GChainChain.mk b3)].flatMap eGChainChain).length ([(GChainChain.mk b3)].flatMap eGChainChain)] rfl ?_
        refine snil0 ?_
        refine block_normal ?_
        refine then_normal ?_
        refine cregion ?_
        refine sv rfl (opv_mv rfl) ?_
        refine sv rfl (opv_add rfl rfl) ?_
        refine sv rfl (opv_as rfl) ?_
        refine snil ?_
        obtain rfl := Option.some.inj h
        exact ⟨(n2, ((wI (s2.1 + 1)), (s2.2 ++ [(GChainChain.mk b3)]))), _, hk2, ⟨rfl, rfl, rfl, rfl, trivial⟩, rfl, Nat.lt_succ_self _⟩
      · skip
        refine cblock ?_
        obtain ⟨x5, hx5, ho5⟩ := bind_eq h
        refine awc_loop (G := Nat × (Int × (List GChainVer))) (fun g => [(1, .s (.one (.lp 0 0))), (2, .s (.one (.lp 1 0))), (3, .s (.one (.lp 2 0))), (4, .s (.one (.i .i64 s2.1))), (5, .s (.one (.lp 4 0))), (6, .s (.one (.i .i64 g.2.1)))]) (fun g => [.box a0, .box [.raw (.slice none 0 0), .raw (.slice none 0 0), .i .i64 0], .box [.sl a0.Keys.length (a0.Keys.flatMap (eL eU8)), .ls 3 s2.2.length, .i .i64 a0.Ts], .arr 82 1 0 (s2.2.flatMap eGChainChain), .box [.ls 5 g.2.2.length], .arr 85 3 0 (g.2.2.flatMap eGChainVer)]) (fun g => iterB (m13_l08_ours_s5 a0 s2) g.1 g.2 = some x5) (fun g => g.1) (fuel, (0, ([] : List GChainVer))) hx5 ⟨rfl, rfl, rfl, rfl, rfl, rfl, trivial⟩ [] rfl (fun _ _ => inbL_of rfl) (fun _ _ => blkinb_of rfl) (fun _ _ => Nat.le_of_ble_eq_true rfl) ?_
        clear hx5 h
        rintro ⟨n5, s5⟩ h
        obtain ⟨n5, y5, rfl, h, hk5⟩ := iterB_eq h
        unfold m13_l08_ours_s5 at h
        refine cseq ?_
        refine cseq ?_
        refine cregion ?_
        refine sv rfl (opv_mv rfl) ?_
        refine sv rfl (opv_fieldAddr_lp fi25_1 rfl) ?_
        refine sv rfl (opv_load1 ti23 rfl (.lp _ _ _ rfl) rfl) ?_
        refine sv rfl (opv_mv rfl) ?_
        obtain ⟨u6, hu6, h⟩ := bind_eq h
        refine sv rfl (opv_ix (f := eGR07Chain) si23 (fun _ => rfl) rfl rfl rfl rfl hu6) ?_
        refine sv rfl (opv_fieldAddr_cp fi79_0 rfl) ?_
        refine sv rfl (opv_load1 ti77 rfl (.cp _) rfl) ?_
        refine sv rfl (opv_len_sl si77 rfl) ?_
        refine sv rfl (opv_lss rfl rfl) ?_
        refine snil ?_
        refine ccond rfl (fun hc => ?_) (fun hc => ?_)
        · replace h := ite_t hc h
          clear hc
          refine cskip ?_
          refine then_normal ?_
          refine cseq ?_
          refine cblock ?_
          refine cseq ?_
          refine cregion ?_
          refine sv rfl (opv_fieldAddr_lp fi25_1 rfl) ?_
          refine sv rfl (opv_load1 ti23 rfl (.lp _ _ _ rfl) rfl) ?_
          refine sv rfl (opv_mv rfl) ?_
          obtain ⟨u7, hu7, h⟩ := bind_eq h
          refine sv rfl (opv_ix (f := eGR07Chain) si23 (fun _ => rfl) rfl rfl rfl rfl hu7) ?_
          refine sv rfl (opv_fieldAddr_cp fi79_0 rfl) ?_
          refine sv rfl (opv_load1 ti77 rfl (.cp _) rfl) ?_
          refine sv rfl (opv_mv rfl) ?_
          obtain ⟨u8, hu8, h⟩ := bind_eq h
          refine sv rfl (opv_ix (f := eGR07Ver) si77 (fun _ => rfl) rfl rfl rfl rfl hu8) ?_
          refine sv rfl (opv_loadNe (ys := [.i .i64 u8.Ts, .sl u8.Val.length (u8.Val.flatMap eU8), .b u8.Del]) ti84 rfl (.cp _) rfl rfl) ?_
          refine salloc rfl zi84 ?_
          refine sstore sz84 rfl rfl rfl rfl (Nat.le_of_ble_eq_true rfl) ?_
          refine smem [.box a0, .box [.raw (.slice none 0 0), .raw (.slice none 0 0), .i .i64 0], .box [.sl a0.Keys.length (a0.Keys.flatMap (eL eU8)), .ls 3 s2.2.length, .i .i64 a0.Ts], .arr 82 1 0 (s2.2.flatMap eGChainChain), .box [.ls 5 s5.2.length], .arr 85 3 0 (s5.2.flatMap eGChainVer), .box u8] rfl ?_
          refine snil ?_
          refine cregion ?_
          refine sv rfl (opv_fieldAddr_lp fi82_0 rfl) ?_
          refine sv rfl (opv_load1 ti80 rfl (.lp _ _ _ rfl) rfl) ?_
          refine sv rfl (opv_fieldAddr_lp fi84_0 rfl) ?_
          refine sv rfl (opv_load1 ti3 rfl (.lp _ _ _ rfl) rfl) ?_
          refine sv rfl (opv_fieldAddr_lp fi84_1 rfl) ?_
          refine sv rfl (opv_load1 ti26 rfl (.lp _ _ _ rfl) rfl) ?_
          refine sv rfl (opv_fieldAddr_lp fi84_2 rfl) ?_
          refine sv rfl (opv_load1 ti4 rfl (.lp _ _ _ rfl) rfl) ?_
          refine sv rfl (opv_build zi85 pi85 (parts_cons rfl (parts_cons rfl (parts_cons rfl parts_nil))) (.cons _ _ _ _ _ _ _ rfl rfl (Nat.le_of_ble_eq_true rfl) (.cons _ _ _ _ _ _ _ rfl rfl (Nat.le_of_ble_eq_true rfl) (.cons _ _ _ _ _ _ _ rfl rfl (Nat.le_of_ble_eq_true rfl) (.nil _))))) ?_
          refine sbuild1 rfl Try.underlying80 ei85 rfl rfl (List.all_eq_true.1 rfl) (by decide) ?_
          refine smem [.box a0, .box [.raw (.slice none 0 0), .raw (.slice none 0 0), .i .i64 0], .box [.sl a0.Keys.length (a0.Keys.flatMap (eL eU8)), .ls 3 s2.2.length, .i .i64 a0.Ts], .arr 82 1 0 (s2.2.flatMap eGChainChain), .box [.ls 5 s5.2.length], .arr 85 3 0 (s5.2.flatMap eGChainVer), .box u8, .arr 85 3 0 ([(GChainVer.mk u8.Ts u8.Val u8.Del)].flatMap eGChainVer)] rfl ?_
          obtain ⟨hb9, h⟩ := chk_eq h
          refine sapp (f := eGChainVer) (xs := s5.2) (us := [(GChainVer.mk u8.Ts u8.Val u8.Del)]) rfl Try.underlying80 ei85 ni80 (fun _ => rfl) rfl rfl (.one _ _ _ _ (.ls _ _ _ _ _ _ rfl (flat_len (f := eGChainVer) (fun _ => rfl) [(GChainVer.mk u8.Ts u8.Val u8.Del)]).symm)) rfl rfl rfl (.sl _ _ _ (flat_len (f := eGChainVer) (fun _ => rfl) _)) rfl rfl hb9 (by decide) ?_
          refine sv rfl (opv_fieldAddr_lp fi82_0 rfl) ?_
          refine sstore sz80 rfl rfl rfl rfl (Nat.le_of_ble_eq_true rfl) ?_
          refine smem [.box a0, .box [.raw (.slice none 0 0), .raw (.slice none 0 0), .i .i64 0], .box [.sl a0.Keys.length (a0.Keys.flatMap (eL eU8)), .ls 3 s2.2.length, .i .i64 a0.Ts], .arr 82 1 0 (s2.2.flatMap eGChainChain), .box [.ls 5 (s5.2 ++ [(GChainVer.mk u8.Ts u8.Val u8.Del)]).length], .arr 85 3 0 ((s5.2 ++ [(GChainVer.mk u8.Ts u8.Val u8.Del)]).flatMap eGChainVer), .box u8, .arr 85 3 ([(GChainVer.mk u8.Ts u8.Val u8.Del)].flatMap eGChainVer).length ([(GChainVer.mk u8.Ts u8.Val u8.Del)].flatMap eGChainVer)] rfl ?_
          refine snil0 ?_
          refine block_normal ?_
          refine then_normal ?_
          refine cregion ?_
          refine sv rfl (opv_mv rfl) ?_
          refine sv rfl (opv_add rfl rfl) ?_
          refine sv rfl (opv_as rfl) ?_
          refine snil ?_
          obtain rfl := Option.some.inj h
          exact ⟨(n5, ((wI (s5.1 + 1)), (s5.2 ++ [(GChainVer.mk u8.Ts u8.Val u8.Del)]))), _, hk5, ⟨rfl, rfl, rfl, rfl, rfl, rfl, trivial⟩, rfl, Nat.lt_succ_self _⟩
        · replace h := ite_f hc h
          clear hc
          refine cexit ?_
          refine then_exit ?_
          refine then_exit ?_
          refine block_hit ?_
          refine then_normal ?_
          obtain rfl := Option.some.inj h
          obtain rfl : _ = x5 := hk5
          exact ⟨s5.2, _, ho5, ⟨rfl, rfl, rfl, rfl, rfl, trivial⟩, rfl⟩
    · replace h := ite_f hc h
      clear hc
      refine cexit ?_
      refine then_exit ?_
      refine then_exit ?_
      refine block_hit ?_
      refine then_normal ?_
      obtain rfl := Option.some.inj h
      obtain rfl : _ = x2 := hk2
      exact ⟨s2.2, _, ho2, ⟨rfl, rfl, trivial⟩, rfl⟩

def m60_r06_Cmp_k1 (a0 : List UInt8) (a1 : List UInt8) (b1 : Unit) : Option Int :=
  if (decide ((a0.length : Int) < (a1.length : Int))) then (some (-1)) else (if (decide ((a1.length : Int) < (a0.length : Int))) then (some 1) else (some 0))

def m60_r06_Cmp_k3 (a0 : List UInt8) (a1 : List UInt8) (s2 : Int) (b3 : Unit) : Option (LR (Int) (Unit) (Int)) :=
  (idx a0 s2).bind fun u4 => (idx a1 s2).bind fun u5 => if (decide ((u4.toBitVec.toNat : Int) < (u5.toBitVec.toNat : Int))) then (some (.ret (-1))) else ((idx a0 s2).bind fun u6 => (idx a1 s2).bind fun u7 => if (decide ((u7.toBitVec.toNat : Int) < (u6.toBitVec.toNat : Int))) then (some (.ret 1)) else (some (.cont (wI (s2 + 1)))))

def m60_r06_Cmp_s2 (a0 : List UInt8) (a1 : List UInt8) (s2 : Int) : Option (LR (Int) (Unit) (Int)) :=
  if (decide (s2 < (a0.length : Int))) then (if (decide (s2 < (a1.length : Int))) then (m60_r06_Cmp_k3 a0 a1 s2 ()) else (some (.brk ()))) else (some (.brk ()))
def m60_r06_Cmp (a0 : List UInt8) (a1 : List UInt8) : Option Int :=
  (iter (m60_r06_Cmp_s2 a0 a1) fuel 0).bind fun x => match x with | .inl r => some r | .inr e8 => m60_r06_Cmp_k1 a0 a1 e8

set_option maxRecDepth 100000 in
theorem m60_r06_Cmp_c {a0 : List UInt8} {a1 : List UInt8} {r : Int} (h : m60_r06_Cmp a0 a1 = some r) : CallsA Try.prog 60 [.one (.sl a0.length (a0.flatMap eU8)), .one (.sl a1.length (a1.flatMap eU8))] (· = .s (.one (.i .i64 r))) := by
  unfold m60_r06_Cmp at h
  refine callsA_of Try.func60 rfl (nt := 46) rfl (Nat.le_of_ble_eq_true rfl) ?_
  intro w0 S0
  refine cseq ?_
  refine cregion ?_
  refine sv rfl (opv_as rfl) ?_
  refine snil ?_
  refine cseq ?_
  refine cseq ?_
  refine cregion ?_
  refine sv rfl (opv_as rfl) ?_
  refine snil ?_
  refine cjoin (Unit) (fun b1 => [(0, .s (.one (.sl a0.length (a0.flatMap eU8)))), (1, .s (.one (.sl a1.length (a1.flatMap eU8))))]) (fun b1 => []) (fun b1 => m60_r06_Cmp_k1 a0 a1 b1 = some r) (fun _ _ => inbL_of rfl) (fun _ _ => blkinb_of rfl) (fun _ _ => Nat.le_of_ble_eq_true rfl) (fun b1 h => ?_) ?_
  · unfold m60_r06_Cmp_k1 at h
    refine cseq ?_
    refine cseq ?_
    refine cregion ?_
    refine sv rfl (opv_mv rfl) ?_
    refine sv rfl (opv_len_sl si26 rfl) ?_
    refine sv rfl (opv_mv rfl) ?_
    refine sv rfl (opv_len_sl si26 rfl) ?_
    refine sv rfl (opv_lss rfl rfl) ?_
    refine snil ?_
    refine ccond rfl (fun hc => ?_) (fun hc => ?_)
    · replace h := ite_t hc h
      clear hc
      refine cseq ?_
      refine cregion ?_
      refine sv rfl (opv_as rfl) ?_
      refine snil ?_
      refine cret ?_
      refine then_ret ?_
      obtain rfl := Option.some.inj h
      refine ⟨Or.inr rfl, _, _, _, (resVs_cons (ResV.tmp _ _ rfl) resVs_nil), (pubA_id rfl), ?_⟩
      rfl
    · replace h := ite_f hc h
      clear hc
      refine cskip ?_
      refine then_normal ?_
      refine cseq ?_
      refine cseq ?_
      refine cregion ?_
      refine sv rfl (opv_mv rfl) ?_
      refine sv rfl (opv_len_sl si26 rfl) ?_
      refine sv rfl (opv_mv rfl) ?_
      refine sv rfl (opv_len_sl si26 rfl) ?_
      refine sv rfl (opv_gtr rfl rfl) ?_
      refine snil ?_
      refine ccond rfl (fun hc => ?_) (fun hc => ?_)
      · replace h := ite_t hc h
        clear hc
        refine cseq ?_
        refine cregion ?_
        refine sv rfl (opv_as rfl) ?_
        refine snil ?_
        refine cret ?_
        refine then_ret ?_
        obtain rfl := Option.some.inj h
        refine ⟨Or.inr rfl, _, _, _, (resVs_cons (ResV.tmp _ _ rfl) resVs_nil), (pubA_id rfl), ?_⟩
        rfl
      · replace h := ite_f hc h
        clear hc
        refine cskip ?_
        refine then_normal ?_
        refine cseq ?_
        refine cregion ?_
        refine sv rfl (opv_as rfl) ?_
        refine snil ?_
        refine cret ?_
        obtain rfl := Option.some.inj h
        refine ⟨Or.inr rfl, _, _, _, (resVs_cons (ResV.tmp _ _ rfl) resVs_nil), (pubA_id rfl), ?_⟩
        rfl
  · skip
    refine cblock ?_
    obtain ⟨x2, hx2, ho2⟩ := bind_eq h
    refine awc_loop (G := Nat × (Int)) (fun g => [(0, .s (.one (.sl a0.length (a0.flatMap eU8)))), (1, .s (.one (.sl a1.length (a1.flatMap eU8)))), (5, .s (.one (.i .i64 g.2)))]) (fun g => []) (fun g => iter (m60_r06_Cmp_s2 a0 a1) g.1 g.2 = some x2) (fun g => g.1) (fuel, 0) hx2 ⟨rfl, rfl, rfl, trivial⟩ [] rfl (fun _ _ => inbL_of rfl) (fun _ _ => blkinb_of rfl) (fun _ _ => Nat.le_of_ble_eq_true rfl) ?_
    clear hx2 h
    rintro ⟨n2, s2⟩ h
    obtain ⟨n2, y2, rfl, h, hk2⟩ := iter_eq h
    unfold m60_r06_Cmp_s2 at h
    refine cseq ?_
    refine cseq ?_
    refine cjoin3 (Unit) (fun b3 => [(0, .s (.one (.sl a0.length (a0.flatMap eU8)))), (1, .s (.one (.sl a1.length (a1.flatMap eU8)))), (5, .s (.one (.i .i64 s2)))]) (fun b3 => []) (fun b3 => m60_r06_Cmp_k3 a0 a1 s2 b3 = some y2) (fun _ _ => inbL_of rfl) (fun _ _ => blkinb_of rfl) (fun _ _ => Nat.le_of_ble_eq_true rfl) (fun b3 h => ?_) ?_
    · unfold m60_r06_Cmp_k3 at h
      refine cseq ?_
      refine cblock ?_
      refine cseq ?_
      refine cseq ?_
      refine cdraw mixed (by kernel_rfl) ?_
      refine dv rfl (opv_mv rfl) ?_
      refine dv rfl (opv_mv rfl) ?_
      obtain ⟨u4, hu4, h⟩ := bind_eq h
      refine dv rfl (opv_ix (f := eU8) si26 (fun _ => rfl) rfl rfl rfl rfl hu4) ?_
      refine dv rfl (opv_load1 ti5 rfl (.cp _) rfl) ?_
      refine dv rfl (opv_mv rfl) ?_
      refine dv rfl (opv_mv rfl) ?_
      obtain ⟨u5, hu5, h⟩ := bind_eq h
      refine dv rfl (opv_ix (f := eU8) si26 (fun _ => rfl) rfl rfl rfl rfl hu5) ?_
      refine dv rfl (opv_load1 ti5 rfl (.cp _) rfl) ?_
      refine dv rfl (opv_lss rfl rfl) ?_
      refine dnil ?_
      refine then_normal ?_
      refine ccond rfl (fun hc => ?_) (fun hc => ?_)
      · replace h := ite_t hc h
        clear hc
        refine cseq ?_
        refine cregion ?_
        refine sv rfl (opv_as rfl) ?_
        refine snil ?_
        refine cret ?_
        refine then_ret ?_
        refine block_ret ?_
        refine then_ret ?_
        refine then_ret ?_
        refine block_ret ?_
        refine then_ret ?_
        obtain rfl := Option.some.inj h
        obtain rfl : Sum.inl _ = x2 := hk2
        replace ho2 : some _ = some _ := ho2
        obtain rfl := Option.some.inj ho2
        refine ⟨Or.inr rfl, _, _, _, (resVs_cons (ResV.tmp _ _ rfl) resVs_nil), (pubA_id rfl), ?_⟩
        rfl
      · replace h := ite_f hc h
        clear hc
        refine cskip ?_
        refine then_normal ?_
        refine cseq ?_
        refine cdraw mixed (by kernel_rfl) ?_
        refine dv rfl (opv_mv rfl) ?_
        refine dv rfl (opv_mv rfl) ?_
        obtain ⟨u6, hu6, h⟩ := bind_eq h
        refine dv rfl (opv_ix (f := eU8) si26 (fun _ => rfl) rfl rfl rfl rfl hu6) ?_
        refine dv rfl (opv_load1 ti5 rfl (.cp _) rfl) ?_
        refine dv rfl (opv_mv rfl) ?_
        refine dv rfl (opv_mv rfl) ?_
        obtain ⟨u7, hu7, h⟩ := bind_eq h
        refine dv rfl (opv_ix (f := eU8) si26 (fun _ => rfl) rfl rfl rfl rfl hu7) ?_
        refine dv rfl (opv_load1 ti5 rfl (.cp _) rfl) ?_
        refine dv rfl (opv_gtr rfl rfl) ?_
        refine dnil ?_
        refine then_normal ?_
        refine ccond rfl (fun hc => ?_) (fun hc => ?_)
        · replace h := ite_t hc h
          clear hc
          refine cseq ?_
          refine cregion ?_
          refine sv rfl (opv_as rfl) ?_
          refine snil ?_
          refine cret ?_
          refine block_ret ?_
          refine then_ret ?_
          refine then_ret ?_
          refine block_ret ?_
          refine then_ret ?_
          obtain rfl := Option.some.inj h
          obtain rfl : Sum.inl _ = x2 := hk2
          replace ho2 : some _ = some _ := ho2
          obtain rfl := Option.some.inj ho2
          refine ⟨Or.inr rfl, _, _, _, (resVs_cons (ResV.tmp _ _ rfl) resVs_nil), (pubA_id rfl), ?_⟩
          rfl
        · replace h := ite_f hc h
          clear hc
          refine cskip ?_
          refine block_normal ?_
          refine then_normal ?_
          refine cregion ?_
          refine sv rfl (opv_mv rfl) ?_
          refine sv rfl (opv_add rfl rfl) ?_
          refine sv rfl (opv_as rfl) ?_
          refine snil ?_
          obtain rfl := Option.some.inj h
          exact ⟨(n2, (wI (s2 + 1))), _, hk2, ⟨rfl, rfl, rfl, trivial⟩, rfl, Nat.lt_succ_self _⟩
    · skip
      refine cregion ?_
      refine sv rfl (opv_mv rfl) ?_
      refine sv rfl (opv_mv rfl) ?_
      refine sv rfl (opv_len_sl si26 rfl) ?_
      refine sv rfl (opv_lss rfl rfl) ?_
      refine sv rfl (opv_mv rfl) ?_
      refine ssplit 10 rfl (fun hc => ?_) (fun hc => ?_)
      · replace h := ite_t hc h
        clear hc
        refine son rfl rfl rfl ?_
        refine sv rfl (opv_mv rfl) ?_
        refine son rfl rfl rfl ?_
        refine sv rfl (opv_mv rfl) ?_
        refine son rfl rfl rfl ?_
        refine sv rfl (opv_len_sl si26 rfl) ?_
        refine son rfl rfl rfl ?_
        refine sv rfl (opv_lss rfl rfl) ?_
        refine sv rfl (opv_pick_t rfl rfl) ?_
        refine snil ?_
        refine ccond rfl (fun hc => ?_) (fun hc => ?_)
        · replace h := ite_t hc h
          clear hc
          refine cskip ?_
          refine then_normal ?_
          exact ⟨(), _, h, ⟨rfl, rfl, rfl, trivial⟩, rfl⟩
        · replace h := ite_f hc h
          clear hc
          refine cexit ?_
          refine then_exit ?_
          refine then_exit ?_
          refine block_hit ?_
          refine then_normal ?_
          obtain rfl := Option.some.inj h
          obtain rfl : _ = x2 := hk2
          exact ⟨(), _, ho2, ⟨rfl, rfl, trivial⟩, rfl⟩
      · replace h := ite_f hc h
        clear hc
        refine soff rfl rfl rfl rfl ?_
        refine soff rfl rfl rfl rfl ?_
        refine soff rfl rfl rfl rfl ?_
        refine soff rfl rfl rfl rfl ?_
        refine sv rfl (opv_pick_f rfl rfl) ?_
        refine snil ?_
        refine ccond rfl (fun hx => Bool.noConfusion hx) (fun _ => ?_)
        refine cexit ?_
        refine then_exit ?_
        refine then_exit ?_
        refine block_hit ?_
        refine then_normal ?_
        obtain rfl := Option.some.inj h
        obtain rfl : _ = x2 := hk2
        exact ⟨(), _, ho2, ⟨rfl, rfl, trivial⟩, rfl⟩

def m66_r06_Find_k1 (a0 : List (List UInt8)) (b1 : Unit) : Option (Int × Bool) :=
  some ((a0.length : Int), false)

def m66_r06_Find_s2 (a0 : List (List UInt8)) (a1 : List UInt8) (s2 : Int) : Option (LR (Int) (Unit) (Int × Bool)) :=
  if (decide (s2 < (a0.length : Int))) then ((idx a0 s2).bind fun u3 => (m60_r06_Cmp u3 a1).bind fun v4 => if (decide (0 ≤ v4)) then ((idx a0 s2).bind fun u5 => (m60_r06_Cmp u5 a1).bind fun v6 => some (.ret (s2, (decide (v6 = 0))))) else (some (.cont (wI (s2 + 1))))) else (some (.brk ()))
def m66_r06_Find (a0 : List (List UInt8)) (a1 : List UInt8) : Option (Int × Bool) :=
  (iter (m66_r06_Find_s2 a0 a1) fuel 0).bind fun x => match x with | .inl r => some r | .inr e7 => m66_r06_Find_k1 a0 e7

set_option maxRecDepth 100000 in
theorem m66_r06_Find_c {a0 : List (List UInt8)} {a1 : List UInt8} {r : Int × Bool} (h : m66_r06_Find a0 a1 = some r) : CallsA Try.prog 66 [.one (.sl a0.length (a0.flatMap (eL eU8))), .one (.sl a1.length (a1.flatMap eU8))] (· = .tup [.one (.i .i64 r.1), .one (.b r.2)]) := by
  unfold m66_r06_Find at h
  refine callsA_of Try.func66 rfl (nt := 30) rfl (Nat.le_of_ble_eq_true rfl) ?_
  intro w0 S0
  refine cseq ?_
  refine cregion ?_
  refine sv rfl (opv_as rfl) ?_
  refine sv rfl (opv_as rfl) ?_
  refine snil ?_
  refine cseq ?_
  refine cseq ?_
  refine cregion ?_
  refine sv rfl (opv_as rfl) ?_
  refine snil ?_
  refine cjoin (Unit) (fun b1 => [(0, .s (.one (.sl a0.length (a0.flatMap (eL eU8)))))]) (fun b1 => []) (fun b1 => m66_r06_Find_k1 a0 b1 = some r) (fun _ _ => inbL_of rfl) (fun _ _ => blkinb_of rfl) (fun _ _ => Nat.le_of_ble_eq_true rfl) (fun b1 h => ?_) ?_
  · unfold m66_r06_Find_k1 at h
    refine cseq ?_
    refine cregion ?_
    refine sv rfl (opv_mv rfl) ?_
    refine sv rfl (opv_len_sl si22 rfl) ?_
    refine sv rfl (opv_as rfl) ?_
    refine sv rfl (opv_as rfl) ?_
    refine snil ?_
    refine cret ?_
    obtain rfl := Option.some.inj h
    refine ⟨Or.inr rfl, _, _, _, (resVs_cons (ResV.tmp _ _ rfl) (resVs_cons (ResV.tmp _ _ rfl) resVs_nil)), (pubA_id rfl), ?_⟩
    rfl
  · skip
    refine cblock ?_
    obtain ⟨x2, hx2, ho2⟩ := bind_eq h
    refine awc_loop (G := Nat × (Int)) (fun g => [(0, .s (.one (.sl a0.length (a0.flatMap (eL eU8))))), (1, .s (.one (.sl a1.length (a1.flatMap eU8)))), (6, .s (.one (.i .i64 g.2)))]) (fun g => []) (fun g => iter (m66_r06_Find_s2 a0 a1) g.1 g.2 = some x2) (fun g => g.1) (fuel, 0) hx2 ⟨rfl, rfl, rfl, trivial⟩ [] rfl (fun _ _ => inbL_of rfl) (fun _ _ => blkinb_of rfl) (fun _ _ => Nat.le_of_ble_eq_true rfl) ?_
    clear hx2 h
    rintro ⟨n2, s2⟩ h
    obtain ⟨n2, y2, rfl, h, hk2⟩ := iter_eq h
    unfold m66_r06_Find_s2 at h
    refine cseq ?_
    refine cseq ?_
    refine cregion ?_
    refine sv rfl (opv_mv rfl) ?_
    refine sv rfl (opv_mv rfl) ?_
    refine sv rfl (opv_len_sl si22 rfl) ?_
    refine sv rfl (opv_lss rfl rfl) ?_
    refine snil ?_
    refine ccond rfl (fun hc => ?_) (fun hc => ?_)
    · replace h := ite_t hc h
      clear hc
      refine cskip ?_
      refine then_normal ?_
      refine cseq ?_
      refine cblock ?_
      refine cseq ?_
      refine cregion ?_
      refine sv rfl (opv_mv rfl) ?_
      refine sv rfl (opv_mv rfl) ?_
      obtain ⟨u3, hu3, h⟩ := bind_eq h
      refine sv rfl (opv_ix (f := (eL eU8)) si22 (fun _ => rfl) rfl rfl rfl rfl hu3) ?_
      refine sv rfl (opv_load1 ti26 rfl (.cp _) rfl) ?_
      refine sv rfl (opv_mv rfl) ?_
      obtain ⟨v4, hv4, h⟩ := bind_eq h
      refine scall1 rfl fn60 (opnds_cons rfl (opnds_cons rfl opnds_nil)) (pubA_id rfl) (m60_r06_Cmp_c hv4) ?_
      refine sv rfl (opv_geq rfl rfl) ?_
      refine snil ?_
      refine ccond rfl (fun hc => ?_) (fun hc => ?_)
      · replace h := ite_t hc h
        clear hc
        refine cseq ?_
        refine cregion ?_
        refine sv rfl (opv_mv rfl) ?_
        refine sv rfl (opv_mv rfl) ?_
        refine sv rfl (opv_mv rfl) ?_
        obtain ⟨u5, hu5, h⟩ := bind_eq h
        refine sv rfl (opv_ix (f := (eL eU8)) si22 (fun _ => rfl) rfl rfl rfl rfl hu5) ?_
        refine sv rfl (opv_load1 ti26 rfl (.cp _) rfl) ?_
        refine sv rfl (opv_mv rfl) ?_
        obtain ⟨v6, hv6, h⟩ := bind_eq h
        refine scall1 rfl fn60 (opnds_cons rfl (opnds_cons rfl opnds_nil)) (pubA_id rfl) (m60_r06_Cmp_c hv6) ?_
        refine sv rfl (opv_ieql rfl rfl) ?_
        refine sv rfl (opv_as rfl) ?_
        refine sv rfl (opv_as rfl) ?_
        refine snil ?_
        refine cret ?_
        refine block_ret ?_
        refine then_ret ?_
        refine then_ret ?_
        refine block_ret ?_
        refine then_ret ?_
        obtain rfl := Option.some.inj h
        obtain rfl : Sum.inl _ = x2 := hk2
        replace ho2 : some _ = some _ := ho2
        obtain rfl := Option.some.inj ho2
        refine ⟨Or.inr rfl, _, _, _, (resVs_cons (ResV.tmp _ _ rfl) (resVs_cons (ResV.tmp _ _ rfl) resVs_nil)), (pubA_id rfl), ?_⟩
        rfl
      · replace h := ite_f hc h
        clear hc
        refine cskip ?_
        refine block_normal ?_
        refine then_normal ?_
        refine cregion ?_
        refine sv rfl (opv_mv rfl) ?_
        refine sv rfl (opv_add rfl rfl) ?_
        refine sv rfl (opv_as rfl) ?_
        refine snil ?_
        obtain rfl := Option.some.inj h
        exact ⟨(n2, (wI (s2 + 1))), _, hk2, ⟨rfl, rfl, rfl, trivial⟩, rfl, Nat.lt_succ_self _⟩
    · replace h := ite_f hc h
      clear hc
      refine cexit ?_
      refine then_exit ?_
      refine then_exit ?_
      refine block_hit ?_
      refine then_normal ?_
      obtain rfl := Option.some.inj h
      obtain rfl : _ = x2 := hk2
      exact ⟨(), _, ho2, ⟨rfl, trivial⟩, rfl⟩

def m54_r06_Sorted_k1 (b1 : Unit) : Option Bool :=
  some true

def m54_r06_Sorted_s2 (a0 : List (List UInt8)) (s2 : Int) : Option (LR (Int) (Unit) (Bool)) :=
  if (decide (s2 < (a0.length : Int))) then ((idx a0 (wI (s2 - 1))).bind fun u3 => (idx a0 s2).bind fun u4 => (m60_r06_Cmp u3 u4).bind fun v5 => if (decide (0 ≤ v5)) then (some (.ret false)) else (some (.cont (wI (s2 + 1))))) else (some (.brk ()))
def m54_r06_Sorted (a0 : List (List UInt8)) : Option Bool :=
  (iter (m54_r06_Sorted_s2 a0) fuel 1).bind fun x => match x with | .inl r => some r | .inr e6 => m54_r06_Sorted_k1 e6

set_option maxRecDepth 100000 in
theorem m54_r06_Sorted_c {a0 : List (List UInt8)} {r : Bool} (h : m54_r06_Sorted a0 = some r) : CallsA Try.prog 54 [.one (.sl a0.length (a0.flatMap (eL eU8)))] (· = .s (.one (.b r))) := by
  unfold m54_r06_Sorted at h
  refine callsA_of Try.func54 rfl (nt := 21) rfl (Nat.le_of_ble_eq_true rfl) ?_
  intro w0 S0
  refine cseq ?_
  refine cregion ?_
  refine sv rfl (opv_as rfl) ?_
  refine snil ?_
  refine cseq ?_
  refine cseq ?_
  refine cregion ?_
  refine sv rfl (opv_as rfl) ?_
  refine snil ?_
  refine cjoin (Unit) (fun b1 => []) (fun b1 => []) (fun b1 => m54_r06_Sorted_k1 b1 = some r) (fun _ _ => inbL_of rfl) (fun _ _ => blkinb_of rfl) (fun _ _ => Nat.le_of_ble_eq_true rfl) (fun b1 h => ?_) ?_
  · unfold m54_r06_Sorted_k1 at h
    refine cseq ?_
    refine cregion ?_
    refine sv rfl (opv_as rfl) ?_
    refine snil ?_
    refine cret ?_
    obtain rfl := Option.some.inj h
    refine ⟨Or.inr rfl, _, _, _, (resVs_cons (ResV.tmp _ _ rfl) resVs_nil), (pubA_id rfl), ?_⟩
    rfl
  · skip
    refine cblock ?_
    obtain ⟨x2, hx2, ho2⟩ := bind_eq h
    refine awc_loop (G := Nat × (Int)) (fun g => [(0, .s (.one (.sl a0.length (a0.flatMap (eL eU8))))), (3, .s (.one (.i .i64 g.2)))]) (fun g => []) (fun g => iter (m54_r06_Sorted_s2 a0) g.1 g.2 = some x2) (fun g => g.1) (fuel, 1) hx2 ⟨rfl, rfl, trivial⟩ [] rfl (fun _ _ => inbL_of rfl) (fun _ _ => blkinb_of rfl) (fun _ _ => Nat.le_of_ble_eq_true rfl) ?_
    clear hx2 h
    rintro ⟨n2, s2⟩ h
    obtain ⟨n2, y2, rfl, h, hk2⟩ := iter_eq h
    unfold m54_r06_Sorted_s2 at h
    refine cseq ?_
    refine cseq ?_
    refine cregion ?_
    refine sv rfl (opv_mv rfl) ?_
    refine sv rfl (opv_mv rfl) ?_
    refine sv rfl (opv_len_sl si22 rfl) ?_
    refine sv rfl (opv_lss rfl rfl) ?_
    refine snil ?_
    refine ccond rfl (fun hc => ?_) (fun hc => ?_)
    · replace h := ite_t hc h
      clear hc
      refine cskip ?_
      refine then_normal ?_
      refine cseq ?_
      refine cblock ?_
      refine cseq ?_
      refine cdraw mixed (by kernel_rfl) ?_
      refine dv rfl (opv_mv rfl) ?_
      refine dv rfl (opv_mv rfl) ?_
      refine dv rfl (opv_sub rfl rfl) ?_
      obtain ⟨u3, hu3, h⟩ := bind_eq h
      refine dv rfl (opv_ix (f := (eL eU8)) si22 (fun _ => rfl) rfl rfl rfl rfl hu3) ?_
      refine dv rfl (opv_load1 ti26 rfl (.cp _) rfl) ?_
      refine dv rfl (opv_mv rfl) ?_
      refine dv rfl (opv_mv rfl) ?_
      obtain ⟨u4, hu4, h⟩ := bind_eq h
      refine dv rfl (opv_ix (f := (eL eU8)) si22 (fun _ => rfl) rfl rfl rfl rfl hu4) ?_
      refine dv rfl (opv_load1 ti26 rfl (.cp _) rfl) ?_
      obtain ⟨v5, hv5, h⟩ := bind_eq h
      refine dd rfl (opD_call fn60 (opnds_cons rfl (opnds_cons rfl opnds_nil)) rfl (m60_r06_Cmp_c hv5)) ?_
      refine dv rfl (opv_geq rfl rfl) ?_
      refine dnil ?_
      refine then_normal ?_
      refine ccond rfl (fun hc => ?_) (fun hc => ?_)
      · replace h := ite_t hc h
        clear hc
        refine cseq ?_
        refine cregion ?_
        refine sv rfl (opv_as rfl) ?_
        refine snil ?_
        refine cret ?_
        refine block_ret ?_
        refine then_ret ?_
        refine then_ret ?_
        refine block_ret ?_
        refine then_ret ?_
        obtain rfl := Option.some.inj h
        obtain rfl : Sum.inl _ = x2 := hk2
        replace ho2 : some _ = some _ := ho2
        obtain rfl := Option.some.inj ho2
        refine ⟨Or.inr rfl, _, _, _, (resVs_cons (ResV.tmp _ _ rfl) resVs_nil), (pubA_id rfl), ?_⟩
        rfl
      · replace h := ite_f hc h
        clear hc
        refine cskip ?_
        refine block_normal ?_
        refine then_normal ?_
        refine cregion ?_
        refine sv rfl (opv_mv rfl) ?_
        refine sv rfl (opv_add rfl rfl) ?_
        refine sv rfl (opv_as rfl) ?_
        refine snil ?_
        obtain rfl := Option.some.inj h
        exact ⟨(n2, (wI (s2 + 1))), _, hk2, ⟨rfl, rfl, trivial⟩, rfl, Nat.lt_succ_self _⟩
    · replace h := ite_f hc h
      clear hc
      refine cexit ?_
      refine then_exit ?_
      refine then_exit ?_
      refine block_hit ?_
      refine then_normal ?_
      obtain rfl := Option.some.inj h
      obtain rfl : _ = x2 := hk2
      exact ⟨(), _, ho2, trivial, rfl⟩

def m55_r06_Sane (a0 : List UInt8) : Option Bool :=
  if (decide (1 ≤ (a0.length : Int))) then (some (decide ((a0.length : Int) ≤ 16))) else (some false)

set_option maxRecDepth 100000 in
theorem m55_r06_Sane_c {a0 : List UInt8} {r : Bool} (h : m55_r06_Sane a0 = some r) : CallsA Try.prog 55 [.one (.sl a0.length (a0.flatMap eU8))] (· = .s (.one (.b r))) := by
  unfold m55_r06_Sane at h
  refine callsA_of Try.func55 rfl (nt := 11) rfl (Nat.le_of_ble_eq_true rfl) ?_
  intro w0 S0
  refine cseq ?_
  refine cregion ?_
  refine sv rfl (opv_as rfl) ?_
  refine snil ?_
  refine cseq ?_
  refine cregion ?_
  refine sv rfl (opv_mv rfl) ?_
  refine sv rfl (opv_len_sl si26 rfl) ?_
  refine sv rfl (opv_geq rfl rfl) ?_
  refine sv rfl (opv_mv rfl) ?_
  refine ssplit 6 rfl (fun hc => ?_) (fun hc => ?_)
  · replace h := ite_t hc h
    clear hc
    refine son rfl rfl rfl ?_
    refine sv rfl (opv_mv rfl) ?_
    refine son rfl rfl rfl ?_
    refine sv rfl (opv_len_sl si26 rfl) ?_
    refine son rfl rfl rfl ?_
    refine sv rfl (opv_leq rfl rfl) ?_
    refine sv rfl (opv_pick_t rfl rfl) ?_
    refine sv rfl (opv_as rfl) ?_
    refine snil ?_
    refine cret ?_
    obtain rfl := Option.some.inj h
    refine ⟨Or.inr rfl, _, _, _, (resVs_cons (ResV.tmp _ _ rfl) resVs_nil), (pubA_id rfl), ?_⟩
    rfl
  · replace h := ite_f hc h
    clear hc
    refine soff rfl rfl rfl rfl ?_
    refine soff rfl rfl rfl rfl ?_
    refine soff rfl rfl rfl rfl ?_
    refine sv rfl (opv_pick_f rfl rfl) ?_
    refine sv rfl (opv_as rfl) ?_
    refine snil ?_
    refine cret ?_
    obtain rfl := Option.some.inj h
    refine ⟨Or.inr rfl, _, _, _, (resVs_cons (ResV.tmp _ _ rfl) resVs_nil), (pubA_id rfl), ?_⟩
    rfl

def m56_r07_Sane_k1 (b1 : Unit) : Option Bool :=
  some true

def m56_r07_Sane_s2 (a0 : GR07Chain) (s2 : Int) : Option (LR (Int) (Unit) (Bool)) :=
  if (decide (s2 < (a0.L.length : Int))) then ((idx a0.L s2).bind fun u3 => if (decide (u3.Ts < 1)) then (some (.ret false)) else (if (decide (1099511627776 < u3.Ts)) then (some (.ret false)) else (if (decide (0 < s2)) then ((idx a0.L (wI (s2 - 1))).bind fun u4 => if (decide (u3.Ts ≤ u4.Ts)) then (some (.ret false)) else (if (decide (32 < (u3.Val.length : Int))) then (some (.ret false)) else (if u3.Del then (if (decide (0 < (u3.Val.length : Int))) then (some (.ret false)) else (some (.cont (wI (s2 + 1))))) else (some (.cont (wI (s2 + 1))))))) else (if (decide (32 < (u3.Val.length : Int))) then (some (.ret false)) else (if u3.Del then (if (decide (0 < (u3.Val.length : Int))) then (some (.ret false)) else (some (.cont (wI (s2 + 1))))) else (some (.cont (wI (s2 + 1))))))))) else (some (.brk ()))
def m56_r07_Sane (a0 : GR07Chain) : Option Bool :=
  (iter (m56_r07_Sane_s2 a0) fuel 0).bind fun x => match x with | .inl r => some r | .inr e5 => m56_r07_Sane_k1 e5

set_option maxRecDepth 100000 in
theorem m56_r07_Sane_c {a0 : GR07Chain} {r : Bool} (h : m56_r07_Sane a0 = some r) : CallsA Try.prog 56 [.agg [.sl a0.L.length (a0.L.flatMap eGR07Ver)]] (· = .s (.one (.b r))) := by
  unfold m56_r07_Sane at h
  refine callsA_of Try.func56 rfl (nt := 57) rfl (Nat.le_of_ble_eq_true rfl) ?_
  intro w0 S0
  refine cseq ?_
  refine cregion ?_
  refine sbox rfl rfl ?_
  refine sv rfl (opv_as rfl) ?_
  refine snil ?_
  refine cseq ?_
  refine cseq ?_
  refine cregion ?_
  refine sv rfl (opv_as rfl) ?_
  refine snil ?_
  refine cjoin (Unit) (fun b1 => []) (fun b1 => [.box [.sl a0.L.length (a0.L.flatMap eGR07Ver)]]) (fun b1 => m56_r07_Sane_k1 b1 = some r) (fun _ _ => inbL_of rfl) (fun _ _ => blkinb_of rfl) (fun _ _ => Nat.le_of_ble_eq_true rfl) (fun b1 h => ?_) ?_
  · unfold m56_r07_Sane_k1 at h
    refine cseq ?_
    refine cregion ?_
    refine sv rfl (opv_as rfl) ?_
    refine snil ?_
    refine cret ?_
    obtain rfl := Option.some.inj h
    refine ⟨Or.inr rfl, _, _, _, (resVs_cons (ResV.tmp _ _ rfl) resVs_nil), (pubA_id rfl), ?_⟩
    rfl
  · skip
    refine cblock ?_
    obtain ⟨x2, hx2, ho2⟩ := bind_eq h
    refine awc_loop (G := Nat × (Int)) (fun g => [(1, .s (.one (.lp 0 0))), (3, .s (.one (.i .i64 g.2)))]) (fun g => [.box [.sl a0.L.length (a0.L.flatMap eGR07Ver)]]) (fun g => iter (m56_r07_Sane_s2 a0) g.1 g.2 = some x2) (fun g => g.1) (fuel, 0) hx2 ⟨rfl, rfl, trivial⟩ [] rfl (fun _ _ => inbL_of rfl) (fun _ _ => blkinb_of rfl) (fun _ _ => Nat.le_of_ble_eq_true rfl) ?_
    clear hx2 h
    rintro ⟨n2, s2⟩ h
    obtain ⟨n2, y2, rfl, h, hk2⟩ := iter_eq h
    unfold m56_r07_Sane_s2 at h
    refine cseq ?_
    refine cseq ?_
    refine cregion ?_
    refine sv rfl (opv_mv rfl) ?_
    refine sv rfl (opv_fieldAddr_lp fi79_0 rfl) ?_
    refine sv rfl (opv_load1 ti77 rfl (.lp _ _ _ rfl) rfl) ?_
    refine sv rfl (opv_len_sl si77 rfl) ?_
    refine sv rfl (opv_lss rfl rfl) ?_
    refine snil ?_
    refine ccond rfl (fun hc => ?_) (fun hc => ?_)
    · replace h := ite_t hc h
      clear hc
      refine cskip ?_
      refine then_normal ?_
      refine cseq ?_
      refine cblock ?_
      refine cseq ?_
      refine cregion ?_
      refine sv rfl (opv_fieldAddr_lp fi79_0 rfl) ?_
      refine sv rfl (opv_load1 ti77 rfl (.lp _ _ _ rfl) rfl) ?_
      refine sv rfl (opv_mv rfl) ?_
      obtain ⟨u3, hu3, h⟩ := bind_eq h
      refine sv rfl (opv_ix (f := eGR07Ver) si77 (fun _ => rfl) rfl rfl rfl rfl hu3) ?_
      refine sv rfl (opv_loadNe (ys := [.i .i64 u3.Ts, .sl u3.Val.length (u3.Val.flatMap eU8), .b u3.Del]) ti84 rfl (.cp _) rfl rfl) ?_
      refine salloc rfl zi84 ?_
      refine sstore sz84 rfl rfl rfl rfl (Nat.le_of_ble_eq_true rfl) ?_
      refine smem [.box [.sl a0.L.length (a0.L.flatMap eGR07Ver)], .box u3] rfl ?_
      refine snil ?_
      refine cseq ?_
      refine cdraw mixed (by kernel_rfl) ?_
      refine dv rfl (opv_fieldAddr_lp fi84_0 rfl) ?_
      refine dv rfl (opv_load1 ti3 rfl (.lp _ _ _ rfl) rfl) ?_
      refine dv rfl (opv_lss rfl rfl) ?_
      refine dv rfl (opv_mv rfl) ?_
      refine dsplit 20 rfl (fun hc => ?_) (fun hc => ?_)
      · replace h := ite_t hc h
        clear hc
        refine doff rfl rfl rfl rfl ?_
        refine doff rfl rfl rfl rfl ?_
        refine doff rfl rfl rfl rfl ?_
        refine dv rfl (opv_pick_t rfl rfl) ?_
        refine dv rfl (opv_mv rfl) ?_
        refine doff rfl rfl rfl rfl ?_
        refine doff rfl rfl rfl rfl ?_
        refine doff rfl rfl rfl rfl ?_
        refine doffu rfl rfl rfl ?_
        refine doffu rfl rfl rfl ?_
        refine doffu rfl rfl rfl ?_
        refine doffu rfl rfl rfl ?_
        refine doffu rfl rfl rfl ?_
        refine doffu rfl rfl rfl ?_
        refine doffu rfl rfl rfl ?_
        refine doffu rfl rfl rfl ?_
        refine doffu rfl rfl rfl ?_
        refine doffu rfl rfl rfl ?_
        refine doff rfl rfl rfl rfl ?_
        refine dv rfl (opv_pick_t rfl rfl) ?_
        refine dv rfl (opv_mv rfl) ?_
        refine doff rfl rfl rfl rfl ?_
        refine doff rfl rfl rfl rfl ?_
        refine doff rfl rfl rfl rfl ?_
        refine doff rfl rfl rfl rfl ?_
        refine dv rfl (opv_pick_t rfl rfl) ?_
        refine dv rfl (opv_mv rfl) ?_
        refine doff rfl rfl rfl rfl ?_
        refine doff rfl rfl rfl rfl ?_
        refine doff rfl rfl rfl rfl ?_
        refine doffu rfl rfl rfl ?_
        refine doffu rfl rfl rfl ?_
        refine doffu rfl rfl rfl ?_
        refine doffu rfl rfl rfl ?_
        refine doff rfl rfl rfl rfl ?_
        refine dv rfl (opv_pick_t rfl rfl) ?_
        refine dnil ?_
        refine then_normal ?_
        refine ccond rfl (fun _ => ?_) (fun hx => Bool.noConfusion hx)
        refine cseq ?_
        refine cregion ?_
        refine sv rfl (opv_as rfl) ?_
        refine snil ?_
        refine cret ?_
        refine block_ret ?_
        refine then_ret ?_
        refine then_ret ?_
        refine block_ret ?_
        refine then_ret ?_
        obtain rfl := Option.some.inj h
        obtain rfl : Sum.inl _ = x2 := hk2
        replace ho2 : some _ = some _ := ho2
        obtain rfl := Option.some.inj ho2
        refine ⟨Or.inr rfl, _, _, _, (resVs_cons (ResV.tmp _ _ rfl) resVs_nil), (pubA_id rfl), ?_⟩
        rfl
      · replace h := ite_f hc h
        clear hc
        refine dvg rfl rfl rfl (opv_fieldAddr_lp fi84_0 rfl) ?_
        refine dvg rfl rfl rfl (opv_load1 ti3 rfl (.lp _ _ _ rfl) rfl) ?_
        refine dvg rfl rfl rfl (opv_gtr rfl rfl) ?_
        refine dv rfl (opv_pick_f rfl rfl) ?_
        refine dv rfl (opv_mv rfl) ?_
        refine dsplit 25 rfl (fun hc => ?_) (fun hc => ?_)
        · replace h := ite_t hc h
          clear hc
          refine doff rfl rfl rfl rfl ?_
          refine doff rfl rfl rfl rfl ?_
          refine doff rfl rfl rfl rfl ?_
          refine doffu rfl rfl rfl ?_
          refine doffu rfl rfl rfl ?_
          refine doffu rfl rfl rfl ?_
          refine doffu rfl rfl rfl ?_
          refine doffu rfl rfl rfl ?_
          refine doffu rfl rfl rfl ?_
          refine doffu rfl rfl rfl ?_
          refine doffu rfl rfl rfl ?_
          refine doffu rfl rfl rfl ?_
          refine doffu rfl rfl rfl ?_
          refine doff rfl rfl rfl rfl ?_
          refine dv rfl (opv_pick_t rfl rfl) ?_
          refine dv rfl (opv_mv rfl) ?_
          refine doff rfl rfl rfl rfl ?_
          refine doff rfl rfl rfl rfl ?_
          refine doff rfl rfl rfl rfl ?_
          refine doff rfl rfl rfl rfl ?_
          refine dv rfl (opv_pick_t rfl rfl) ?_
          refine dv rfl (opv_mv rfl) ?_
          refine doff rfl rfl rfl rfl ?_
          refine doff rfl rfl rfl rfl ?_
          refine doff rfl rfl rfl rfl ?_
          refine doffu rfl rfl rfl ?_
          refine doffu rfl rfl rfl ?_
          refine doffu rfl rfl rfl ?_
          refine doffu rfl rfl rfl ?_
          refine doff rfl rfl rfl rfl ?_
          refine dv rfl (opv_pick_t rfl rfl) ?_
          refine dnil ?_
          refine then_normal ?_
          refine ccond rfl (fun _ => ?_) (fun hx => Bool.noConfusion hx)
          refine cseq ?_
          refine cregion ?_
          refine sv rfl (opv_as rfl) ?_
          refine snil ?_
          refine cret ?_
          refine block_ret ?_
          refine then_ret ?_
          refine then_ret ?_
          refine block_ret ?_
          refine then_ret ?_
          obtain rfl := Option.some.inj h
          obtain rfl : Sum.inl _ = x2 := hk2
          replace ho2 : some _ = some _ := ho2
          obtain rfl := Option.some.inj ho2
          refine ⟨Or.inr rfl, _, _, _, (resVs_cons (ResV.tmp _ _ rfl) resVs_nil), (pubA_id rfl), ?_⟩
          rfl
        · replace h := ite_f hc h
          clear hc
          refine dvg rfl rfl rfl (opv_mv rfl) ?_
          refine dvg rfl rfl rfl (opv_gtr rfl rfl) ?_
          refine dvg rfl rfl rfl (opv_mv rfl) ?_
          refine dsplit 28 rfl (fun hc => ?_) (fun hc => ?_)
          · replace h := ite_t hc h
            clear hc
            refine dvg rfl rfl rfl (opv_fieldAddr_lp fi84_0 rfl) ?_
            refine dvg rfl rfl rfl (opv_load1 ti3 rfl (.lp _ _ _ rfl) rfl) ?_
            refine dvg rfl rfl rfl (opv_fieldAddr_lp fi79_0 rfl) ?_
            refine dvg rfl rfl rfl (opv_load1 ti77 rfl (.lp _ _ _ rfl) rfl) ?_
            refine dvg rfl rfl rfl (opv_mv rfl) ?_
            refine dvg rfl rfl rfl (opv_sub rfl rfl) ?_
            obtain ⟨u4, hu4, h⟩ := bind_eq h
            refine dvg rfl rfl rfl (opv_ix (f := eGR07Ver) si77 (fun _ => rfl) rfl rfl rfl rfl hu4) ?_
            refine dvg rfl rfl rfl (opv_fieldAddr_cp fi84_0 rfl) ?_
            refine dvg rfl rfl rfl (opv_load1 ti3 rfl (.cp _) rfl) ?_
            refine dvg rfl rfl rfl (opv_leq rfl rfl) ?_
            refine dvg rfl rfl rfl (opv_pick_t rfl rfl) ?_
            refine dv rfl (opv_pick_f rfl rfl) ?_
            refine dv rfl (opv_mv rfl) ?_
            refine dsplit 41 rfl (fun hc => ?_) (fun hc => ?_)
            · replace h := ite_t hc h
              clear hc
              refine doff rfl rfl rfl rfl ?_
              refine doff rfl rfl rfl rfl ?_
              refine doff rfl rfl rfl rfl ?_
              refine doff rfl rfl rfl rfl ?_
              refine dv rfl (opv_pick_t rfl rfl) ?_
              refine dv rfl (opv_mv rfl) ?_
              refine doff rfl rfl rfl rfl ?_
              refine doff rfl rfl rfl rfl ?_
              refine doff rfl rfl rfl rfl ?_
              refine doffu rfl rfl rfl ?_
              refine doffu rfl rfl rfl ?_
              refine doffu rfl rfl rfl ?_
              refine doffu rfl rfl rfl ?_
              refine doff rfl rfl rfl rfl ?_
              refine dv rfl (opv_pick_t rfl rfl) ?_
              refine dnil ?_
              refine then_normal ?_
              refine ccond rfl (fun _ => ?_) (fun hx => Bool.noConfusion hx)
              refine cseq ?_
              refine cregion ?_
              refine sv rfl (opv_as rfl) ?_
              refine snil ?_
              refine cret ?_
              refine block_ret ?_
              refine then_ret ?_
              refine then_ret ?_
              refine block_ret ?_
              refine then_ret ?_
              obtain rfl := Option.some.inj h
              obtain rfl : Sum.inl _ = x2 := hk2
              replace ho2 : some _ = some _ := ho2
              obtain rfl := Option.some.inj ho2
              refine ⟨Or.inr rfl, _, _, _, (resVs_cons (ResV.tmp _ _ rfl) resVs_nil), (pubA_id rfl), ?_⟩
              rfl
            · replace h := ite_f hc h
              clear hc
              refine dvg rfl rfl rfl (opv_fieldAddr_lp fi84_1 rfl) ?_
              refine dvg rfl rfl rfl (opv_load1 ti26 rfl (.lp _ _ _ rfl) rfl) ?_
              refine dvg rfl rfl rfl (opv_len_sl si26 rfl) ?_
              refine dvg rfl rfl rfl (opv_gtr rfl rfl) ?_
              refine dv rfl (opv_pick_f rfl rfl) ?_
              refine dv rfl (opv_mv rfl) ?_
              refine dsplit 47 rfl (fun hc => ?_) (fun hc => ?_)
              · replace h := ite_t hc h
                clear hc
                refine doff rfl rfl rfl rfl ?_
                refine doff rfl rfl rfl rfl ?_
                refine doff rfl rfl rfl rfl ?_
                refine doffu rfl rfl rfl ?_
                refine doffu rfl rfl rfl ?_
                refine doffu rfl rfl rfl ?_
                refine doffu rfl rfl rfl ?_
                refine doff rfl rfl rfl rfl ?_
                refine dv rfl (opv_pick_t rfl rfl) ?_
                refine dnil ?_
                refine then_normal ?_
                refine ccond rfl (fun _ => ?_) (fun hx => Bool.noConfusion hx)
                refine cseq ?_
                refine cregion ?_
                refine sv rfl (opv_as rfl) ?_
                refine snil ?_
                refine cret ?_
                refine block_ret ?_
                refine then_ret ?_
                refine then_ret ?_
                refine block_ret ?_
                refine then_ret ?_
                obtain rfl := Option.some.inj h
                obtain rfl : Sum.inl _ = x2 := hk2
                replace ho2 : some _ = some _ := ho2
                obtain rfl := Option.some.inj ho2
                refine ⟨Or.inr rfl, _, _, _, (resVs_cons (ResV.tmp _ _ rfl) resVs_nil), (pubA_id rfl), ?_⟩
                rfl
              · replace h := ite_f hc h
                clear hc
                refine dvg rfl rfl rfl (opv_fieldAddr_lp fi84_2 rfl) ?_
                refine dvg rfl rfl rfl (opv_load1 ti4 rfl (.lp _ _ _ rfl) rfl) ?_
                refine dvg rfl rfl rfl (opv_mv rfl) ?_
                refine dsplit 50 rfl (fun hc => ?_) (fun hc => ?_)
                · replace h := ite_t hc h
                  clear hc
                  refine dvg rfl rfl rfl (opv_fieldAddr_lp fi84_1 rfl) ?_
                  refine dvg rfl rfl rfl (opv_load1 ti26 rfl (.lp _ _ _ rfl) rfl) ?_
                  refine dvg rfl rfl rfl (opv_len_sl si26 rfl) ?_
                  refine dvg rfl rfl rfl (opv_gtr rfl rfl) ?_
                  refine dvg rfl rfl rfl (opv_pick_t rfl rfl) ?_
                  refine dv rfl (opv_pick_f rfl rfl) ?_
                  refine dnil ?_
                  refine then_normal ?_
                  refine ccond rfl (fun hc => ?_) (fun hc => ?_)
                  · replace h := ite_t hc h
                    clear hc
                    refine cseq ?_
                    refine cregion ?_
                    refine sv rfl (opv_as rfl) ?_
                    refine snil ?_
                    refine cret ?_
                    refine block_ret ?_
                    refine then_ret ?_
                    refine then_ret ?_
                    refine block_ret ?_
                    refine then_ret ?_
                    obtain rfl := Option.some.inj h
                    obtain rfl : Sum.inl _ = x2 := hk2
                    replace ho2 : some _ = some _ := ho2
                    obtain rfl := Option.some.inj ho2
                    refine ⟨Or.inr rfl, _, _, _, (resVs_cons (ResV.tmp _ _ rfl) resVs_nil), (pubA_id rfl), ?_⟩
                    rfl
                  · replace h := ite_f hc h
                    clear hc
                    refine cskip ?_
                    refine block_normal ?_
                    refine then_normal ?_
                    refine cregion ?_
                    refine sv rfl (opv_mv rfl) ?_
                    refine sv rfl (opv_add rfl rfl) ?_
                    refine sv rfl (opv_as rfl) ?_
                    refine snil ?_
                    obtain rfl := Option.some.inj h
                    exact ⟨(n2, (wI (s2 + 1))), _, hk2, ⟨rfl, rfl, trivial⟩, rfl, Nat.lt_succ_self _⟩
                · replace h := ite_f hc h
                  clear hc
                  refine doff rfl rfl rfl rfl ?_
                  refine doff rfl rfl rfl rfl ?_
                  refine doff rfl rfl rfl rfl ?_
                  refine doff rfl rfl rfl rfl ?_
                  refine dvg rfl rfl rfl (opv_pick_f rfl rfl) ?_
                  refine dv rfl (opv_pick_f rfl rfl) ?_
                  refine dnil ?_
                  refine then_normal ?_
                  refine ccond rfl (fun hx => Bool.noConfusion hx) (fun _ => ?_)
                  refine cskip ?_
                  refine block_normal ?_
                  refine then_normal ?_
                  refine cregion ?_
                  refine sv rfl (opv_mv rfl) ?_
                  refine sv rfl (opv_add rfl rfl) ?_
                  refine sv rfl (opv_as rfl) ?_
                  refine snil ?_
                  obtain rfl := Option.some.inj h
                  exact ⟨(n2, (wI (s2 + 1))), _, hk2, ⟨rfl, rfl, trivial⟩, rfl, Nat.lt_succ_self _⟩
          · replace h := ite_f hc h
            clear hc
            refine doff rfl rfl rfl rfl ?_
            refine doff rfl rfl rfl rfl ?_
            refine doff rfl rfl rfl rfl ?_
            refine doff rfl rfl rfl rfl ?_
            refine doff rfl rfl rfl rfl ?_
            refine doff rfl rfl rfl rfl ?_
            refine doff rfl rfl rfl rfl ?_
            refine doff rfl rfl rfl rfl ?_
            refine doff rfl rfl rfl rfl ?_
            refine doff rfl rfl rfl rfl ?_
            refine dvg rfl rfl rfl (opv_pick_f rfl rfl) ?_
            refine dv rfl (opv_pick_f rfl rfl) ?_
            refine dv rfl (opv_mv rfl) ?_
            refine dvg rfl rfl rfl (opv_fieldAddr_lp fi84_1 rfl) ?_
            refine dvg rfl rfl rfl (opv_load1 ti26 rfl (.lp _ _ _ rfl) rfl) ?_
            refine dvg rfl rfl rfl (opv_len_sl si26 rfl) ?_
            refine dvg rfl rfl rfl (opv_gtr rfl rfl) ?_
            refine dv rfl (opv_pick_f rfl rfl) ?_
            refine dv rfl (opv_mv rfl) ?_
            refine dsplit 47 rfl (fun hc => ?_) (fun hc => ?_)
            · replace h := ite_t hc h
              clear hc
              refine doff rfl rfl rfl rfl ?_
              refine doff rfl rfl rfl rfl ?_
              refine doff rfl rfl rfl rfl ?_
              refine doffu rfl rfl rfl ?_
              refine doffu rfl rfl rfl ?_
              refine doffu rfl rfl rfl ?_
              refine doffu rfl rfl rfl ?_
              refine doff rfl rfl rfl rfl ?_
              refine dv rfl (opv_pick_t rfl rfl) ?_
              refine dnil ?_
              refine then_normal ?_
              refine ccond rfl (fun _ => ?_) (fun hx => Bool.noConfusion hx)
              refine cseq ?_
              refine cregion ?_
              refine sv rfl (opv_as rfl) ?_
              refine snil ?_
              refine cret ?_
              refine block_ret ?_
              refine then_ret ?_
              refine then_ret ?_
              refine block_ret ?_
              refine then_ret ?_
              obtain rfl := Option.some.inj h
              obtain rfl : Sum.inl _ = x2 := hk2
              replace ho2 : some _ = some _ := ho2
              obtain rfl := Option.some.inj ho2
              refine ⟨Or.inr rfl, _, _, _, (resVs_cons (ResV.tmp _ _ rfl) resVs_nil), (pubA_id rfl), ?_⟩
              rfl
            · replace h := ite_f hc h
              clear hc
              refine dvg rfl rfl rfl (opv_fieldAddr_lp fi84_2 rfl) ?_
              refine dvg rfl rfl rfl (opv_load1 ti4 rfl (.lp _ _ _ rfl) rfl) ?_
              refine dvg rfl rfl rfl (opv_mv rfl) ?_
              refine dsplit 50 rfl (fun hc => ?_) (fun hc => ?_)
              · replace h := ite_t hc h
                clear hc
                refine dvg rfl rfl rfl (opv_fieldAddr_lp fi84_1 rfl) ?_
                refine dvg rfl rfl rfl (opv_load1 ti26 rfl (.lp _ _ _ rfl) rfl) ?_
                refine dvg rfl rfl rfl (opv_len_sl si26 rfl) ?_
                refine dvg rfl rfl rfl (opv_gtr rfl rfl) ?_
                refine dvg rfl rfl rfl (opv_pick_t rfl rfl) ?_
                refine dv rfl (opv_pick_f rfl rfl) ?_
                refine dnil ?_
                refine then_normal ?_
                refine ccond rfl (fun hc => ?_) (fun hc => ?_)
                · replace h := ite_t hc h
                  clear hc
                  refine cseq ?_
                  refine cregion ?_
                  refine sv rfl (opv_as rfl) ?_
                  refine snil ?_
                  refine cret ?_
                  refine block_ret ?_
                  refine then_ret ?_
                  refine then_ret ?_
                  refine block_ret ?_
                  refine then_ret ?_
                  obtain rfl := Option.some.inj h
                  obtain rfl : Sum.inl _ = x2 := hk2
                  replace ho2 : some _ = some _ := ho2
                  obtain rfl := Option.some.inj ho2
                  refine ⟨Or.inr rfl, _, _, _, (resVs_cons (ResV.tmp _ _ rfl) resVs_nil), (pubA_id rfl), ?_⟩
                  rfl
                · replace h := ite_f hc h
                  clear hc
                  refine cskip ?_
                  refine block_normal ?_
                  refine then_normal ?_
                  refine cregion ?_
                  refine sv rfl (opv_mv rfl) ?_
                  refine sv rfl (opv_add rfl rfl) ?_
                  refine sv rfl (opv_as rfl) ?_
                  refine snil ?_
                  obtain rfl := Option.some.inj h
                  exact ⟨(n2, (wI (s2 + 1))), _, hk2, ⟨rfl, rfl, trivial⟩, rfl, Nat.lt_succ_self _⟩
              · replace h := ite_f hc h
                clear hc
                refine doff rfl rfl rfl rfl ?_
                refine doff rfl rfl rfl rfl ?_
                refine doff rfl rfl rfl rfl ?_
                refine doff rfl rfl rfl rfl ?_
                refine dvg rfl rfl rfl (opv_pick_f rfl rfl) ?_
                refine dv rfl (opv_pick_f rfl rfl) ?_
                refine dnil ?_
                refine then_normal ?_
                refine ccond rfl (fun hx => Bool.noConfusion hx) (fun _ => ?_)
                refine cskip ?_
                refine block_normal ?_
                refine then_normal ?_
                refine cregion ?_
                refine sv rfl (opv_mv rfl) ?_
                refine sv rfl (opv_add rfl rfl) ?_
                refine sv rfl (opv_as rfl) ?_
                refine snil ?_
                obtain rfl := Option.some.inj h
                exact ⟨(n2, (wI (s2 + 1))), _, hk2, ⟨rfl, rfl, trivial⟩, rfl, Nat.lt_succ_self _⟩
    · replace h := ite_f hc h
      clear hc
      refine cexit ?_
      refine then_exit ?_
      refine then_exit ?_
      refine block_hit ?_
      refine then_normal ?_
      obtain rfl := Option.some.inj h
      obtain rfl : _ = x2 := hk2
      exact ⟨(), _, ho2, trivial, rfl⟩

def m57_r07_Last (a0 : GR07Chain) : Option Int :=
  if (decide ((a0.L.length : Int) = 0)) then (some 0) else ((idx a0.L (wI ((a0.L.length : Int) - 1))).bind fun u1 => some u1.Ts)

set_option maxRecDepth 100000 in
theorem m57_r07_Last_c {a0 : GR07Chain} {r : Int} (h : m57_r07_Last a0 = some r) : CallsA Try.prog 57 [.agg [.sl a0.L.length (a0.L.flatMap eGR07Ver)]] (· = .s (.one (.i .i64 r))) := by
  unfold m57_r07_Last at h
  refine callsA_of Try.func57 rfl (nt := 16) rfl (Nat.le_of_ble_eq_true rfl) ?_
  intro w0 S0
  refine cseq ?_
  refine cregion ?_
  refine sbox rfl rfl ?_
  refine sv rfl (opv_as rfl) ?_
  refine snil ?_
  refine cseq ?_
  refine cseq ?_
  refine cregion ?_
  refine sv rfl (opv_fieldAddr_lp fi79_0 rfl) ?_
  refine sv rfl (opv_load1 ti77 rfl (.lp _ _ _ rfl) rfl) ?_
  refine sv rfl (opv_len_sl si77 rfl) ?_
  refine sv rfl (opv_ieql rfl rfl) ?_
  refine snil ?_
  refine ccond rfl (fun hc => ?_) (fun hc => ?_)
  · replace h := ite_t hc h
    clear hc
    refine cseq ?_
    refine cregion ?_
    refine sv rfl (opv_as rfl) ?_
    refine snil ?_
    refine cret ?_
    refine then_ret ?_
    obtain rfl := Option.some.inj h
    refine ⟨Or.inr rfl, _, _, _, (resVs_cons (ResV.tmp _ _ rfl) resVs_nil), (pubA_id rfl), ?_⟩
    rfl
  · replace h := ite_f hc h
    clear hc
    refine cskip ?_
    refine then_normal ?_
    refine cseq ?_
    refine cregion ?_
    refine sv rfl (opv_fieldAddr_lp fi79_0 rfl) ?_
    refine sv rfl (opv_load1 ti77 rfl (.lp _ _ _ rfl) rfl) ?_
    refine sv rfl (opv_fieldAddr_lp fi79_0 rfl) ?_
    refine sv rfl (opv_load1 ti77 rfl (.lp _ _ _ rfl) rfl) ?_
    refine sv rfl (opv_len_sl si77 rfl) ?_
    refine sv rfl (opv_sub rfl rfl) ?_
    obtain ⟨u1, hu1, h⟩ := bind_eq h
    refine sv rfl (opv_ix (f := eGR07Ver) si77 (fun _ => rfl) rfl rfl rfl rfl hu1) ?_
    refine sv rfl (opv_fieldAddr_cp fi84_0 rfl) ?_
    refine sv rfl (opv_load1 ti3 rfl (.cp _) rfl) ?_
    refine sv rfl (opv_as rfl) ?_
    refine snil ?_
    refine cret ?_
    obtain rfl := Option.some.inj h
    refine ⟨Or.inr rfl, _, _, _, (resVs_cons (ResV.tmp _ _ rfl) resVs_nil), (pubA_id rfl), ?_⟩
    rfl

def m24_r08_Sane_k2 (b2 : Unit) : Option Bool :=
  some true

def m24_r08_Sane_s3 (a0 : GR08Store) (s3 : Int) : Option (LR (Int) (Unit) (Bool)) :=
  if (decide (s3 < (a0.Keys.length : Int))) then ((idx a0.Chains s3).bind fun u4 => (idx a0.Keys s3).bind fun u5 => (m55_r06_Sane u5).bind fun v6 => if (!v6) then (some (.ret false)) else ((m56_r07_Sane u4).bind fun v7 => if (!v7) then (some (.ret false)) else (if (decide ((u4.L.length : Int) = 0)) then (some (.ret false)) else ((m57_r07_Last u4).bind fun v8 => if (decide (a0.Ts < v8)) then (some (.ret false)) else (some (.cont (wI (s3 + 1)))))))) else (some (.brk ()))

def m24_r08_Sane_k1 (a0 : GR08Store) (b1 : Unit) : Option Bool :=
  (iter (m24_r08_Sane_s3 a0) fuel 0).bind fun x => match x with | .inl r => some r | .inr e9 => m24_r08_Sane_k2 e9
def m24_r08_Sane (a0 : GR08Store) : Option Bool :=
  if (!decide ((a0.Keys.length : Int) = (a0.Chains.length : Int))) then (some false) else (if (decide (128 < (a0.Keys.length : Int))) then (some false) else ((m54_r06_Sorted a0.Keys).bind fun v10 => if (!v10) then (some false) else (if (decide (a0.Ts < 0)) then (some false) else (if (decide (1099511627776 < a0.Ts)) then (some false) else (m24_r08_Sane_k1 a0 ())))))

set_option maxRecDepth 100000 in
theorem m24_r08_Sane_c {a0 : GR08Store} {r : Bool} (h : m24_r08_Sane a0 = some r) : CallsA Try.prog 24 [.agg a0] (· = .s (.one (.b r))) := by
  unfold m24_r08_Sane at h
  refine callsA_of Try.func24 rfl (nt := 71) rfl (Nat.le_of_ble_eq_true rfl) ?_
  intro w0 S0
  refine cseq ?_
  refine cregion ?_
  refine sbox rfl rfl ?_
  refine sv rfl (opv_as rfl) ?_
  refine snil ?_
  refine cseq ?_
  refine cseq ?_
  refine cjoin3 (Unit) (fun b1 => [(1, .s (.one (.lp 0 0)))]) (fun b1 => [.box a0]) (fun b1 => m24_r08_Sane_k1 a0 b1 = some r) (fun _ _ => inbL_of rfl) (fun _ _ => blkinb_of rfl) (fun _ _ => Nat.le_of_ble_eq_true rfl) (fun b1 h => ?_) ?_
  · unfold m24_r08_Sane_k1 at h
    refine cseq ?_
    refine cseq ?_
    refine cregion ?_
    refine sv rfl (opv_as rfl) ?_
    refine snil ?_
    refine cjoin (Unit) (fun b2 => []) (fun b2 => [.box a0]) (fun b2 => m24_r08_Sane_k2 b2 = some r) (fun _ _ => inbL_of rfl) (fun _ _ => blkinb_of rfl) (fun _ _ => Nat.le_of_ble_eq_true rfl) (fun b2 h => ?_) ?_
    · unfold m24_r08_Sane_k2 at h
      refine cseq ?_
      refine cregion ?_
      refine sv rfl (opv_as rfl) ?_
      refine snil ?_
      refine cret ?_
      obtain rfl := Option.some.inj h
      refine ⟨Or.inr rfl, _, _, _, (resVs_cons (ResV.tmp _ _ rfl) resVs_nil), (pubA_id rfl), ?_⟩
      rfl
    · skip
      refine cblock ?_
      obtain ⟨x3, hx3, ho3⟩ := bind_eq h
      refine awc_loop (G := Nat × (Int)) (fun g => [(1, .s (.one (.lp 0 0))), (3, .s (.one (.i .i64 g.2)))]) (fun g => [.box a0]) (fun g => iter (m24_r08_Sane_s3 a0) g.1 g.2 = some x3) (fun g => g.1) (fuel, 0) hx3 ⟨rfl, rfl, trivial⟩ [] rfl (fun _ _ => inbL_of rfl) (fun _ _ => blkinb_of rfl) (fun _ _ => Nat.le_of_ble_eq_true rfl) ?_
      clear hx3 h
      rintro ⟨n3, s3⟩ h
      obtain ⟨n3, y3, rfl, h, hk3⟩ := iter_eq h
      unfold m24_r08_Sane_s3 at h
      refine cseq ?_
      refine cseq ?_
      refine cregion ?_
      refine sv rfl (opv_mv rfl) ?_
      refine sv rfl (opv_fieldAddr_lp fi25_0 rfl) ?_
      refine sv rfl (opv_load1 ti22 rfl (.lp _ _ _ rfl) rfl) ?_
      refine sv rfl (opv_len_sl si22 rfl) ?_
      refine sv rfl (opv_lss rfl rfl) ?_
      refine snil ?_
      refine ccond rfl (fun hc => ?_) (fun hc => ?_)
      · replace h := ite_t hc h
        clear hc
        refine cskip ?_
        refine then_normal ?_
        refine cseq ?_
        refine cblock ?_
        refine cseq ?_
        refine cregion ?_
        refine sv rfl (opv_fieldAddr_lp fi25_1 rfl) ?_
        refine sv rfl (opv_load1 ti23 rfl (.lp _ _ _ rfl) rfl) ?_
        refine sv rfl (opv_mv rfl) ?_
        obtain ⟨u4, hu4, h⟩ := bind_eq h
        refine sv rfl (opv_ix (f := eGR07Chain) si23 (fun _ => rfl) rfl rfl rfl rfl hu4) ?_
        refine sv rfl (opv_loadNe (ys := [.sl u4.L.length (u4.L.flatMap eGR07Ver)]) ti79 rfl (.cp _) rfl rfl) ?_
        refine salloc rfl zi79 ?_
        refine sstore sz79 rfl rfl rfl rfl (Nat.le_of_ble_eq_true rfl) ?_
        refine smem [.box a0, .box [.sl u4.L.length (u4.L.flatMap eGR07Ver)]] rfl ?_
        refine snil ?_
        refine cseq ?_
        refine cdraw mixed (by kernel_rfl) ?_
        refine dv rfl (opv_fieldAddr_lp fi25_0 rfl) ?_
        refine dv rfl (opv_load1 ti22 rfl (.lp _ _ _ rfl) rfl) ?_
        refine dv rfl (opv_mv rfl) ?_
        obtain ⟨u5, hu5, h⟩ := bind_eq h
        refine dv rfl (opv_ix (f := (eL eU8)) si22 (fun _ => rfl) rfl rfl rfl rfl hu5) ?_
        refine dv rfl (opv_load1 ti26 rfl (.cp _) rfl) ?_
        obtain ⟨v6, hv6, h⟩ := bind_eq h
        refine dd rfl (opD_call fn55 (opnds_cons rfl opnds_nil) rfl (m55_r06_Sane_c hv6)) ?_
        refine dv rfl (opv_not rfl) ?_
        refine dv rfl (opv_mv rfl) ?_
        refine dsplit 53 rfl (fun hc => ?_) (fun hc => ?_)
        · replace h := ite_t hc h
          clear hc
          refine doff rfl rfl rfl rfl ?_
          refine doff rfl rfl rfl rfl ?_
          refine doff rfl rfl rfl rfl ?_
          refine dv rfl (opv_pick_t rfl rfl) ?_
          refine dv rfl (opv_mv rfl) ?_
          refine doff rfl rfl rfl rfl ?_
          refine doff rfl rfl rfl rfl ?_
          refine doff rfl rfl rfl rfl ?_
          refine doff rfl rfl rfl rfl ?_
          refine dv rfl (opv_pick_t rfl rfl) ?_
          refine dv rfl (opv_mv rfl) ?_
          refine doff rfl rfl rfl rfl ?_
          refine doff rfl rfl rfl rfl ?_
          refine doff rfl rfl rfl rfl ?_
          refine doff rfl rfl rfl rfl ?_
          refine doff rfl rfl rfl rfl ?_
          refine dv rfl (opv_pick_t rfl rfl) ?_
          refine dnil ?_
          refine then_normal ?_
          refine ccond rfl (fun _ => ?_) (fun hx => Bool.noConfusion hx)
          refine cseq ?_
          refine cregion ?_
          refine sv rfl (opv_as rfl) ?_
          refine snil ?_
          refine cret ?_
          refine block_ret ?_
          refine then_ret ?_
          refine then_ret ?_
          refine block_ret ?_
          refine then_ret ?_
          obtain rfl := Option.some.inj h
          obtain rfl : Sum.inl _ = x3 := hk3
          replace ho3 : some _ = some _ := ho3
          obtain rfl := Option.some.inj ho3
          refine ⟨Or.inr rfl, _, _, _, (resVs_cons (ResV.tmp _ _ rfl) resVs_nil), (pubA_id rfl), ?_⟩
          rfl
        · replace h := ite_f hc h
          clear hc
          refine dvg rfl rfl rfl (opv_loadN ti79 rfl (.lp _ _ _ rfl) (Nat.le_of_ble_eq_true rfl)) ?_
          obtain ⟨v7, hv7, h⟩ := bind_eq h
          refine ddg rfl rfl rfl (opD_call fn56 (opnds_cons rfl opnds_nil) rfl (m56_r07_Sane_c hv7)) ?_
          refine dvg rfl rfl rfl (opv_not rfl) ?_
          refine dv rfl (opv_pick_f rfl rfl) ?_
          refine dv rfl (opv_mv rfl) ?_
          refine dsplit 58 rfl (fun hc => ?_) (fun hc => ?_)
          · replace h := ite_t hc h
            clear hc
            refine doff rfl rfl rfl rfl ?_
            refine doff rfl rfl rfl rfl ?_
            refine doff rfl rfl rfl rfl ?_
            refine doff rfl rfl rfl rfl ?_
            refine dv rfl (opv_pick_t rfl rfl) ?_
            refine dv rfl (opv_mv rfl) ?_
            refine doff rfl rfl rfl rfl ?_
            refine doff rfl rfl rfl rfl ?_
            refine doff rfl rfl rfl rfl ?_
            refine doff rfl rfl rfl rfl ?_
            refine doff rfl rfl rfl rfl ?_
            refine dv rfl (opv_pick_t rfl rfl) ?_
            refine dnil ?_
            refine then_normal ?_
            refine ccond rfl (fun _ => ?_) (fun hx => Bool.noConfusion hx)
            refine cseq ?_
            refine cregion ?_
            refine sv rfl (opv_as rfl) ?_
            refine snil ?_
            refine cret ?_
            refine block_ret ?_
            refine then_ret ?_
            refine then_ret ?_
            refine block_ret ?_
            refine then_ret ?_
            obtain rfl := Option.some.inj h
            obtain rfl : Sum.inl _ = x3 := hk3
            replace ho3 : some _ = some _ := ho3
            obtain rfl := Option.some.inj ho3
            refine ⟨Or.inr rfl, _, _, _, (resVs_cons (ResV.tmp _ _ rfl) resVs_nil), (pubA_id rfl), ?_⟩
            rfl
          · replace h := ite_f hc h
            clear hc
            refine dvg rfl rfl rfl (opv_fieldAddr_lp fi79_0 rfl) ?_
            refine dvg rfl rfl rfl (opv_load1 ti77 rfl (.lp _ _ _ rfl) rfl) ?_
            refine dvg rfl rfl rfl (opv_len_sl si77 rfl) ?_
            refine dvg rfl rfl rfl (opv_ieql rfl rfl) ?_
            refine dv rfl (opv_pick_f rfl rfl) ?_
            refine dv rfl (opv_mv rfl) ?_
            refine dsplit 64 rfl (fun hc => ?_) (fun hc => ?_)
            · replace h := ite_t hc h
              clear hc
              refine doff rfl rfl rfl rfl ?_
              refine doff rfl rfl rfl rfl ?_
              refine doff rfl rfl rfl rfl ?_
              refine doff rfl rfl rfl rfl ?_
              refine doff rfl rfl rfl rfl ?_
              refine dv rfl (opv_pick_t rfl rfl) ?_
              refine dnil ?_
              refine then_normal ?_
              refine ccond rfl (fun _ => ?_) (fun hx => Bool.noConfusion hx)
              refine cseq ?_
              refine cregion ?_
              refine sv rfl (opv_as rfl) ?_
              refine snil ?_
              refine cret ?_
              refine block_ret ?_
              refine then_ret ?_
              refine then_ret ?_
              refine block_ret ?_
              refine then_ret ?_
              obtain rfl := Option.some.inj h
              obtain rfl : Sum.inl _ = x3 := hk3
              replace ho3 : some _ = some _ := ho3
              obtain rfl := Option.some.inj ho3
              refine ⟨Or.inr rfl, _, _, _, (resVs_cons (ResV.tmp _ _ rfl) resVs_nil), (pubA_id rfl), ?_⟩
              rfl
            · replace h := ite_f hc h
              clear hc
              refine dvg rfl rfl rfl (opv_loadN ti79 rfl (.lp _ _ _ rfl) (Nat.le_of_ble_eq_true rfl)) ?_
              obtain ⟨v8, hv8, h⟩ := bind_eq h
              refine ddg rfl rfl rfl (opD_call fn57 (opnds_cons rfl opnds_nil) rfl (m57_r07_Last_c hv8)) ?_
              refine dvg rfl rfl rfl (opv_fieldAddr_lp fi25_2 rfl) ?_
              refine dvg rfl rfl rfl (opv_load1 ti3 rfl (.lp _ _ _ rfl) rfl) ?_
              refine dvg rfl rfl rfl (opv_gtr rfl rfl) ?_
              refine dv rfl (opv_pick_f rfl rfl) ?_
              refine dnil ?_
              refine then_normal ?_
              refine ccond rfl (fun hc => ?_) (fun hc => ?_)
              · replace h := ite_t hc h
                clear hc
                refine cseq ?_
                refine cregion ?_
                refine sv rfl (opv_as rfl) ?_
                refine snil ?_
                refine cret ?_
                refine block_ret ?_
                refine then_ret ?_
                refine then_ret ?_
                refine block_ret ?_
                refine then_ret ?_
                obtain rfl := Option.some.inj h
                obtain rfl : Sum.inl _ = x3 := hk3
                replace ho3 : some _ = some _ := ho3
                obtain rfl := Option.some.inj ho3
                refine ⟨Or.inr rfl, _, _, _, (resVs_cons (ResV.tmp _ _ rfl) resVs_nil), (pubA_id rfl), ?_⟩
                rfl
              · replace h := ite_f hc h
                clear hc
                refine cskip ?_
                refine block_normal ?_
                refine then_normal ?_
                refine cregion ?_
                refine sv rfl (opv_mv rfl) ?_
                refine sv rfl (opv_add rfl rfl) ?_
                refine sv rfl (opv_as rfl) ?_
                refine snil ?_
                obtain rfl := Option.some.inj h
                exact ⟨(n3, (wI (s3 + 1))), _, hk3, ⟨rfl, rfl, trivial⟩, rfl, Nat.lt_succ_self _⟩
      · replace h := ite_f hc h
        clear hc
        refine cexit ?_
        refine then_exit ?_
        refine then_exit ?_
        refine block_hit ?_
        refine then_normal ?_
        obtain rfl := Option.some.inj h
        obtain rfl : _ = x3 := hk3
        exact ⟨(), _, ho3, trivial, rfl⟩
  · skip
    refine cregion ?_
    refine sv rfl (opv_fieldAddr_lp fi25_0 rfl) ?_
    refine sv rfl (opv_load1 ti22 rfl (.lp _ _ _ rfl) rfl) ?_
    refine sv rfl (opv_len_sl si22 rfl) ?_
    refine sv rfl (opv_fieldAddr_lp fi25_1 rfl) ?_
    refine sv rfl (opv_load1 ti23 rfl (.lp _ _ _ rfl) rfl) ?_
    refine sv rfl (opv_len_sl si23 rfl) ?_
    refine sv rfl (opv_ineq rfl rfl) ?_
    refine sv rfl (opv_mv rfl) ?_
    refine ssplit 12 rfl (fun hc => ?_) (fun hc => ?_)
    · replace h := ite_t hc h
      clear hc
      refine soff rfl rfl rfl rfl ?_
      refine soff rfl rfl rfl rfl ?_
      refine soff rfl rfl rfl rfl ?_
      refine soff rfl rfl rfl rfl ?_
      refine sv rfl (opv_pick_t rfl rfl) ?_
      refine sv rfl (opv_mv rfl) ?_
      refine soff rfl rfl rfl rfl ?_
      refine soff rfl rfl rfl rfl ?_
      refine soff rfl rfl rfl rfl ?_
      refine soff rfl rfl rfl rfl ?_
      refine sv rfl (opv_pick_t rfl rfl) ?_
      refine sv rfl (opv_mv rfl) ?_
      refine soff rfl rfl rfl rfl ?_
      refine soff rfl rfl rfl rfl ?_
      refine soff rfl rfl rfl rfl ?_
      refine sv rfl (opv_pick_t rfl rfl) ?_
      refine sv rfl (opv_mv rfl) ?_
      refine soff rfl rfl rfl rfl ?_
      refine soff rfl rfl rfl rfl ?_
      refine soff rfl rfl rfl rfl ?_
      refine sv rfl (opv_pick_t rfl rfl) ?_
      refine snil ?_
      refine ccond rfl (fun _ => ?_) (fun hx => Bool.noConfusion hx)
      refine cseq ?_
      refine cregion ?_
      refine sv rfl (opv_as rfl) ?_
      refine snil ?_
      refine cret ?_
      refine then_ret ?_
      obtain rfl := Option.some.inj h
      refine ⟨Or.inr rfl, _, _, _, (resVs_cons (ResV.tmp _ _ rfl) resVs_nil), (pubA_id rfl), ?_⟩
      rfl
    · replace h := ite_f hc h
      clear hc
      refine son rfl rfl rfl ?_
      refine sv rfl (opv_fieldAddr_lp fi25_0 rfl) ?_
      refine son rfl rfl rfl ?_
      refine sv rfl (opv_load1 ti22 rfl (.lp _ _ _ rfl) rfl) ?_
      refine son rfl rfl rfl ?_
      refine sv rfl (opv_len_sl si22 rfl) ?_
      refine son rfl rfl rfl ?_
      refine sv rfl (opv_gtr rfl rfl) ?_
      refine sv rfl (opv_pick_f rfl rfl) ?_
      refine sv rfl (opv_mv rfl) ?_
      refine ssplit 18 rfl (fun hc => ?_) (fun hc => ?_)
      · replace h := ite_t hc h
        clear hc
        refine soff rfl rfl rfl rfl ?_
        refine soff rfl rfl rfl rfl ?_
        refine soff rfl rfl rfl rfl ?_
        refine soff rfl rfl rfl rfl ?_
        refine sv rfl (opv_pick_t rfl rfl) ?_
        refine sv rfl (opv_mv rfl) ?_
        refine soff rfl rfl rfl rfl ?_
        refine soff rfl rfl rfl rfl ?_
        refine soff rfl rfl rfl rfl ?_
        refine sv rfl (opv_pick_t rfl rfl) ?_
        refine sv rfl (opv_mv rfl) ?_
        refine soff rfl rfl rfl rfl ?_
        refine soff rfl rfl rfl rfl ?_
        refine soff rfl rfl rfl rfl ?_
        refine sv rfl (opv_pick_t rfl rfl) ?_
        refine snil ?_
        refine ccond rfl (fun _ => ?_) (fun hx => Bool.noConfusion hx)
        refine cseq ?_
        refine cregion ?_
        refine sv rfl (opv_as rfl) ?_
        refine snil ?_
        refine cret ?_
        refine then_ret ?_
        obtain rfl := Option.some.inj h
        refine ⟨Or.inr rfl, _, _, _, (resVs_cons (ResV.tmp _ _ rfl) resVs_nil), (pubA_id rfl), ?_⟩
        rfl
      · replace h := ite_f hc h
        clear hc
        refine son rfl rfl rfl ?_
        refine sv rfl (opv_fieldAddr_lp fi25_0 rfl) ?_
        refine son rfl rfl rfl ?_
        refine sv rfl (opv_load1 ti22 rfl (.lp _ _ _ rfl) rfl) ?_
        refine son rfl rfl rfl ?_
        obtain ⟨v10, hv10, h⟩ := bind_eq h
        refine scall1 rfl fn54 (opnds_cons rfl opnds_nil) (pubA_id rfl) (m54_r06_Sorted_c hv10) ?_
        refine son rfl rfl rfl ?_
        refine sv rfl (opv_not rfl) ?_
        refine sv rfl (opv_pick_f rfl rfl) ?_
        refine sv rfl (opv_mv rfl) ?_
        refine ssplit 24 rfl (fun hc => ?_) (fun hc => ?_)
        · replace h := ite_t hc h
          clear hc
          refine soff rfl rfl rfl rfl ?_
          refine soff rfl rfl rfl rfl ?_
          refine soff rfl rfl rfl rfl ?_
          refine sv rfl (opv_pick_t rfl rfl) ?_
          refine sv rfl (opv_mv rfl) ?_
          refine soff rfl rfl rfl rfl ?_
          refine soff rfl rfl rfl rfl ?_
          refine soff rfl rfl rfl rfl ?_
          refine sv rfl (opv_pick_t rfl rfl) ?_
          refine snil ?_
          refine ccond rfl (fun _ => ?_) (fun hx => Bool.noConfusion hx)
          refine cseq ?_
          refine cregion ?_
          refine sv rfl (opv_as rfl) ?_
          refine snil ?_
          refine cret ?_
          refine then_ret ?_
          obtain rfl := Option.some.inj h
          refine ⟨Or.inr rfl, _, _, _, (resVs_cons (ResV.tmp _ _ rfl) resVs_nil), (pubA_id rfl), ?_⟩
          rfl
        · replace h := ite_f hc h
          clear hc
          refine son rfl rfl rfl ?_
          refine sv rfl (opv_fieldAddr_lp fi25_2 rfl) ?_
          refine son rfl rfl rfl ?_
          refine sv rfl (opv_load1 ti3 rfl (.lp _ _ _ rfl) rfl) ?_
          refine son rfl rfl rfl ?_
          refine sv rfl (opv_lss rfl rfl) ?_
          refine sv rfl (opv_pick_f rfl rfl) ?_
          refine sv rfl (opv_mv rfl) ?_
          refine ssplit 29 rfl (fun hc => ?_) (fun hc => ?_)
          · replace h := ite_t hc h
            clear hc
            refine soff rfl rfl rfl rfl ?_
            refine soff rfl rfl rfl rfl ?_
            refine soff rfl rfl rfl rfl ?_
            refine sv rfl (opv_pick_t rfl rfl) ?_
            refine snil ?_
            refine ccond rfl (fun _ => ?_) (fun hx => Bool.noConfusion hx)
            refine cseq ?_
            refine cregion ?_
            refine sv rfl (opv_as rfl) ?_
            refine snil ?_
            refine cret ?_
            refine then_ret ?_
            obtain rfl := Option.some.inj h
            refine ⟨Or.inr rfl, _, _, _, (resVs_cons (ResV.tmp _ _ rfl) resVs_nil), (pubA_id rfl), ?_⟩
            rfl
          · replace h := ite_f hc h
            clear hc
            refine son rfl rfl rfl ?_
            refine sv rfl (opv_fieldAddr_lp fi25_2 rfl) ?_
            refine son rfl rfl rfl ?_
            refine sv rfl (opv_load1 ti3 rfl (.lp _ _ _ rfl) rfl) ?_
            refine son rfl rfl rfl ?_
            refine sv rfl (opv_gtr rfl rfl) ?_
            refine sv rfl (opv_pick_f rfl rfl) ?_
            refine snil ?_
            refine ccond rfl (fun hc => ?_) (fun hc => ?_)
            · replace h := ite_t hc h
              clear hc
              refine cseq ?_
              refine cregion ?_
              refine sv rfl (opv_as rfl) ?_
              refine snil ?_
              refine cret ?_
              refine then_ret ?_
              obtain rfl := Option.some.inj h
              refine ⟨Or.inr rfl, _, _, _, (resVs_cons (ResV.tmp _ _ rfl) resVs_nil), (pubA_id rfl), ?_⟩
              rfl
            · replace h := ite_f hc h
              clear hc
              refine cskip ?_
              refine then_normal ?_
              exact ⟨(), _, h, ⟨rfl, trivial⟩, rfl⟩

def m41_r08_Chain_k2 (a0 : GR08Store) (v1 : Int × Bool) (b2 : Unit) : Option GR07Chain :=
  (idx a0.Chains v1.1).bind fun u3 => some u3
def m41_r08_Chain (a0 : GR08Store) (a1 : List UInt8) : Option GR07Chain :=
  (m66_r06_Find a0.Keys a1).bind fun v1 => if (!v1.2) then (some (GR07Chain.mk ([] : List GR07Ver))) else ((m24_r08_Sane (GR08Store.mk a0.Keys a0.Chains a0.Ts)).bind fun v4 => if (!v4) then (some (GR07Chain.mk ([] : List GR07Ver))) else (m41_r08_Chain_k2 a0 v1 ()))

set_option maxRecDepth 100000 in
theorem m41_r08_Chain_c {a0 : GR08Store} {a1 : List UInt8} {r : GR07Chain} (h : m41_r08_Chain a0 a1 = some r) : CallsA Try.prog 41 [.agg a0, .one (.sl a1.length (a1.flatMap eU8))] (· = .s (.agg [.sl r.L.length (r.L.flatMap eGR07Ver)])) := by
  unfold m41_r08_Chain at h
  refine callsA_of Try.func41 rfl (nt := 27) rfl (Nat.le_of_ble_eq_true rfl) ?_
  intro w0 S0
  refine cseq ?_
  refine cregion ?_
  refine sbox rfl rfl ?_
  refine salloc rfl zi79 ?_
  refine snil ?_
  refine cseq ?_
  refine cregion ?_
  refine sv rfl (opv_fieldAddr_lp fi25_0 rfl) ?_
  refine sv rfl (opv_load1 ti22 rfl (.lp _ _ _ rfl) rfl) ?_
  refine sv rfl (opv_mv rfl) ?_
  obtain ⟨v1, hv1, h⟩ := bind_eq h
  refine scall1 rfl fn66 (opnds_cons rfl (opnds_cons rfl opnds_nil)) (pubA_id rfl) (m66_r06_Find_c hv1) ?_
  refine sv rfl (opv_mvt rfl) ?_
  refine sv rfl (opv_extract rfl rfl) ?_
  refine sv rfl (opv_extract rfl rfl) ?_
  refine sv rfl (opv_as rfl) ?_
  refine sv rfl (opv_as rfl) ?_
  refine snil ?_
  refine cseq ?_
  refine cseq ?_
  refine cjoin3 (Unit) (fun b2 => [(2, .s (.one (.lp 0 0))), (4, .s (.one (.lp 1 0))), (5, .s (.one (.i .i64 v1.1)))]) (fun b2 => [.box a0, .box [.raw (.slice none 0 0)]]) (fun b2 => m41_r08_Chain_k2 a0 v1 b2 = some r) (fun _ _ => inbL_of rfl) (fun _ _ => blkinb_of rfl) (fun _ _ => Nat.le_of_ble_eq_true rfl) (fun b2 h => ?_) ?_
  · unfold m41_r08_Chain_k2 at h
    refine cseq ?_
    refine cregion ?_
    refine sv rfl (opv_fieldAddr_lp fi25_1 rfl) ?_
    refine sv rfl (opv_load1 ti23 rfl (.lp _ _ _ rfl) rfl) ?_
    refine sv rfl (opv_mv rfl) ?_
    obtain ⟨u3, hu3, h⟩ := bind_eq h
    refine sv rfl (opv_ix (f := eGR07Chain) si23 (fun _ => rfl) rfl rfl rfl rfl hu3) ?_
    refine sv rfl (opv_loadNe (ys := [.sl u3.L.length (u3.L.flatMap eGR07Ver)]) ti79 rfl (.cp _) rfl rfl) ?_
    refine sstore sz79 rfl rfl rfl rfl (Nat.le_of_ble_eq_true rfl) ?_
    refine smem [.box a0, .box [.sl u3.L.length (u3.L.flatMap eGR07Ver)]] rfl ?_
    refine snil ?_
    refine cret ?_
    obtain rfl := Option.some.inj h
    refine ⟨Or.inr rfl, _, _, _, (resVs_cons (ResV.agg _ _ _ _ _ ti79 rfl (.lp _ _ _ rfl) (Nat.le_of_ble_eq_true rfl)) resVs_nil), (pubA_id rfl), ?_⟩
    rfl
  · skip
    refine cregion ?_
    refine sv rfl (opv_mv rfl) ?_
    refine sv rfl (opv_not rfl) ?_
    refine sv rfl (opv_mv rfl) ?_
    refine ssplit 16 rfl (fun hc => ?_) (fun hc => ?_)
    · replace h := ite_t hc h
      clear hc
      refine soff rfl rfl rfl rfl ?_
      refine soff rfl rfl rfl rfl ?_
      refine soff rfl rfl rfl rfl ?_
      refine sv rfl (opv_pick_t rfl rfl) ?_
      refine snil ?_
      refine ccond rfl (fun _ => ?_) (fun hx => Bool.noConfusion hx)
      refine cseq ?_
      refine cregion ?_
      refine sv rfl (opv_build zi79 pi79 parts_nil (.nil _)) ?_
      refine sstore sz79 rfl rfl rfl rfl (Nat.le_of_ble_eq_true rfl) ?_
      refine smem [.box a0, .box [.raw (.slice none 0 0)]] rfl ?_
      refine snil ?_
      refine cret ?_
      refine then_ret ?_
      obtain rfl := Option.some.inj h
      refine ⟨Or.inr rfl, _, _, _, (resVs_cons (ResV.agg _ _ _ _ _ ti79 rfl (.lp _ _ _ rfl) (Nat.le_of_ble_eq_true rfl)) resVs_nil), (pubC rfl), ?_⟩
      rfl
    · replace h := ite_f hc h
      clear hc
      refine son rfl rfl rfl ?_
      refine sv rfl (opv_loadN ti25 rfl (.lp _ _ _ rfl) (Nat.le_of_ble_eq_true rfl)) ?_
      refine son rfl rfl rfl ?_
      obtain ⟨v4, hv4, h⟩ := bind_eq h
      refine scall1 rfl fn24 (opnds_cons rfl opnds_nil) (pubA_id rfl) (m24_r08_Sane_c hv4) ?_
      refine son rfl rfl rfl ?_
      refine sv rfl (opv_not rfl) ?_
      refine sv rfl (opv_pick_f rfl rfl) ?_
      refine snil ?_
      refine ccond rfl (fun hc => ?_) (fun hc => ?_)
      · replace h := ite_t hc h
        clear hc
        refine cseq ?_
        refine cregion ?_
        refine sv rfl (opv_build zi79 pi79 parts_nil (.nil _)) ?_
        refine sstore sz79 rfl rfl rfl rfl (Nat.le_of_ble_eq_true rfl) ?_
        refine smem [.box a0, .box [.raw (.slice none 0 0)]] rfl ?_
        refine snil ?_
        refine cret ?_
        refine then_ret ?_
        obtain rfl := Option.some.inj h
        refine ⟨Or.inr rfl, _, _, _, (resVs_cons (ResV.agg _ _ _ _ _ ti79 rfl (.lp _ _ _ rfl) (Nat.le_of_ble_eq_true rfl)) resVs_nil), (pubC rfl), ?_⟩
        rfl
      · replace h := ite_f hc h
        clear hc
        refine cskip ?_
        refine then_normal ?_
        exact ⟨(), _, h, ⟨rfl, rfl, rfl, trivial⟩, rfl⟩

def m78_r07_place_k1 (b1 : Int) : Option Int :=
  some b1

def m78_r07_place_s2 (a0 : GR07Chain) (a1 : Int) (s2 : Int × Int) : Option (LB (Int × Int) (Int)) :=
  if (decide (s2.2 < (a0.L.length : Int))) then ((idx a0.L s2.2).bind fun u3 => if (decide (u3.Ts ≤ a1)) then (some (.cont (s2.2, (wI (s2.2 + 1))))) else (some (.cont (s2.1, (wI (s2.2 + 1)))))) else (some (.brk s2.1))
def m78_r07_place (a0 : GR07Chain) (a1 : Int) : Option Int :=
  (iterB (m78_r07_place_s2 a0 a1) fuel ((-1), 0)).bind fun e4 => m78_r07_place_k1 e4

set_option maxRecDepth 100000 in
theorem m78_r07_place_c {a0 : GR07Chain} {a1 : Int} {r : Int} (h : m78_r07_place a0 a1 = some r) : CallsA Try.prog 78 [.agg [.sl a0.L.length (a0.L.flatMap eGR07Ver)], .one (.i .i64 a1)] (· = .s (.one (.i .i64 r))) := by
  unfold m78_r07_place at h
  refine callsA_of Try.func78 rfl (nt := 24) rfl (Nat.le_of_ble_eq_true rfl) ?_
  intro w0 S0
  refine cseq ?_
  refine cregion ?_
  refine sbox rfl rfl ?_
  refine sv rfl (opv_as rfl) ?_
  refine snil ?_
  refine cseq ?_
  refine cregion ?_
  refine sv rfl (opv_as rfl) ?_
  refine snil ?_
  refine cseq ?_
  refine cseq ?_
  refine cregion ?_
  refine sv rfl (opv_as rfl) ?_
  refine snil ?_
  refine cjoin (Int) (fun b1 => [(5, .s (.one (.i .i64 b1)))]) (fun b1 => [.box [.sl a0.L.length (a0.L.flatMap eGR07Ver)]]) (fun b1 => m78_r07_place_k1 b1 = some r) (fun _ _ => inbL_of rfl) (fun _ _ => blkinb_of rfl) (fun _ _ => Nat.le_of_ble_eq_true rfl) (fun b1 h => ?_) ?_
  · unfold m78_r07_place_k1 at h
    refine cseq ?_
    refine cregion ?_
    refine sv rfl (opv_mv rfl) ?_
    refine sv rfl (opv_as rfl) ?_
    refine snil ?_
    refine cret ?_
    obtain rfl := Option.some.inj h
    refine ⟨Or.inr rfl, _, _, _, (resVs_cons (ResV.tmp _ _ rfl) resVs_nil), (pubA_id rfl), ?_⟩
    rfl
  · skip
    refine cblock ?_
    obtain ⟨x2, hx2, ho2⟩ := bind_eq h
    refine awc_loop (G := Nat × (Int × Int)) (fun g => [(1, .s (.one (.i .i64 a1))), (2, .s (.one (.lp 0 0))), (5, .s (.one (.i .i64 g.2.1))), (6, .s (.one (.i .i64 g.2.2)))]) (fun g => [.box [.sl a0.L.length (a0.L.flatMap eGR07Ver)]]) (fun g => iterB (m78_r07_place_s2 a0 a1) g.1 g.2 = some x2) (fun g => g.1) (fuel, ((-1), 0)) hx2 ⟨rfl, rfl, rfl, rfl, trivial⟩ [] rfl (fun _ _ => inbL_of rfl) (fun _ _ => blkinb_of rfl) (fun _ _ => Nat.le_of_ble_eq_true rfl) ?_
    clear hx2 h
    rintro ⟨n2, s2⟩ h
    obtain ⟨n2, y2, rfl, h, hk2⟩ := iterB_eq h
    unfold m78_r07_place_s2 at h
    refine cseq ?_
    refine cseq ?_
    refine cregion ?_
    refine sv rfl (opv_mv rfl) ?_
    refine sv rfl (opv_fieldAddr_lp fi79_0 rfl) ?_
    refine sv rfl (opv_load1 ti77 rfl (.lp _ _ _ rfl) rfl) ?_
    refine sv rfl (opv_len_sl si77 rfl) ?_
    refine sv rfl (opv_lss rfl rfl) ?_
    refine snil ?_
    refine ccond rfl (fun hc => ?_) (fun hc => ?_)
    · replace h := ite_t hc h
      clear hc
      refine cskip ?_
      refine then_normal ?_
      refine cseq ?_
      refine cblock ?_
      refine cseq ?_
      refine cregion ?_
      refine sv rfl (opv_fieldAddr_lp fi79_0 rfl) ?_
      refine sv rfl (opv_load1 ti77 rfl (.lp _ _ _ rfl) rfl) ?_
      refine sv rfl (opv_mv rfl) ?_
      obtain ⟨u3, hu3, h⟩ := bind_eq h
      refine sv rfl (opv_ix (f := eGR07Ver) si77 (fun _ => rfl) rfl rfl rfl rfl hu3) ?_
      refine sv rfl (opv_fieldAddr_cp fi84_0 rfl) ?_
      refine sv rfl (opv_load1 ti3 rfl (.cp _) rfl) ?_
      refine sv rfl (opv_mv rfl) ?_
      refine sv rfl (opv_leq rfl rfl) ?_
      refine snil ?_
      refine ccond rfl (fun hc => ?_) (fun hc => ?_)
      · replace h := ite_t hc h
        clear hc
        refine cregion ?_
        refine sv rfl (opv_mv rfl) ?_
        refine sv rfl (opv_as rfl) ?_
        refine snil0 ?_
        refine block_normal ?_
        refine then_normal ?_
        refine cregion ?_
        refine sv rfl (opv_mv rfl) ?_
        refine sv rfl (opv_add rfl rfl) ?_
        refine sv rfl (opv_as rfl) ?_
        refine snil ?_
        obtain rfl := Option.some.inj h
        exact ⟨(n2, (s2.2, (wI (s2.2 + 1)))), _, hk2, ⟨rfl, rfl, rfl, rfl, trivial⟩, rfl, Nat.lt_succ_self _⟩
      · replace h := ite_f hc h
        clear hc
        refine cskip ?_
        refine block_normal ?_
        refine then_normal ?_
        refine cregion ?_
        refine sv rfl (opv_mv rfl) ?_
        refine sv rfl (opv_add rfl rfl) ?_
        refine sv rfl (opv_as rfl) ?_
        refine snil ?_
        obtain rfl := Option.some.inj h
        exact ⟨(n2, (s2.1, (wI (s2.2 + 1)))), _, hk2, ⟨rfl, rfl, rfl, rfl, trivial⟩, rfl, Nat.lt_succ_self _⟩
    · replace h := ite_f hc h
      clear hc
      refine cexit ?_
      refine then_exit ?_
      refine then_exit ?_
      refine block_hit ?_
      refine then_normal ?_
      obtain rfl := Option.some.inj h
      obtain rfl : _ = x2 := hk2
      exact ⟨s2.1, _, ho2, ⟨rfl, trivial⟩, rfl⟩

def m65_r07_At (a0 : GR07Chain) (a1 : Int) : Option (GR07Ver × Bool) :=
  (m78_r07_place a0 a1).bind fun v1 => if (decide (v1 < 0)) then (some ((GR07Ver.mk 0 ([] : List UInt8) false), false)) else ((idx a0.L v1).bind fun u2 => some (u2, true))

set_option maxRecDepth 100000 in
theorem m65_r07_At_c {a0 : GR07Chain} {a1 : Int} {r : GR07Ver × Bool} (h : m65_r07_At a0 a1 = some r) : CallsA Try.prog 65 [.agg [.sl a0.L.length (a0.L.flatMap eGR07Ver)], .one (.i .i64 a1)] (· = .tup [.agg r.1, .one (.b r.2)]) := by
  unfold m65_r07_At at h
  refine callsA_of Try.func65 rfl (nt := 18) rfl (Nat.le_of_ble_eq_true rfl) ?_
  intro w0 S0
  refine cseq ?_
  refine cregion ?_
  refine sbox rfl rfl ?_
  refine salloc rfl zi84 ?_
  refine sv rfl (opv_as rfl) ?_
  refine snil ?_
  refine cseq ?_
  refine cregion ?_
  refine sv rfl (opv_loadN ti79 rfl (.lp _ _ _ rfl) (Nat.le_of_ble_eq_true rfl)) ?_
  refine sv rfl (opv_mv rfl) ?_
  obtain ⟨v1, hv1, h⟩ := bind_eq h
  refine scall1 rfl fn78 (opnds_cons rfl (opnds_cons rfl opnds_nil)) (pubA_id rfl) (m78_r07_place_c hv1) ?_
  refine sv rfl (opv_as rfl) ?_
  refine snil ?_
  refine cseq ?_
  refine cseq ?_
  refine cregion ?_
  refine sv rfl (opv_mv rfl) ?_
  refine sv rfl (opv_lss rfl rfl) ?_
  refine snil ?_
  refine ccond rfl (fun hc => ?_) (fun hc => ?_)
  · replace h := ite_t hc h
    clear hc
    refine cseq ?_
    refine cregion ?_
    refine sv rfl (opv_build zi84 pi84 parts_nil (.nil _)) ?_
    refine sstore sz84 rfl rfl rfl rfl (Nat.le_of_ble_eq_true rfl) ?_
    refine smem [.box [.sl a0.L.length (a0.L.flatMap eGR07Ver)], .box [.i .i64 0, .raw (.slice none 0 0), .b false]] rfl ?_
    refine sv rfl (opv_as rfl) ?_
    refine snil ?_
    refine cret ?_
    refine then_ret ?_
    obtain rfl := Option.some.inj h
    refine ⟨Or.inr rfl, _, _, _, (resVs_cons (ResV.agg _ _ _ _ _ ti84 rfl (.lp _ _ _ rfl) (Nat.le_of_ble_eq_true rfl)) (resVs_cons (ResV.tmp _ _ rfl) resVs_nil)), (pubC rfl), ?_⟩
    rfl
  · replace h := ite_f hc h
    clear hc
    refine cskip ?_
    refine then_normal ?_
    refine cseq ?_
    refine cregion ?_
    refine sv rfl (opv_fieldAddr_lp fi79_0 rfl) ?_
    refine sv rfl (opv_load1 ti77 rfl (.lp _ _ _ rfl) rfl) ?_
    refine sv rfl (opv_mv rfl) ?_
    obtain ⟨u2, hu2, h⟩ := bind_eq h
    refine sv rfl (opv_ix (f := eGR07Ver) si77 (fun _ => rfl) rfl rfl rfl rfl hu2) ?_
    refine sv rfl (opv_loadNe (ys := [.i .i64 u2.Ts, .sl u2.Val.length (u2.Val.flatMap eU8), .b u2.Del]) ti84 rfl (.cp _) rfl rfl) ?_
    refine sstore sz84 rfl rfl rfl rfl (Nat.le_of_ble_eq_true rfl) ?_
    refine smem [.box [.sl a0.L.length (a0.L.flatMap eGR07Ver)], .box u2] rfl ?_
    refine sv rfl (opv_as rfl) ?_
    refine snil ?_
    refine cret ?_
    obtain rfl := Option.some.inj h
    refine ⟨Or.inr rfl, _, _, _, (resVs_cons (ResV.agg _ _ _ _ _ ti84 rfl (.lp _ _ _ rfl) (Nat.le_of_ble_eq_true rfl)) (resVs_cons (ResV.tmp _ _ rfl) resVs_nil)), (pubA_id rfl), ?_⟩
    rfl

def m40_r07_Value_k2 (v1 : GR07Ver × Bool) (b2 : Unit) : Option ((List UInt8) × Bool) :=
  some (v1.1.Val, true)
def m40_r07_Value (a0 : GR07Chain) (a1 : Int) : Option ((List UInt8) × Bool) :=
  (m65_r07_At a0 a1).bind fun v1 => if (!v1.2) then (some (([] : List UInt8), false)) else (if v1.1.Del then (some (([] : List UInt8), false)) else (m40_r07_Value_k2 v1 ()))

set_option maxRecDepth 100000 in
theorem m40_r07_Value_c {a0 : GR07Chain} {a1 : Int} {r : (List UInt8) × Bool} (h : m40_r07_Value a0 a1 = some r) : CallsA Try.prog 40 [.agg [.sl a0.L.length (a0.L.flatMap eGR07Ver)], .one (.i .i64 a1)] (· = .tup [.one (.sl r.1.length (r.1.flatMap eU8)), .one (.b r.2)]) := by
  unfold m40_r07_Value at h
  refine callsA_of Try.func40 rfl (nt := 22) rfl (Nat.le_of_ble_eq_true rfl) ?_
  intro w0 S0
  refine cseq ?_
  refine cregion ?_
  refine sbox rfl rfl ?_
  refine sv rfl (opv_as rfl) ?_
  refine sv rfl (opv_as rfl) ?_
  refine snil ?_
  refine cseq ?_
  refine cregion ?_
  refine sv rfl (opv_loadN ti79 rfl (.lp _ _ _ rfl) (Nat.le_of_ble_eq_true rfl)) ?_
  refine sv rfl (opv_mv rfl) ?_
  obtain ⟨v1, hv1, h⟩ := bind_eq h
  refine scall1 rfl fn65 (opnds_cons rfl (opnds_cons rfl opnds_nil)) (pubA_id rfl) (m65_r07_At_c hv1) ?_
  refine sv rfl (opv_mvt rfl) ?_
  refine sv rfl (opv_extract rfl rfl) ?_
  refine sv rfl (opv_extract rfl rfl) ?_
  refine salloc rfl zi84 ?_
  refine sstore sz84 rfl rfl rfl rfl (Nat.le_of_ble_eq_true rfl) ?_
  refine smem [.box [.sl a0.L.length (a0.L.flatMap eGR07Ver)], .box v1.1] rfl ?_
  refine sv rfl (opv_as rfl) ?_
  refine snil ?_
  refine cseq ?_
  refine cseq ?_
  refine cjoin3 (Unit) (fun b2 => [(6, .s (.one (.lp 1 0)))]) (fun b2 => [.box [.sl a0.L.length (a0.L.flatMap eGR07Ver)], .box v1.1]) (fun b2 => m40_r07_Value_k2 v1 b2 = some r) (fun _ _ => inbL_of rfl) (fun _ _ => blkinb_of rfl) (fun _ _ => Nat.le_of_ble_eq_true rfl) (fun b2 h => ?_) ?_
  · unfold m40_r07_Value_k2 at h
    refine cseq ?_
    refine cregion ?_
    refine sv rfl (opv_fieldAddr_lp fi84_1 rfl) ?_
    refine sv rfl (opv_load1 ti26 rfl (.lp _ _ _ rfl) rfl) ?_
    refine sv rfl (opv_as rfl) ?_
    refine sv rfl (opv_as rfl) ?_
    refine snil ?_
    refine cret ?_
    obtain rfl := Option.some.inj h
    refine ⟨Or.inr rfl, _, _, _, (resVs_cons (ResV.tmp _ _ rfl) (resVs_cons (ResV.tmp _ _ rfl) resVs_nil)), (pubA_id rfl), ?_⟩
    rfl
  · skip
    refine cregion ?_
    refine sv rfl (opv_mv rfl) ?_
    refine sv rfl (opv_not rfl) ?_
    refine sv rfl (opv_mv rfl) ?_
    refine ssplit 16 rfl (fun hc => ?_) (fun hc => ?_)
    · replace h := ite_t hc h
      clear hc
      refine soff rfl rfl rfl rfl ?_
      refine soff rfl rfl rfl rfl ?_
      refine sv rfl (opv_pick_t rfl rfl) ?_
      refine snil ?_
      refine ccond rfl (fun _ => ?_) (fun hx => Bool.noConfusion hx)
      refine cseq ?_
      refine cregion ?_
      refine sv rfl (opv_as rfl) ?_
      refine sv rfl (opv_as rfl) ?_
      refine snil ?_
      refine cret ?_
      refine then_ret ?_
      obtain rfl := Option.some.inj h
      refine ⟨Or.inr rfl, _, _, _, (resVs_cons (ResV.tmp _ _ rfl) (resVs_cons (ResV.tmp _ _ rfl) resVs_nil)), (pubC rfl), ?_⟩
      rfl
    · replace h := ite_f hc h
      clear hc
      refine son rfl rfl rfl ?_
      refine sv rfl (opv_fieldAddr_lp fi84_2 rfl) ?_
      refine son rfl rfl rfl ?_
      refine sv rfl (opv_load1 ti4 rfl (.lp _ _ _ rfl) rfl) ?_
      refine sv rfl (opv_pick_f rfl rfl) ?_
      refine snil ?_
      refine ccond rfl (fun hc => ?_) (fun hc => ?_)
      · replace h := ite_t hc h
        clear hc
        refine cseq ?_
        refine cregion ?_
        refine sv rfl (opv_as rfl) ?_
        refine sv rfl (opv_as rfl) ?_
        refine snil ?_
        refine cret ?_
        refine then_ret ?_
        obtain rfl := Option.some.inj h
        refine ⟨Or.inr rfl, _, _, _, (resVs_cons (ResV.tmp _ _ rfl) (resVs_cons (ResV.tmp _ _ rfl) resVs_nil)), (pubC rfl), ?_⟩
        rfl
      · replace h := ite_f hc h
        clear hc
        refine cskip ?_
        refine then_normal ?_
        exact ⟨(), _, h, ⟨rfl, trivial⟩, rfl⟩

def m15_r08_Get (a0 : GR08Store) (a1 : List UInt8) (a2 : Int) : Option ((List UInt8) × Bool) :=
  (m41_r08_Chain (GR08Store.mk a0.Keys a0.Chains a0.Ts) a1).bind fun v1 => (m40_r07_Value (GR07Chain.mk v1.L) a2).bind fun v2 => some (v2.1, v2.2)

set_option maxRecDepth 100000 in
theorem m15_r08_Get_c {a0 : GR08Store} {a1 : List UInt8} {a2 : Int} {r : (List UInt8) × Bool} (h : m15_r08_Get a0 a1 a2 = some r) : CallsA Try.prog 15 [.agg a0, .one (.sl a1.length (a1.flatMap eU8)), .one (.i .i64 a2)] (· = .tup [.one (.sl r.1.length (r.1.flatMap eU8)), .one (.b r.2)]) := by
  unfold m15_r08_Get at h
  refine callsA_of Try.func15 rfl (nt := 15) rfl (Nat.le_of_ble_eq_true rfl) ?_
  intro w0 S0
  refine cseq ?_
  refine cregion ?_
  refine sbox rfl rfl ?_
  refine sv rfl (opv_as rfl) ?_
  refine sv rfl (opv_as rfl) ?_
  refine snil ?_
  refine cseq ?_
  refine cregion ?_
  refine sv rfl (opv_loadN ti25 rfl (.lp _ _ _ rfl) (Nat.le_of_ble_eq_true rfl)) ?_
  refine sv rfl (opv_mv rfl) ?_
  obtain ⟨v1, hv1, h⟩ := bind_eq h
  refine scall1 rfl fn41 (opnds_cons rfl (opnds_cons rfl opnds_nil)) (pubA_id rfl) (m41_r08_Chain_c hv1) ?_
  refine sv rfl (opv_mv rfl) ?_
  obtain ⟨v2, hv2, h⟩ := bind_eq h
  refine scall1 rfl fn40 (opnds_cons rfl (opnds_cons rfl opnds_nil)) (pubA_id rfl) (m40_r07_Value_c hv2) ?_
  refine sv rfl (opv_extract rfl rfl) ?_
  refine sv rfl (opv_extract rfl rfl) ?_
  refine sv rfl (opv_as rfl) ?_
  refine sv rfl (opv_as rfl) ?_
  refine snil ?_
  refine cret ?_
  obtain rfl := Option.some.inj h
  refine ⟨Or.inr rfl, _, _, _, (resVs_cons (ResV.tmp _ _ rfl) (resVs_cons (ResV.tmp _ _ rfl) resVs_nil)), (pubA_id rfl), ?_⟩
  rfl

def m46_r08_Writes_k1 (b1 : Unit) : Option Bool :=
  some true

def m46_r08_Writes_s2 (a0 : List GApiWrite) (s2 : Int) : Option (LR (Int) (Unit) (Bool)) :=
  if (decide (s2 < (a0.length : Int))) then ((idx a0 s2).bind fun u3 => (m55_r06_Sane u3.Key).bind fun v4 => if (!v4) then (some (.ret false)) else (if (decide (0 < s2)) then ((idx a0 (wI (s2 - 1))).bind fun u5 => (m60_r06_Cmp u5.Key u3.Key).bind fun v6 => if (decide (0 ≤ v6)) then (some (.ret false)) else (if (decide (32 < (u3.Val.length : Int))) then (some (.ret false)) else (if u3.Del then (if (decide (0 < (u3.Val.length : Int))) then (some (.ret false)) else (some (.cont (wI (s2 + 1))))) else (some (.cont (wI (s2 + 1))))))) else (if (decide (32 < (u3.Val.length : Int))) then (some (.ret false)) else (if u3.Del then (if (decide (0 < (u3.Val.length : Int))) then (some (.ret false)) else (some (.cont (wI (s2 + 1))))) else (some (.cont (wI (s2 + 1)))))))) else (some (.brk ()))
def m46_r08_Writes (a0 : List GApiWrite) : Option Bool :=
  (iter (m46_r08_Writes_s2 a0) fuel 0).bind fun x => match x with | .inl r => some r | .inr e7 => m46_r08_Writes_k1 e7

set_option maxRecDepth 100000 in
theorem m46_r08_Writes_c {a0 : List GApiWrite} {r : Bool} (h : m46_r08_Writes a0 = some r) : CallsA Try.prog 46 [.one (.sl a0.length (a0.flatMap eGApiWrite))] (· = .s (.one (.b r))) := by
  unfold m46_r08_Writes at h
  refine callsA_of Try.func46 rfl (nt := 51) rfl (Nat.le_of_ble_eq_true rfl) ?_
  intro w0 S0
  refine cseq ?_
  refine cregion ?_
  refine sv rfl (opv_as rfl) ?_
  refine snil ?_
  refine cseq ?_
  refine cseq ?_
  refine cregion ?_
  refine sv rfl (opv_as rfl) ?_
  refine snil ?_
  refine cjoin (Unit) (fun b1 => []) (fun b1 => []) (fun b1 => m46_r08_Writes_k1 b1 = some r) (fun _ _ => inbL_of rfl) (fun _ _ => blkinb_of rfl) (fun _ _ => Nat.le_of_ble_eq_true rfl) (fun b1 h => ?_) ?_
  · unfold m46_r08_Writes_k1 at h
    refine cseq ?_
    refine cregion ?_
    refine sv rfl (opv_as rfl) ?_
    refine snil ?_
    refine cret ?_
    obtain rfl := Option.some.inj h
    refine ⟨Or.inr rfl, _, _, _, (resVs_cons (ResV.tmp _ _ rfl) resVs_nil), (pubA_id rfl), ?_⟩
    rfl
  · skip
    refine cblock ?_
    obtain ⟨x2, hx2, ho2⟩ := bind_eq h
    refine awc_loop (G := Nat × (Int)) (fun g => [(0, .s (.one (.sl a0.length (a0.flatMap eGApiWrite)))), (3, .s (.one (.i .i64 g.2)))]) (fun g => []) (fun g => iter (m46_r08_Writes_s2 a0) g.1 g.2 = some x2) (fun g => g.1) (fuel, 0) hx2 ⟨rfl, rfl, trivial⟩ [] rfl (fun _ _ => inbL_of rfl) (fun _ _ => blkinb_of rfl) (fun _ _ => Nat.le_of_ble_eq_true rfl) ?_
    clear hx2 h
    rintro ⟨n2, s2⟩ h
    obtain ⟨n2, y2, rfl, h, hk2⟩ := iter_eq h
    unfold m46_r08_Writes_s2 at h
    refine cseq ?_
    refine cseq ?_
    refine cregion ?_
    refine sv rfl (opv_mv rfl) ?_
    refine sv rfl (opv_mv rfl) ?_
    refine sv rfl (opv_len_sl si29 rfl) ?_
    refine sv rfl (opv_lss rfl rfl) ?_
    refine snil ?_
    refine ccond rfl (fun hc => ?_) (fun hc => ?_)
    · replace h := ite_t hc h
      clear hc
      refine cskip ?_
      refine then_normal ?_
      refine cseq ?_
      refine cblock ?_
      refine cseq ?_
      refine cregion ?_
      refine sv rfl (opv_mv rfl) ?_
      refine sv rfl (opv_mv rfl) ?_
      obtain ⟨u3, hu3, h⟩ := bind_eq h
      refine sv rfl (opv_ix (f := eGApiWrite) si29 (fun _ => rfl) rfl rfl rfl rfl hu3) ?_
      refine sv rfl (opv_loadNe (ys := [.sl u3.Key.length (u3.Key.flatMap eU8), .sl u3.Val.length (u3.Val.flatMap eU8), .b u3.Del]) ti67 rfl (.cp _) rfl rfl) ?_
      refine salloc rfl zi67 ?_
      refine sstore sz67 rfl rfl rfl rfl (Nat.le_of_ble_eq_true rfl) ?_
      refine smem [.box u3] rfl ?_
      refine snil ?_
      refine cseq ?_
      refine cdraw mixed (by kernel_rfl) ?_
      refine dv rfl (opv_fieldAddr_lp fi67_0 rfl) ?_
      refine dv rfl (opv_load1 ti26 rfl (.lp _ _ _ rfl) rfl) ?_
      obtain ⟨v4, hv4, h⟩ := bind_eq h
      refine dd rfl (opD_call fn55 (opnds_cons rfl opnds_nil) rfl (m55_r06_Sane_c hv4)) ?_
      refine dv rfl (opv_not rfl) ?_
      refine dv rfl (opv_mv rfl) ?_
      refine dsplit 19 rfl (fun hc => ?_) (fun hc => ?_)
      · replace h := ite_t hc h
        clear hc
        refine doff rfl rfl rfl rfl ?_
        refine doff rfl rfl rfl rfl ?_
        refine doff rfl rfl rfl rfl ?_
        refine doffu rfl rfl rfl ?_
        refine doffu rfl rfl rfl ?_
        refine doffu rfl rfl rfl ?_
        refine doffu rfl rfl rfl ?_
        refine doffu rfl rfl rfl ?_
        refine doffu rfl rfl rfl ?_
        refine doffu rfl rfl rfl ?_
        refine doffu rfl rfl rfl ?_
        refine doffu rfl rfl rfl ?_
        refine doffu rfl rfl rfl ?_
        refine doff rfl rfl rfl rfl ?_
        refine dv rfl (opv_pick_t rfl rfl) ?_
        refine dv rfl (opv_mv rfl) ?_
        refine doff rfl rfl rfl rfl ?_
        refine doff rfl rfl rfl rfl ?_
        refine doff rfl rfl rfl rfl ?_
        refine doff rfl rfl rfl rfl ?_
        refine dv rfl (opv_pick_t rfl rfl) ?_
        refine dv rfl (opv_mv rfl) ?_
        refine doff rfl rfl rfl rfl ?_
        refine doff rfl rfl rfl rfl ?_
        refine doff rfl rfl rfl rfl ?_
        refine doffu rfl rfl rfl ?_
        refine doffu rfl rfl rfl ?_
        refine doffu rfl rfl rfl ?_
        refine doffu rfl rfl rfl ?_
        refine doff rfl rfl rfl rfl ?_
        refine dv rfl (opv_pick_t rfl rfl) ?_
        refine dnil ?_
        refine then_normal ?_
        refine ccond rfl (fun _ => ?_) (fun hx => Bool.noConfusion hx)
        refine cseq ?_
        refine cregion ?_
        refine sv rfl (opv_as rfl) ?_
        refine snil ?_
        refine cret ?_
        refine block_ret ?_
        refine then_ret ?_
        refine then_ret ?_
        refine block_ret ?_
        refine then_ret ?_
        obtain rfl := Option.some.inj h
        obtain rfl : Sum.inl _ = x2 := hk2
        replace ho2 : some _ = some _ := ho2
        obtain rfl := Option.some.inj ho2
        refine ⟨Or.inr rfl, _, _, _, (resVs_cons (ResV.tmp _ _ rfl) resVs_nil), (pubA_id rfl), ?_⟩
        rfl
      · replace h := ite_f hc h
        clear hc
        refine dvg rfl rfl rfl (opv_mv rfl) ?_
        refine dvg rfl rfl rfl (opv_gtr rfl rfl) ?_
        refine dvg rfl rfl rfl (opv_mv rfl) ?_
        refine dsplit 22 rfl (fun hc => ?_) (fun hc => ?_)
        · replace h := ite_t hc h
          clear hc
          refine dvg rfl rfl rfl (opv_mv rfl) ?_
          refine dvg rfl rfl rfl (opv_mv rfl) ?_
          refine dvg rfl rfl rfl (opv_sub rfl rfl) ?_
          obtain ⟨u5, hu5, h⟩ := bind_eq h
          refine dvg rfl rfl rfl (opv_ix (f := eGApiWrite) si29 (fun _ => rfl) rfl rfl rfl rfl hu5) ?_
          refine dvg rfl rfl rfl (opv_fieldAddr_cp fi67_0 rfl) ?_
          refine dvg rfl rfl rfl (opv_load1 ti26 rfl (.cp _) rfl) ?_
          refine dvg rfl rfl rfl (opv_fieldAddr_lp fi67_0 rfl) ?_
          refine dvg rfl rfl rfl (opv_load1 ti26 rfl (.lp _ _ _ rfl) rfl) ?_
          obtain ⟨v6, hv6, h⟩ := bind_eq h
          refine ddg rfl rfl rfl (opD_call fn60 (opnds_cons rfl (opnds_cons rfl opnds_nil)) rfl (m60_r06_Cmp_c hv6)) ?_
          refine dvg rfl rfl rfl (opv_geq rfl rfl) ?_
          refine dvg rfl rfl rfl (opv_pick_t rfl rfl) ?_
          refine dv rfl (opv_pick_f rfl rfl) ?_
          refine dv rfl (opv_mv rfl) ?_
          refine dsplit 35 rfl (fun hc => ?_) (fun hc => ?_)
          · replace h := ite_t hc h
            clear hc
            refine doff rfl rfl rfl rfl ?_
            refine doff rfl rfl rfl rfl ?_
            refine doff rfl rfl rfl rfl ?_
            refine doff rfl rfl rfl rfl ?_
            refine dv rfl (opv_pick_t rfl rfl) ?_
            refine dv rfl (opv_mv rfl) ?_
            refine doff rfl rfl rfl rfl ?_
            refine doff rfl rfl rfl rfl ?_
            refine doff rfl rfl rfl rfl ?_
            refine doffu rfl rfl rfl ?_
            refine doffu rfl rfl rfl ?_
            refine doffu rfl rfl rfl ?_
            refine doffu rfl rfl rfl ?_
            refine doff rfl rfl rfl rfl ?_
            refine dv rfl (opv_pick_t rfl rfl) ?_
            refine dnil ?_
            refine then_normal ?_
            refine ccond rfl (fun _ => ?_) (fun hx => Bool.noConfusion hx)
            refine cseq ?_
            refine cregion ?_
            refine sv rfl (opv_as rfl) ?_
            refine snil ?_
            refine cret ?_
            refine block_ret ?_
            refine then_ret ?_
            refine then_ret ?_
            refine block_ret ?_
            refine then_ret ?_
            obtain rfl := Option.some.inj h
            obtain rfl : Sum.inl _ = x2 := hk2
            replace ho2 : some _ = some _ := ho2
            obtain rfl := Option.some.inj ho2
            refine ⟨Or.inr rfl, _, _, _, (resVs_cons (ResV.tmp _ _ rfl) resVs_nil), (pubA_id rfl), ?_⟩
            rfl
          · replace h := ite_f hc h
            clear hc
            refine dvg rfl rfl rfl (opv_fieldAddr_lp fi67_1 rfl) ?_
            refine dvg rfl rfl rfl (opv_load1 ti26 rfl (.lp _ _ _ rfl) rfl) ?_
            refine dvg rfl rfl rfl (opv_len_sl si26 rfl) ?_
            refine dvg rfl rfl rfl (opv_gtr rfl rfl) ?_
            refine dv rfl (opv_pick_f rfl rfl) ?_
            refine dv rfl (opv_mv rfl) ?_
            refine dsplit 41 rfl (fun hc => ?_) (fun hc => ?_)
            · replace h := ite_t hc h
              clear hc
              refine doff rfl rfl rfl rfl ?_
              refine doff rfl rfl rfl rfl ?_
              refine doff rfl rfl rfl rfl ?_
              refine doffu rfl rfl rfl ?_
              refine doffu rfl rfl rfl ?_
              refine doffu rfl rfl rfl ?_
              refine doffu rfl rfl rfl ?_
              refine doff rfl rfl rfl rfl ?_
              refine dv rfl (opv_pick_t rfl rfl) ?_
              refine dnil ?_
              refine then_normal ?_
              refine ccond rfl (fun _ => ?_) (fun hx => Bool.noConfusion hx)
              refine cseq ?_
              refine cregion ?_
              refine sv rfl (opv_as rfl) ?_
              refine snil ?_
              refine cret ?_
              refine block_ret ?_
              refine then_ret ?_
              refine then_ret ?_
              refine block_ret ?_
              refine then_ret ?_
              obtain rfl := Option.some.inj h
              obtain rfl : Sum.inl _ = x2 := hk2
              replace ho2 : some _ = some _ := ho2
              obtain rfl := Option.some.inj ho2
              refine ⟨Or.inr rfl, _, _, _, (resVs_cons (ResV.tmp _ _ rfl) resVs_nil), (pubA_id rfl), ?_⟩
              rfl
            · replace h := ite_f hc h
              clear hc
              refine dvg rfl rfl rfl (opv_fieldAddr_lp fi67_2 rfl) ?_
              refine dvg rfl rfl rfl (opv_load1 ti4 rfl (.lp _ _ _ rfl) rfl) ?_
              refine dvg rfl rfl rfl (opv_mv rfl) ?_
              refine dsplit 44 rfl (fun hc => ?_) (fun hc => ?_)
              · replace h := ite_t hc h
                clear hc
                refine dvg rfl rfl rfl (opv_fieldAddr_lp fi67_1 rfl) ?_
                refine dvg rfl rfl rfl (opv_load1 ti26 rfl (.lp _ _ _ rfl) rfl) ?_
                refine dvg rfl rfl rfl (opv_len_sl si26 rfl) ?_
                refine dvg rfl rfl rfl (opv_gtr rfl rfl) ?_
                refine dvg rfl rfl rfl (opv_pick_t rfl rfl) ?_
                refine dv rfl (opv_pick_f rfl rfl) ?_
                refine dnil ?_
                refine then_normal ?_
                refine ccond rfl (fun hc => ?_) (fun hc => ?_)
                · replace h := ite_t hc h
                  clear hc
                  refine cseq ?_
                  refine cregion ?_
                  refine sv rfl (opv_as rfl) ?_
                  refine snil ?_
                  refine cret ?_
                  refine block_ret ?_
                  refine then_ret ?_
                  refine then_ret ?_
                  refine block_ret ?_
                  refine then_ret ?_
                  obtain rfl := Option.some.inj h
                  obtain rfl : Sum.inl _ = x2 := hk2
                  replace ho2 : some _ = some _ := ho2
                  obtain rfl := Option.some.inj ho2
                  refine ⟨Or.inr rfl, _, _, _, (resVs_cons (ResV.tmp _ _ rfl) resVs_nil), (pubA_id rfl), ?_⟩
                  rfl
                · replace h := ite_f hc h
                  clear hc
                  refine cskip ?_
                  refine block_normal ?_
                  refine then_normal ?_
                  refine cregion ?_
                  refine sv rfl (opv_mv rfl) ?_
                  refine sv rfl (opv_add rfl rfl) ?_
                  refine sv rfl (opv_as rfl) ?_
                  refine snil ?_
                  obtain rfl := Option.some.inj h
                  exact ⟨(n2, (wI (s2 + 1))), _, hk2, ⟨rfl, rfl, trivial⟩, rfl, Nat.lt_succ_self _⟩
              · replace h := ite_f hc h
                clear hc
                refine doff rfl rfl rfl rfl ?_
                refine doff rfl rfl rfl rfl ?_
                refine doff rfl rfl rfl rfl ?_
                refine doff rfl rfl rfl rfl ?_
                refine dvg rfl rfl rfl (opv_pick_f rfl rfl) ?_
                refine dv rfl (opv_pick_f rfl rfl) ?_
                refine dnil ?_
                refine then_normal ?_
                refine ccond rfl (fun hx => Bool.noConfusion hx) (fun _ => ?_)
                refine cskip ?_
                refine block_normal ?_
                refine then_normal ?_
                refine cregion ?_
                refine sv rfl (opv_mv rfl) ?_
                refine sv rfl (opv_add rfl rfl) ?_
                refine sv rfl (opv_as rfl) ?_
                refine snil ?_
                obtain rfl := Option.some.inj h
                exact ⟨(n2, (wI (s2 + 1))), _, hk2, ⟨rfl, rfl, trivial⟩, rfl, Nat.lt_succ_self _⟩
        · replace h := ite_f hc h
          clear hc
          refine doff rfl rfl rfl rfl ?_
          refine doff rfl rfl rfl rfl ?_
          refine doff rfl rfl rfl rfl ?_
          refine doff rfl rfl rfl rfl ?_
          refine doff rfl rfl rfl rfl ?_
          refine doff rfl rfl rfl rfl ?_
          refine doff rfl rfl rfl rfl ?_
          refine doff rfl rfl rfl rfl ?_
          refine doff rfl rfl rfl rfl ?_
          refine doff rfl rfl rfl rfl ?_
          refine dvg rfl rfl rfl (opv_pick_f rfl rfl) ?_
          refine dv rfl (opv_pick_f rfl rfl) ?_
          refine dv rfl (opv_mv rfl) ?_
          refine dvg rfl rfl rfl (opv_fieldAddr_lp fi67_1 rfl) ?_
          refine dvg rfl rfl rfl (opv_load1 ti26 rfl (.lp _ _ _ rfl) rfl) ?_
          refine dvg rfl rfl rfl (opv_len_sl si26 rfl) ?_
          refine dvg rfl rfl rfl (opv_gtr rfl rfl) ?_
          refine dv rfl (opv_pick_f rfl rfl) ?_
          refine dv rfl (opv_mv rfl) ?_
          refine dsplit 41 rfl (fun hc => ?_) (fun hc => ?_)
          · replace h := ite_t hc h
            clear hc
            refine doff rfl rfl rfl rfl ?_
            refine doff rfl rfl rfl rfl ?_
            refine doff rfl rfl rfl rfl ?_
            refine doffu rfl rfl rfl ?_
            refine doffu rfl rfl rfl ?_
            refine doffu rfl rfl rfl ?_
            refine doffu rfl rfl rfl ?_
            refine doff rfl rfl rfl rfl ?_
            refine dv rfl (opv_pick_t rfl rfl) ?_
            refine dnil ?_
            refine then_normal ?_
            refine ccond rfl (fun _ => ?_) (fun hx => Bool.noConfusion hx)
            refine cseq ?_
            refine cregion ?_
            refine sv rfl (opv_as rfl) ?_
            refine snil ?_
            refine cret ?_
            refine block_ret ?_
            refine then_ret ?_
            refine then_ret ?_
            refine block_ret ?_
            refine then_ret ?_
            obtain rfl := Option.some.inj h
            obtain rfl : Sum.inl _ = x2 := hk2
            replace ho2 : some _ = some _ := ho2
            obtain rfl := Option.some.inj ho2
            refine ⟨Or.inr rfl, _, _, _, (resVs_cons (ResV.tmp _ _ rfl) resVs_nil), (pubA_id rfl), ?_⟩
            rfl
          · replace h := ite_f hc h
            clear hc
            refine dvg rfl rfl rfl (opv_fieldAddr_lp fi67_2 rfl) ?_
            refine dvg rfl rfl rfl (opv_load1 ti4 rfl (.lp _ _ _ rfl) rfl) ?_
            refine dvg rfl rfl rfl (opv_mv rfl) ?_
            refine dsplit 44 rfl (fun hc => ?_) (fun hc => ?_)
            · replace h := ite_t hc h
              clear hc
              refine dvg rfl rfl rfl (opv_fieldAddr_lp fi67_1 rfl) ?_
              refine dvg rfl rfl rfl (opv_load1 ti26 rfl (.lp _ _ _ rfl) rfl) ?_
              refine dvg rfl rfl rfl (opv_len_sl si26 rfl) ?_
              refine dvg rfl rfl rfl (opv_gtr rfl rfl) ?_
              refine dvg rfl rfl rfl (opv_pick_t rfl rfl) ?_
              refine dv rfl (opv_pick_f rfl rfl) ?_
              refine dnil ?_
              refine then_normal ?_
              refine ccond rfl (fun hc => ?_) (fun hc => ?_)
              · replace h := ite_t hc h
                clear hc
                refine cseq ?_
                refine cregion ?_
                refine sv rfl (opv_as rfl) ?_
                refine snil ?_
                refine cret ?_
                refine block_ret ?_
                refine then_ret ?_
                refine then_ret ?_
                refine block_ret ?_
                refine then_ret ?_
                obtain rfl := Option.some.inj h
                obtain rfl : Sum.inl _ = x2 := hk2
                replace ho2 : some _ = some _ := ho2
                obtain rfl := Option.some.inj ho2
                refine ⟨Or.inr rfl, _, _, _, (resVs_cons (ResV.tmp _ _ rfl) resVs_nil), (pubA_id rfl), ?_⟩
                rfl
              · replace h := ite_f hc h
                clear hc
                refine cskip ?_
                refine block_normal ?_
                refine then_normal ?_
                refine cregion ?_
                refine sv rfl (opv_mv rfl) ?_
                refine sv rfl (opv_add rfl rfl) ?_
                refine sv rfl (opv_as rfl) ?_
                refine snil ?_
                obtain rfl := Option.some.inj h
                exact ⟨(n2, (wI (s2 + 1))), _, hk2, ⟨rfl, rfl, trivial⟩, rfl, Nat.lt_succ_self _⟩
            · replace h := ite_f hc h
              clear hc
              refine doff rfl rfl rfl rfl ?_
              refine doff rfl rfl rfl rfl ?_
              refine doff rfl rfl rfl rfl ?_
              refine doff rfl rfl rfl rfl ?_
              refine dvg rfl rfl rfl (opv_pick_f rfl rfl) ?_
              refine dv rfl (opv_pick_f rfl rfl) ?_
              refine dnil ?_
              refine then_normal ?_
              refine ccond rfl (fun hx => Bool.noConfusion hx) (fun _ => ?_)
              refine cskip ?_
              refine block_normal ?_
              refine then_normal ?_
              refine cregion ?_
              refine sv rfl (opv_mv rfl) ?_
              refine sv rfl (opv_add rfl rfl) ?_
              refine sv rfl (opv_as rfl) ?_
              refine snil ?_
              obtain rfl := Option.some.inj h
              exact ⟨(n2, (wI (s2 + 1))), _, hk2, ⟨rfl, rfl, trivial⟩, rfl, Nat.lt_succ_self _⟩
    · replace h := ite_f hc h
      clear hc
      refine cexit ?_
      refine then_exit ?_
      refine then_exit ?_
      refine block_hit ?_
      refine then_normal ?_
      obtain rfl := Option.some.inj h
      obtain rfl : _ = x2 := hk2
      exact ⟨(), _, ho2, trivial, rfl⟩

def m47_r06_Insert (a0 : List (List UInt8)) (a1 : List UInt8) : Option (List (List UInt8)) :=
  (m66_r06_Find a0 a1).bind fun v1 => if v1.2 then (if (([] : List (List UInt8)).length + a0.length) * 24 ≤ 140737488355328 then (some (([] : List (List UInt8)) ++ a0)) else none) else ((cut a0 0 v1.1).bind fun c3 => if (([] : List (List UInt8)).length + c3.length) * 24 ≤ 140737488355328 then (if ((([] : List (List UInt8)) ++ c3).length + [a1].length) * 24 ≤ 140737488355328 then ((cut a0 v1.1 (a0.length : Int)).bind fun c6 => if (((([] : List (List UInt8)) ++ c3) ++ [a1]).length + c6.length) * 24 ≤ 140737488355328 then (some (((([] : List (List UInt8)) ++ c3) ++ [a1]) ++ c6)) else none) else none) else none)

set_option maxRecDepth 100000 in
theorem m47_r06_Insert_c {a0 : List (List UInt8)} {a1 : List UInt8} {r : (List (List UInt8))} (h : m47_r06_Insert a0 a1 = some r) : CallsA Try.prog 47 [.one (.sl a0.length (a0.flatMap (eL eU8))), .one (.sl a1.length (a1.flatMap eU8))] (· = .s (.one (.sl r.length (r.flatMap (eL eU8))))) := by
  unfold m47_r06_Insert at h
  refine callsA_of Try.func47 rfl (nt := 32) rfl (Nat.le_of_ble_eq_true rfl) ?_
  intro w0 S0
  refine cseq ?_
  refine cregion ?_
  refine sv rfl (opv_as rfl) ?_
  refine snil ?_
  refine cseq ?_
  refine cregion ?_
  refine sv rfl (opv_mv rfl) ?_
  refine sv rfl (opv_mv rfl) ?_
  obtain ⟨v1, hv1, h⟩ := bind_eq h
  refine scall1 rfl fn66 (opnds_cons rfl (opnds_cons rfl opnds_nil)) (pubA_id rfl) (m66_r06_Find_c hv1) ?_
  refine sv rfl (opv_mvt rfl) ?_
  refine sv rfl (opv_extract rfl rfl) ?_
  refine sv rfl (opv_extract rfl rfl) ?_
  refine sv rfl (opv_as rfl) ?_
  refine sv rfl (opv_as rfl) ?_
  refine snil ?_
  refine cseq ?_
  refine cseq ?_
  refine cregion ?_
  refine sv rfl (opv_mv rfl) ?_
  refine snil ?_
  refine ccond rfl (fun hc => ?_) (fun hc => ?_)
  · replace h := ite_t hc h
    clear hc
    refine cseq ?_
    refine cregion ?_
    refine sbuild0 rfl Try.underlying22 ei26 ?_
    refine sv rfl (opv_mv rfl) ?_
    obtain ⟨hb2, h⟩ := chk_eq h
    refine sapp (f := (eL eU8)) (xs := ([] : List (List UInt8))) (us := a0) rfl Try.underlying22 ei26 ni22 (fun _ => rfl) rfl rfl (.one _ _ _ _ (.id _ rfl)) rfl rfl rfl (.sl _ _ _ (flat_len (f := (eL eU8)) (fun _ => rfl) _)) rfl rfl hb2 (by decide) ?_
    refine sv rfl (opv_as rfl) ?_
    refine snil ?_
    refine cret ?_
    refine then_ret ?_
    obtain rfl := Option.some.inj h
    refine ⟨Or.inr rfl, _, _, _, (resVs_cons (ResV.tmp _ _ rfl) resVs_nil), (by (repeat' first | exact PubA.nil _ | apply PubA.cons | apply PubV.one | apply PubV.agg | exact PubL.nil | exact PubL.ls _ _ _ _ _ _ rfl (flat_len (f := (eL eU8)) (fun _ => rfl) _).symm | exact PubL.id _ rfl | exact PubLs.nil _ | apply PubLs.cons)), ?_⟩
    rfl
  · replace h := ite_f hc h
    clear hc
    refine cskip ?_
    refine then_normal ?_
    refine cseq ?_
    refine cregion ?_
    refine sv rfl (opv_as rfl) ?_
    refine snil ?_
    refine cseq ?_
    refine cregion ?_
    refine sv rfl (opv_mv rfl) ?_
    refine sv rfl (opv_mv rfl) ?_
    refine sv rfl (opv_mv rfl) ?_
    obtain ⟨c3, hc3, h⟩ := bind_eq h
    refine sv rfl (opv_cut (f := (eL eU8)) (lo := 0) (hi := v1.1) si22 (fun _ => rfl) rfl rfl rfl bound_none (bound_some rfl (Int.le_trans (cut_eq hc3).1.1 (cut_eq hc3).1.2.1)) hc3) ?_
    refine sadopt 26 1 18 (by decide) rfl ?_
    obtain ⟨hb4, h⟩ := chk_eq h
    refine sapp (f := (eL eU8)) (xs := ([] : List (List UInt8))) (us := c3) rfl Try.underlying22 ei26 ni22 (fun _ => rfl) rfl rfl (.one _ _ _ _ (.id _ rfl)) rfl rfl rfl (.sl _ _ _ (flat_len (f := (eL eU8)) (fun _ => rfl) _)) rfl rfl hb4 (by decide) ?_
    refine sv rfl (opv_as rfl) ?_
    refine snil ?_
    refine cseq ?_
    refine cregion ?_
    refine sv rfl (opv_mv rfl) ?_
    refine sv rfl (opv_mv rfl) ?_
    refine sbuild1 rfl Try.underlying22 ei26 rfl rfl (List.all_eq_true.1 rfl) (by decide) ?_
    refine smem [.arr 26 1 0 ((([] : List (List UInt8)) ++ c3).flatMap (eL eU8)), .arr 26 1 0 ([a1].flatMap (eL eU8))] rfl ?_
    obtain ⟨hb5, h⟩ := chk_eq h
    refine sapp (f := (eL eU8)) (xs := (([] : List (List UInt8)) ++ c3)) (us := [a1]) rfl Try.underlying22 ei26 ni22 (fun _ => rfl) rfl rfl (.one _ _ _ _ (.ls _ _ _ _ _ _ rfl (flat_len (f := (eL eU8)) (fun _ => rfl) [a1]).symm)) rfl rfl rfl (.sl _ _ _ (flat_len (f := (eL eU8)) (fun _ => rfl) _)) rfl rfl hb5 (by decide) ?_
    refine sv rfl (opv_as rfl) ?_
    refine snil ?_
    refine cseq ?_
    refine cregion ?_
    refine sv rfl (opv_mv rfl) ?_
    refine sv rfl (opv_mv rfl) ?_
    refine sv rfl (opv_mv rfl) ?_
    obtain ⟨c6, hc6, h⟩ := bind_eq h
    refine sv rfl (opv_cut (f := (eL eU8)) (lo := v1.1) (hi := (a0.length : Int)) si22 (fun _ => rfl) rfl rfl rfl (bound_some rfl (cut_eq hc6).1.1) (by exact rfl) hc6) ?_
    obtain ⟨hb7, h⟩ := chk_eq h
    refine sapp (f := (eL eU8)) (xs := ((([] : List (List UInt8)) ++ c3) ++ [a1])) (us := c6) rfl Try.underlying22 ei26 ni22 (fun _ => rfl) rfl rfl (.one _ _ _ _ (.id _ rfl)) rfl rfl rfl (.sl _ _ _ (flat_len (f := (eL eU8)) (fun _ => rfl) _)) rfl rfl hb7 (by decide) ?_
    refine sv rfl (opv_as rfl) ?_
    refine snil ?_
    refine cret ?_
    obtain rfl := Option.some.inj h
    refine ⟨Or.inr rfl, _, _, _, (resVs_cons (ResV.tmp _ _ rfl) resVs_nil), (by (repeat' first | exact PubA.nil _ | apply PubA.cons | apply PubV.one | apply PubV.agg | exact PubL.nil | exact PubL.ls _ _ _ _ _ _ rfl (flat_len (f := (eL eU8)) (fun _ => rfl) _).symm | exact PubL.id _ rfl | exact PubLs.nil _ | apply PubLs.cons)), ?_⟩
    rfl

def m48_r07_Push_k1 (a0 : GR07Chain) (a1 : GR07Ver) (b1 : Unit) : Option (GR07Chain × Int) :=
  (m57_r07_Last a0).bind fun v2 => if (decide (a1.Ts ≤ v2)) then (some ((GR07Chain.mk ([] : List GR07Ver)), 7)) else (if (([] : List GR07Ver).length + a0.L.length) * 40 ≤ 140737488355328 then (if ((([] : List GR07Ver) ++ a0.L).length + [a1].length) * 40 ≤ 140737488355328 then (some ((GR07Chain.mk ((([] : List GR07Ver) ++ a0.L) ++ [a1])), 0)) else none) else none)
def m48_r07_Push (a0 : GR07Chain) (a1 : GR07Ver) : Option (GR07Chain × Int) :=
  (m56_r07_Sane a0).bind fun v5 => if (!v5) then (some ((GR07Chain.mk ([] : List GR07Ver)), 1)) else ((m56_r07_Sane (GR07Chain.mk [a1])).bind fun v6 => if (!v6) then (some ((GR07Chain.mk ([] : List GR07Ver)), 1)) else (m48_r07_Push_k1 a0 a1 ()))

set_option maxRecDepth 100000 in
theorem m48_r07_Push_c {a0 : GR07Chain} {a1 : GR07Ver} {r : GR07Chain × Int} (h : m48_r07_Push a0 a1 = some r) : CallsA Try.prog 48 [.agg [.sl a0.L.length (a0.L.flatMap eGR07Ver)], .agg a1] (· = .tup [.agg [.sl r.1.L.length (r.1.L.flatMap eGR07Ver)], .one (.i .i64 r.2)]) := by
  unfold m48_r07_Push at h
  refine callsA_of Try.func48 rfl (nt := 34) rfl (Nat.le_of_ble_eq_true rfl) ?_
  intro w0 S0
  refine cseq ?_
  refine cregion ?_
  refine sbox rfl rfl ?_
  refine sbox rfl rfl ?_
  refine salloc rfl zi79 ?_
  refine sv rfl (opv_as rfl) ?_
  refine snil ?_
  refine cseq ?_
  refine cseq ?_
  refine cjoin3 (Unit) (fun b1 => [(2, .s (.one (.lp 0 0))), (3, .s (.one (.lp 1 0))), (4, .s (.one (.lp 2 0)))]) (fun b1 => [.box [.sl a0.L.length (a0.L.flatMap eGR07Ver)], .box a1, .box [.raw (.slice none 0 0)]]) (fun b1 => m48_r07_Push_k1 a0 a1 b1 = some r) (fun _ _ => inbL_of rfl) (fun _ _ => blkinb_of rfl) (fun _ _ => Nat.le_of_ble_eq_true rfl) (fun b1 h => ?_) ?_
  · unfold m48_r07_Push_k1 at h
    refine cseq ?_
    refine cseq ?_
    refine cdraw mixed (by kernel_rfl) ?_
    refine dv rfl (opv_fieldAddr_lp fi84_0 rfl) ?_
    refine dv rfl (opv_load1 ti3 rfl (.lp _ _ _ rfl) rfl) ?_
    refine dv rfl (opv_loadN ti79 rfl (.lp _ _ _ rfl) (Nat.le_of_ble_eq_true rfl)) ?_
    obtain ⟨v2, hv2, h⟩ := bind_eq h
    refine dd rfl (opD_call fn57 (opnds_cons rfl opnds_nil) rfl (m57_r07_Last_c hv2)) ?_
    refine dv rfl (opv_leq rfl rfl) ?_
    refine dnil ?_
    refine then_normal ?_
    refine ccond rfl (fun hc => ?_) (fun hc => ?_)
    · replace h := ite_t hc h
      clear hc
      refine cseq ?_
      refine cregion ?_
      refine sv rfl (opv_build zi79 pi79 parts_nil (.nil _)) ?_
      refine sstore sz79 rfl rfl rfl rfl (Nat.le_of_ble_eq_true rfl) ?_
      refine smem [.box [.sl a0.L.length (a0.L.flatMap eGR07Ver)], .box a1, .box [.raw (.slice none 0 0)]] rfl ?_
      refine sv rfl (opv_as rfl) ?_
      refine snil ?_
      refine cret ?_
      refine then_ret ?_
      obtain rfl := Option.some.inj h
      refine ⟨Or.inr rfl, _, _, _, (resVs_cons (ResV.agg _ _ _ _ _ ti79 rfl (.lp _ _ _ rfl) (Nat.le_of_ble_eq_true rfl)) (resVs_cons (ResV.tmp _ _ rfl) resVs_nil)), (pubC rfl), ?_⟩
      rfl
    · replace h := ite_f hc h
      clear hc
      refine cskip ?_
      refine then_normal ?_
      refine cseq ?_
      refine cregion ?_
      refine sbuild0 rfl Try.underlying77 ei84 ?_
      refine sv rfl (opv_fieldAddr_lp fi79_0 rfl) ?_
      refine sv rfl (opv_load1 ti77 rfl (.lp _ _ _ rfl) rfl) ?_
      obtain ⟨hb3, h⟩ := chk_eq h
      refine sapp (f := eGR07Ver) (xs := ([] : List GR07Ver)) (us := a0.L) rfl Try.underlying77 ei84 ni77 (fun _ => rfl) rfl rfl (.one _ _ _ _ (.id _ rfl)) rfl rfl rfl (.sl _ _ _ (flat_len (f := eGR07Ver) (fun _ => rfl) _)) rfl rfl hb3 (by decide) ?_
      refine sv rfl (opv_as rfl) ?_
      refine snil ?_
      refine cseq ?_
      refine cregion ?_
      refine sv rfl (opv_mv rfl) ?_
      refine sv rfl (opv_loadN ti84 rfl (.lp _ _ _ rfl) (Nat.le_of_ble_eq_true rfl)) ?_
      refine sbuild1 rfl Try.underlying77 ei84 rfl rfl (List.all_eq_true.1 rfl) (by decide) ?_
      refine smem [.box [.sl a0.L.length (a0.L.flatMap eGR07Ver)], .box a1, .box [.raw (.slice none 0 0)], .arr 84 3 0 ((([] : List GR07Ver) ++ a0.L).flatMap eGR07Ver), .arr 84 3 0 ([a1].flatMap eGR07Ver)] rfl ?_
      obtain ⟨hb4, h⟩ := chk_eq h
      refine sapp (f := eGR07Ver) (xs := (([] : List GR07Ver) ++ a0.L)) (us := [a1]) rfl Try.underlying77 ei84 ni77 (fun _ => rfl) rfl rfl (.one _ _ _ _ (.ls _ _ _ _ _ _ rfl (flat_len (f := eGR07Ver) (fun _ => rfl) [a1]).symm)) rfl rfl rfl (.sl _ _ _ (flat_len (f := eGR07Ver) (fun _ => rfl) _)) rfl rfl hb4 (by decide) ?_
      refine sv rfl (opv_as rfl) ?_
      refine snil ?_
      refine cseq ?_
      refine cregion ?_
      refine sv rfl (opv_mv rfl) ?_
      refine sv rfl (opv_build zi79 pi79 (parts_cons rfl parts_nil) (.cons _ _ _ _ _ _ _ rfl rfl (Nat.le_of_ble_eq_true rfl) (.nil _))) ?_
      refine sstore sz79 rfl rfl rfl rfl (Nat.le_of_ble_eq_true rfl) ?_
      refine smem [.box [.sl a0.L.length (a0.L.flatMap eGR07Ver)], .box a1, .box [.ls 3 ((([] : List GR07Ver) ++ a0.L) ++ [a1]).length], .arr 84 3 0 (((([] : List GR07Ver) ++ a0.L) ++ [a1]).flatMap eGR07Ver), .arr 84 3 ([a1].flatMap eGR07Ver).length ([a1].flatMap eGR07Ver)] rfl ?_
      refine sv rfl (opv_as rfl) ?_
      refine snil ?_
      refine cret ?_
      obtain rfl := Option.some.inj h
      refine ⟨Or.inr rfl, _, _, _, (resVs_cons (ResV.agg _ _ _ _ _ ti79 rfl (.lp _ _ _ rfl) (Nat.le_of_ble_eq_true rfl)) (resVs_cons (ResV.tmp _ _ rfl) resVs_nil)), (by (repeat' first | exact PubA.nil _ | apply PubA.cons | apply PubV.one | apply PubV.agg | exact PubL.nil | exact PubL.ls _ _ _ _ _ _ rfl (flat_len (f := eGR07Ver) (fun _ => rfl) _).symm | exact PubL.id _ rfl | exact PubLs.nil _ | apply PubLs.cons)), ?_⟩
      rfl
  · skip
    refine cregion ?_
    refine sv rfl (opv_loadN ti79 rfl (.lp _ _ _ rfl) (Nat.le_of_ble_eq_true rfl)) ?_
    obtain ⟨v5, hv5, h⟩ := bind_eq h
    refine scall1 rfl fn56 (opnds_cons rfl opnds_nil) (pubA_id rfl) (m56_r07_Sane_c hv5) ?_
    refine sv rfl (opv_not rfl) ?_
    refine sv rfl (opv_mv rfl) ?_
    refine ssplit 10 rfl (fun hc => ?_) (fun hc => ?_)
    · replace h := ite_t hc h
      clear hc
      refine soff rfl rfl rfl rfl ?_
      refine soff rfl rfl rfl rfl ?_
      refine soff rfl rfl rfl rfl ?_
      refine soff rfl rfl rfl rfl ?_
      refine soff rfl rfl rfl rfl ?_
      refine sv rfl (opv_pick_t rfl rfl) ?_
      refine snil ?_
      refine ccond rfl (fun _ => ?_) (fun hx => Bool.noConfusion hx)
      refine cseq ?_
      refine cregion ?_
      refine sv rfl (opv_build zi79 pi79 parts_nil (.nil _)) ?_
      refine sstore sz79 rfl rfl rfl rfl (Nat.le_of_ble_eq_true rfl) ?_
      refine smem [.box [.sl a0.L.length (a0.L.flatMap eGR07Ver)], .box a1, .box [.raw (.slice none 0 0)]] rfl ?_
      refine sv rfl (opv_as rfl) ?_
      refine snil ?_
      refine cret ?_
      refine then_ret ?_
      obtain rfl := Option.some.inj h
      refine ⟨Or.inr rfl, _, _, _, (resVs_cons (ResV.agg _ _ _ _ _ ti79 rfl (.lp _ _ _ rfl) (Nat.le_of_ble_eq_true rfl)) (resVs_cons (ResV.tmp _ _ rfl) resVs_nil)), (pubC rfl), ?_⟩
      rfl
    · replace h := ite_f hc h
      clear hc
      refine son rfl rfl rfl ?_
      refine sv rfl (opv_loadN ti84 rfl (.lp _ _ _ rfl) (Nat.le_of_ble_eq_true rfl)) ?_
      refine son rfl rfl rfl ?_
      refine sbuild1 rfl Try.underlying77 ei84 rfl rfl (List.all_eq_true.1 rfl) (by decide) ?_
      refine smem [.box [.sl a0.L.length (a0.L.flatMap eGR07Ver)], .box a1, .box [.raw (.slice none 0 0)], .arr 84 3 0 ([a1].flatMap eGR07Ver)] rfl ?_
      refine son rfl rfl rfl ?_
      refine sv rfl (opv_build zi79 pi79 (parts_cons rfl parts_nil) (.cons _ _ _ _ _ _ _ rfl rfl (Nat.le_of_ble_eq_true rfl) (.nil _))) ?_
      refine son rfl rfl rfl ?_
      refine spub 13 rfl (by (repeat' first | exact PubA.nil _ | apply PubA.cons | apply PubV.one | apply PubV.agg | exact PubL.nil | exact PubL.ls _ _ _ _ _ _ rfl (flat_len (f := eGR07Ver) (fun _ => rfl) ([a1] : List GR07Ver)).symm | exact PubL.ls _ _ _ _ _ _ rfl (flat_len (f := eGR07Ver) (fun _ => rfl) _).symm | exact PubL.id _ rfl | exact PubLs.nil _ | apply PubLs.cons)) ?_
      obtain ⟨v6, hv6, h⟩ := bind_eq h
      refine scall1 rfl fn56 (opnds_cons rfl opnds_nil) (pubA_id rfl) (m56_r07_Sane_c hv6) ?_
      refine son rfl rfl rfl ?_
      refine sv rfl (opv_not rfl) ?_
      refine sv rfl (opv_pick_f rfl rfl) ?_
      refine snil ?_
      refine ccond rfl (fun hc => ?_) (fun hc => ?_)
      · replace h := ite_t hc h
        clear hc
        refine cseq ?_
        refine cregion ?_
        refine sv rfl (opv_build zi79 pi79 parts_nil (.nil _)) ?_
        refine sstore sz79 rfl rfl rfl rfl (Nat.le_of_ble_eq_true rfl) ?_
        refine smem [.box [.sl a0.L.length (a0.L.flatMap eGR07Ver)], .box a1, .box [.raw (.slice none 0 0)], .arr 84 3 ([a1].flatMap eGR07Ver).length ([a1].flatMap eGR07Ver)] rfl ?_
        refine sv rfl (opv_as rfl) ?_
        refine snil ?_
        refine cret ?_
        refine then_ret ?_
        obtain rfl := Option.some.inj h
        refine ⟨Or.inr rfl, _, _, _, (resVs_cons (ResV.agg _ _ _ _ _ ti79 rfl (.lp _ _ _ rfl) (Nat.le_of_ble_eq_true rfl)) (resVs_cons (ResV.tmp _ _ rfl) resVs_nil)), (pubC rfl), ?_⟩
        rfl
      · replace h := ite_f hc h
        clear hc
        refine cskip ?_
        refine then_normal ?_
        exact ⟨(), _, h, ⟨rfl, rfl, rfl, trivial⟩, rfl⟩

def m17_r08_Install_k4 (a1 : Int) (b3 : (List (List UInt8))) (b4 : (List GR07Chain)) : Option (GR08Store × Int) :=
  some ((GR08Store.mk b3 b4 a1), 0)

def m17_r08_Install_k8 (s5 : Int × (List GR07Chain)) (b8 : (List GR07Ver)) : Option (LB (Int × (List GR07Chain)) ((List GR07Chain))) :=
  if (s5.2.length + [(GR07Chain.mk b8)].length) * 24 ≤ 140737488355328 then (some (.cont ((wI (s5.1 + 1)), (s5.2 ++ [(GR07Chain.mk b8)])))) else none

def m17_r08_Install_s10 (a1 : Int) (a2 : List GApiWrite) (b3 : (List (List UInt8))) (s5 : Int × (List GR07Chain)) (s10 : Int × (List GR07Ver)) : Option (LB (Int × (List GR07Ver)) ((List GR07Ver))) :=
  if (decide (s10.1 < (a2.length : Int))) then ((idx a2 s10.1).bind fun u11 => (idx b3 s5.1).bind fun u12 => if (u11.Key == u12) then ((idx a2 s10.1).bind fun u13 => (idx a2 s10.1).bind fun u14 => (m48_r07_Push (GR07Chain.mk s10.2) (GR07Ver.mk a1 u13.Val u14.Del)).bind fun v15 => some (.cont ((wI (s10.1 + 1)), v15.1.L))) else (some (.cont ((wI (s10.1 + 1)), s10.2)))) else (some (.brk s10.2))

def m17_r08_Install_s5 (a0 : GR08Store) (a1 : Int) (a2 : List GApiWrite) (b3 : (List (List UInt8))) (s5 : Int × (List GR07Chain)) : Option (LB (Int × (List GR07Chain)) ((List GR07Chain))) :=
  if (decide (s5.1 < (b3.length : Int))) then ((idx b3 s5.1).bind fun u6 => (m41_r08_Chain (GR08Store.mk a0.Keys a0.Chains a0.Ts) u6).bind fun v7 => (iterB (m17_r08_Install_s10 a1 a2 b3 s5) fuel (0, v7.L)).bind fun e16 => m17_r08_Install_k8 s5 e16) else (some (.brk s5.2))

def m17_r08_Install_k3 (a0 : GR08Store) (a1 : Int) (a2 : List GApiWrite) (b3 : (List (List UInt8))) : Option (GR08Store × Int) :=
  if (decide (128 < (b3.length : Int))) then (some ((GR08Store.mk ([] : List (List UInt8)) ([] : List GR07Chain) 0), 8)) else ((iterB (m17_r08_Install_s5 a0 a1 a2 b3) fuel (0, ([] : List GR07Chain))).bind fun e17 => m17_r08_Install_k4 a1 b3 e17)

def m17_r08_Install_s18 (a2 : List GApiWrite) (s18 : Int × (List (List UInt8))) : Option (LB (Int × (List (List UInt8))) ((List (List UInt8)))) :=
  if (decide (s18.1 < (a2.length : Int))) then ((idx a2 s18.1).bind fun u19 => (m47_r06_Insert s18.2 u19.Key).bind fun v20 => some (.cont ((wI (s18.1 + 1)), v20))) else (some (.brk s18.2))

def m17_r08_Install_k2 (a0 : GR08Store) (a1 : Int) (a2 : List GApiWrite) (b2 : Unit) : Option (GR08Store × Int) :=
  (iterB (m17_r08_Install_s18 a2) fuel (0, a0.Keys)).bind fun e21 => m17_r08_Install_k3 a0 a1 a2 e21

def m17_r08_Install_k1 (a0 : GR08Store) (a1 : Int) (a2 : List GApiWrite) (b1 : Unit) : Option (GR08Store × Int) :=
  if (decide (a1 ≤ a0.Ts)) then (some ((GR08Store.mk ([] : List (List UInt8)) ([] : List GR07Chain) 0), 7)) else (if (decide (1099511627776 < a1)) then (some ((GR08Store.mk ([] : List (List UInt8)) ([] : List GR07Chain) 0), 7)) else (m17_r08_Install_k2 a0 a1 a2 ()))
def m17_r08_Install (a0 : GR08Store) (a1 : Int) (a2 : List GApiWrite) : Option (GR08Store × Int) :=
  (m24_r08_Sane (GR08Store.mk a0.Keys a0.Chains a0.Ts)).bind fun v22 => if (!v22) then (some ((GR08Store.mk ([] : List (List UInt8)) ([] : List GR07Chain) 0), 1)) else ((m46_r08_Writes a2).bind fun v23 => if (!v23) then (some ((GR08Store.mk ([] : List (List UInt8)) ([] : List GR07Chain) 0), 1)) else (m17_r08_Install_k1 a0 a1 a2 ()))

set_option maxRecDepth 100000 in
theorem m17_r08_Install_c {a0 : GR08Store} {a1 : Int} {a2 : List GApiWrite} {r : GR08Store × Int} (h : m17_r08_Install a0 a1 a2 = some r) : CallsA Try.prog 17 [.agg a0, .one (.i .i64 a1), .one (.sl a2.length (a2.flatMap eGApiWrite))] (· = .tup [.agg r.1, .one (.i .i64 r.2)]) := by
  unfold m17_r08_Install at h
  refine callsA_of Try.func17 rfl (nt := 115) rfl (Nat.le_of_ble_eq_true rfl) ?_
  intro w0 S0
  refine cseq ?_
  refine cregion ?_
  refine sbox rfl rfl ?_
  refine salloc rfl zi25 ?_
  refine sv rfl (opv_as rfl) ?_
  refine snil ?_
  refine cseq ?_
  refine cseq ?_
  refine cjoin3 (Unit) (fun b1 => [(1, .s (.one (.i .i64 a1))), (2, .s (.one (.sl a2.length (a2.flatMap eGApiWrite)))), (3, .s (.one (.lp 0 0))), (6, .s (.one (.lp 1 0)))]) (fun b1 => [.box a0, .box [.raw (.slice none 0 0), .raw (.slice none 0 0), .i .i64 0]]) (fun b1 => m17_r08_Install_k1 a0 a1 a2 b1 = some r) (fun _ _ => inbL_of rfl) (fun _ _ => blkinb_of rfl) (fun _ _ => Nat.le_of_ble_eq_true rfl) (fun b1 h => ?_) ?_
  · unfold m17_r08_Install_k1 at h
    refine cseq ?_
    refine cseq ?_
    refine cjoin3 (Unit) (fun b2 => [(1, .s (.one (.i .i64 a1))), (2, .s (.one (.sl a2.length (a2.flatMap eGApiWrite)))), (3, .s (.one (.lp 0 0))), (6, .s (.one (.lp 1 0)))]) (fun b2 => [.box a0, .box [.raw (.slice none 0 0), .raw (.slice none 0 0), .i .i64 0]]) (fun b2 => m17_r08_Install_k2 a0 a1 a2 b2 = some r) (fun _ _ => inbL_of rfl) (fun _ _ => blkinb_of rfl) (fun _ _ => Nat.le_of_ble_eq_true rfl) (fun b2 h => ?_) ?_
    · unfold m17_r08_Install_k2 at h
      refine cseq ?_
      refine cregion ?_
      refine sv rfl (opv_mv rfl) ?_
      refine sv rfl (opv_fieldAddr_lp fi25_0 rfl) ?_
      refine sv rfl (opv_load1 ti22 rfl (.lp _ _ _ rfl) rfl) ?_
      refine sv rfl (opv_build zi25 pi25 (parts_cons rfl (parts_cons rfl parts_nil)) (.cons _ _ _ _ _ _ _ rfl rfl (Nat.le_of_ble_eq_true rfl) (.cons _ _ _ _ _ _ _ rfl rfl (Nat.le_of_ble_eq_true rfl) (.nil _)))) ?_
      refine salloc rfl zi25 ?_
      refine sstore sz25 rfl rfl rfl rfl (Nat.le_of_ble_eq_true rfl) ?_
      refine smem [.box a0, .box [.raw (.slice none 0 0), .raw (.slice none 0 0), .i .i64 0], .box [.sl a0.Keys.length (a0.Keys.flatMap (eL eU8)), .raw (.slice none 0 0), .i .i64 a1]] rfl ?_
      refine snil ?_
      refine cseq ?_
      refine cseq ?_
      refine cregion ?_
      refine sv rfl (opv_as rfl) ?_
      refine snil ?_
      refine cjoin ((List (List UInt8))) (fun b3 => [(1, .s (.one (.i .i64 a1))), (2, .s (.one (.sl a2.length (a2.flatMap eGApiWrite)))), (3, .s (.one (.lp 0 0))), (6, .s (.one (.lp 1 0))), (8, .s (.one (.lp 2 0)))]) (fun b3 => [.box a0, .box [.raw (.slice none 0 0), .raw (.slice none 0 0), .i .i64 0], .box [.sl b3.length (b3.flatMap (eL eU8)), .raw (.slice none 0 0), .i .i64 a1]]) (fun b3 => m17_r08_Install_k3 a0 a1 a2 b3 = some r) (fun _ _ => inbL_of rfl) (fun _ _ => blkinb_of rfl) (fun _ _ => Nat.le_of_ble_eq_true rfl) (fun b3 h => ?_) ?_
      · unfold m17_r08_Install_k3 at h
        refine cseq ?_
        refine cseq ?_
        refine cregion ?_
        refine sv rfl (opv_fieldAddr_lp fi25_0 rfl) ?_
        refine sv rfl (opv_load1 ti22 rfl (.lp _ _ _ rfl) rfl) ?_
        refine sv rfl (opv_len_sl si22 rfl) ?_
        refine sv rfl (opv_gtr rfl rfl) ?_
        refine snil ?_
        refine ccond rfl (fun hc => ?_) (fun hc => ?_)
        · replace h := ite_t hc h
          clear hc
          refine cseq ?_
          refine cregion ?_
          refine sv rfl (opv_build zi25 pi25 parts_nil (.nil _)) ?_
          refine sstore sz25 rfl rfl rfl rfl (Nat.le_of_ble_eq_true rfl) ?_
          refine smem [.box a0, .box [.raw (.slice none 0 0), .raw (.slice none 0 0), .i .i64 0], .box [.sl b3.length (b3.flatMap (eL eU8)), .raw (.slice none 0 0), .i .i64 a1]] rfl ?_
          refine sv rfl (opv_as rfl) ?_
          refine snil ?_
          refine cret ?_
          refine then_ret ?_
          obtain rfl := Option.some.inj h
          refine ⟨Or.inr rfl, _, _, _, (resVs_cons (ResV.agg _ _ _ _ _ ti25 rfl (.lp _ _ _ rfl) (Nat.le_of_ble_eq_true rfl)) (resVs_cons (ResV.tmp _ _ rfl) resVs_nil)), (pubC rfl), ?_⟩
          rfl
        · replace h := ite_f hc h
          clear hc
          refine cskip ?_
          refine then_normal ?_
          refine cseq ?_
          refine cseq ?_
          refine cregion ?_
          refine sv rfl (opv_as rfl) ?_
          refine snil ?_
          refine sadopt_box_c 79 1 2 1 (by decide) rfl rfl ?_
          refine cjoin ((List GR07Chain)) (fun b4 => [(6, .s (.one (.lp 1 0))), (8, .s (.one (.lp 2 0)))]) (fun b4 => [.box a0, .box [.raw (.slice none 0 0), .raw (.slice none 0 0), .i .i64 0], .box [.sl b3.length (b3.flatMap (eL eU8)), .ls 3 b4.length, .i .i64 a1], .arr 79 1 0 (b4.flatMap eGR07Chain)]) (fun b4 => m17_r08_Install_k4 a1 b3 b4 = some r) (fun _ _ => inbL_of rfl) (fun _ _ => blkinb_of rfl) (fun _ _ => Nat.le_of_ble_eq_true rfl) (fun b4 h => ?_) ?_
          · unfold m17_r08_Install_k4 at h
            refine cseq ?_
            refine cregion ?_
            refine sv rfl (opv_loadN ti25 rfl (.lp _ _ _ rfl) (Nat.le_of_ble_eq_true rfl)) ?_
            refine sstore sz25 rfl rfl rfl rfl (Nat.le_of_ble_eq_true rfl) ?_
            refine smem [.box a0, .box [.sl b3.length (b3.flatMap (eL eU8)), .ls 3 b4.length, .i .i64 a1], .box [.sl b3.length (b3.flatMap (eL eU8)), .ls 3 b4.length, .i .i64 a1], .arr 79 1 0 (b4.flatMap eGR07Chain)] rfl ?_
            refine sv rfl (opv_as rfl) ?_
            refine snil ?_
            refine cret ?_
            obtain rfl := Option.some.inj h
            refine ⟨Or.inr rfl, _, _, _, (resVs_cons (ResV.agg _ _ _ _ _ ti25 rfl (.lp _ _ _ rfl) (Nat.le_of_ble_eq_true rfl)) (resVs_cons (ResV.tmp _ _ rfl) resVs_nil)), (by (repeat' first | exact PubA.nil _ | apply PubA.cons | apply PubV.one | apply PubV.agg | exact PubL.nil | exact PubL.ls _ _ _ _ _ _ rfl (flat_len (f := eGR07Chain) (fun _ => rfl) _).symm | exact PubL.id _ rfl | exact PubLs.nil _ | apply PubLs.cons)), ?_⟩
            rfl
          · skip
            refine cblock ?_
            obtain ⟨x5, hx5, ho5⟩ := bind_eq h
            refine awc_loop (G := Nat × (Int × (List GR07Chain))) (fun g => [(1, .s (.one (.i .i64 a1))), (2, .s (.one (.sl a2.length (a2.flatMap eGApiWrite)))), (3, .s (.one (.lp 0 0))), (6, .s (.one (.lp 1 0))), (8, .s (.one (.lp 2 0))), (10, .s (.one (.i .i64 g.2.1)))]) (fun g => [.box a0, .box [.raw (.slice none 0 0), .raw (.slice none 0 0), .i .i64 0], .box [.sl b3.length (b3.flatMap (eL eU8)), .ls 3 g.2.2.length, .i .i64 a1], .arr 79 1 0 (g.2.2.flatMap eGR07Chain)]) (fun g => iterB (m17_r08_Install_s5 a0 a1 a2 b3) g.1 g.2 = some x5) (fun g => g.1) (fuel, (0, ([] : List GR07Chain))) hx5 ⟨rfl, rfl, rfl, rfl, rfl, rfl, trivial⟩ [] rfl (fun _ _ => inbL_of rfl) (fun _ _ => blkinb_of rfl) (fun _ _ => Nat.le_of_ble_eq_true rfl) ?_
            clear hx5 h
            rintro ⟨n5, s5⟩ h
            obtain ⟨n5, y5, rfl, h, hk5⟩ := iterB_eq h
            unfold m17_r08_Install_s5 at h
            refine cseq ?_
            refine cseq ?_
            refine cregion ?_
            refine sv rfl (opv_mv rfl) ?_
            refine sv rfl (opv_fieldAddr_lp fi25_0 rfl) ?_
            refine sv rfl (opv_load1 ti22 rfl (.lp _ _ _ rfl) rfl) ?_
            refine sv rfl (opv_len_sl si22 rfl) ?_
            refine sv rfl (opv_lss rfl rfl) ?_
            refine snil ?_
            refine ccond rfl (fun hc => ?_) (fun hc => ?_)
            · replace h := ite_t hc h
              clear hc
              refine cskip ?_
              refine then_normal ?_
              refine cseq ?_
              refine cblock ?_
              refine cseq ?_
              refine chole ?_
              obtain ⟨u6, hu6, h⟩ := bind_eq h
              obtain ⟨v7, hv7, h⟩ := bind_eq h
              refine cdraw_e [7, 8] [0, 0, 2, 0, 14, 30, 63, 0, 255] [[.box a0, .box [.raw (.slice none 0 0), .raw (.slice none 0 0), .i .i64 0], .box [.sl b3.length (b3.flatMap (eL eU8)), .ls 3 s5.2.length, .i .i64 a1], .arr 79 1 0 (s5.2.flatMap eGR07Chain), .hole], [.box a0, .box [.raw (.slice none 0 0), .raw (.slice none 0 0), .i .i64 0], .box [.sl b3.length (b3.flatMap (eL eU8)), .ls 3 s5.2.length, .i .i64 a1], .arr 79 1 0 (s5.2.flatMap eGR07Chain), .box [.raw (.slice none 0 0)]], [.box a0, .box [.raw (.slice none 0 0), .raw (.slice none 0 0), .i .i64 0], .box [.sl b3.length (b3.flatMap (eL eU8)), .ls 3 s5.2.length, .i .i64 a1], .arr 79 1 0 (s5.2.flatMap eGR07Chain), .box [.sl v7.L.length (v7.L.flatMap eGR07Ver)]]] (by kernel_rfl) mixed (by kernel_rfl) (by decide) rfl rfl rfl rfl ?_
              refine ev (sees_all (md := [.box a0, .box [.raw (.slice none 0 0), .raw (.slice none 0 0), .i .i64 0], .box [.sl b3.length (b3.flatMap (eL eU8)), .ls 3 s5.2.length, .i .i64 a1], .arr 79 1 0 (s5.2.flatMap eGR07Chain), .dead]) ⟨⟨rfl, ⟨rfl, ⟨rfl, ⟨rfl, ⟨trivial, trivial⟩⟩⟩⟩⟩, ⟨⟨rfl, ⟨rfl, ⟨rfl, ⟨rfl, ⟨trivial, trivial⟩⟩⟩⟩⟩, ⟨⟨rfl, ⟨rfl, ⟨rfl, ⟨rfl, ⟨trivial, trivial⟩⟩⟩⟩⟩, trivial⟩⟩⟩) rfl rfl (opv_loadN ti25 rfl (.lp _ _ _ rfl) (Nat.le_of_ble_eq_true rfl)) ?_
              refine ev (sees_all (md := [.box a0, .box [.raw (.slice none 0 0), .raw (.slice none 0 0), .i .i64 0], .box [.sl b3.length (b3.flatMap (eL eU8)), .ls 3 s5.2.length, .i .i64 a1], .arr 79 1 0 (s5.2.flatMap eGR07Chain), .dead]) ⟨⟨rfl, ⟨rfl, ⟨rfl, ⟨rfl, ⟨trivial, trivial⟩⟩⟩⟩⟩, ⟨⟨rfl, ⟨rfl, ⟨rfl, ⟨rfl, ⟨trivial, trivial⟩⟩⟩⟩⟩, ⟨⟨rfl, ⟨rfl, ⟨rfl, ⟨rfl, ⟨trivial, trivial⟩⟩⟩⟩⟩, trivial⟩⟩⟩) rfl rfl (opv_fieldAddr_lp fi25_0 rfl) ?_
              refine ev (sees_all (md := [.box a0, .box [.raw (.slice none 0 0), .raw (.slice none 0 0), .i .i64 0], .box [.sl b3.length (b3.flatMap (eL eU8)), .ls 3 s5.2.length, .i .i64 a1], .arr 79 1 0 (s5.2.flatMap eGR07Chain), .dead]) ⟨⟨rfl, ⟨rfl, ⟨rfl, ⟨rfl, ⟨trivial, trivial⟩⟩⟩⟩⟩, ⟨⟨rfl, ⟨rfl, ⟨rfl, ⟨rfl, ⟨trivial, trivial⟩⟩⟩⟩⟩, ⟨⟨rfl, ⟨rfl, ⟨rfl, ⟨rfl, ⟨trivial, trivial⟩⟩⟩⟩⟩, trivial⟩⟩⟩) rfl rfl (opv_load1 ti22 rfl (.lp _ _ _ rfl) rfl) ?_
              refine emv rfl rfl (fun _ => opv_mv rfl) ?_
              refine ev (sees_all (md := [.box a0, .box [.raw (.slice none 0 0), .raw (.slice none 0 0), .i .i64 0], .box [.sl b3.length (b3.flatMap (eL eU8)), .ls 3 s5.2.length, .i .i64 a1], .arr 79 1 0 (s5.2.flatMap eGR07Chain), .dead]) ⟨⟨rfl, ⟨rfl, ⟨rfl, ⟨rfl, ⟨trivial, trivial⟩⟩⟩⟩⟩, ⟨⟨rfl, ⟨rfl, ⟨rfl, ⟨rfl, ⟨trivial, trivial⟩⟩⟩⟩⟩, ⟨⟨rfl, ⟨rfl, ⟨rfl, ⟨rfl, ⟨trivial, trivial⟩⟩⟩⟩⟩, trivial⟩⟩⟩) rfl rfl (opv_ix (f := (eL eU8)) si22 (fun _ => rfl) rfl rfl rfl rfl hu6) ?_
              refine ev (sees_all (md := [.box a0, .box [.raw (.slice none 0 0), .raw (.slice none 0 0), .i .i64 0], .box [.sl b3.length (b3.flatMap (eL eU8)), .ls 3 s5.2.length, .i .i64 a1], .arr 79 1 0 (s5.2.flatMap eGR07Chain), .dead]) ⟨⟨rfl, ⟨rfl, ⟨rfl, ⟨rfl, ⟨trivial, trivial⟩⟩⟩⟩⟩, ⟨⟨rfl, ⟨rfl, ⟨rfl, ⟨rfl, ⟨trivial, trivial⟩⟩⟩⟩⟩, ⟨⟨rfl, ⟨rfl, ⟨rfl, ⟨rfl, ⟨trivial, trivial⟩⟩⟩⟩⟩, trivial⟩⟩⟩) rfl rfl (opv_load1 ti26 rfl (.cp _) rfl) ?_
              refine ed (sees_all (md := [.box a0, .box [.raw (.slice none 0 0), .raw (.slice none 0 0), .i .i64 0], .box [.sl b3.length (b3.flatMap (eL eU8)), .ls 3 s5.2.length, .i .i64 a1], .arr 79 1 0 (s5.2.flatMap eGR07Chain), .dead]) ⟨⟨rfl, ⟨rfl, ⟨rfl, ⟨rfl, ⟨trivial, trivial⟩⟩⟩⟩⟩, ⟨⟨rfl, ⟨rfl, ⟨rfl, ⟨rfl, ⟨trivial, trivial⟩⟩⟩⟩⟩, ⟨⟨rfl, ⟨rfl, ⟨rfl, ⟨rfl, ⟨trivial, trivial⟩⟩⟩⟩⟩, trivial⟩⟩⟩) rfl rfl (opD_call fn41 (opnds_cons rfl (opnds_cons rfl opnds_nil)) rfl (m41_r08_Chain_c hv7)) ?_
              refine ee (x := .s (.one (.lp 4 0))) 0 rfl rfl rfl rfl rfl (fun ζ => ?_) ?_
              · refine salloc_at 4 rfl zi79 rfl ?_
                exact eend
              refine ee0 1 rfl rfl rfl rfl (fun ζ => ?_) ?_
              · refine sstore sz79 rfl rfl rfl rfl (Nat.le_of_ble_eq_true rfl) ?_
                refine smem [.box a0, .box [.raw (.slice none 0 0), .raw (.slice none 0 0), .i .i64 0], .box [.sl b3.length (b3.flatMap (eL eU8)), .ls 3 s5.2.length, .i .i64 a1], .arr 79 1 0 (s5.2.flatMap eGR07Chain), .box [.sl v7.L.length (v7.L.flatMap eGR07Ver)]] rfl ?_
                exact eend
              refine enil ?_
              refine then_normal ?_
              refine cseq ?_
              refine cseq ?_
              refine cregion ?_
              refine sv rfl (opv_as rfl) ?_
              refine snil ?_
              refine cjoin ((List GR07Ver)) (fun b8 => [(1, .s (.one (.i .i64 a1))), (2, .s (.one (.sl a2.length (a2.flatMap eGApiWrite)))), (3, .s (.one (.lp 0 0))), (6, .s (.one (.lp 1 0))), (8, .s (.one (.lp 2 0))), (10, .s (.one (.i .i64 s5.1))), (11, .s (.one (.lp 4 0)))]) (fun b8 => [.box a0, .box [.raw (.slice none 0 0), .raw (.slice none 0 0), .i .i64 0], .box [.sl b3.length (b3.flatMap (eL eU8)), .ls 3 s5.2.length, .i .i64 a1], .arr 79 1 0 (s5.2.flatMap eGR07Chain), .box [.sl b8.length (b8.flatMap eGR07Ver)]]) (fun b8 => m17_r08_Install_k8 s5 b8 = some y5) (fun _ _ => inbL_of rfl) (fun _ _ => blkinb_of rfl) (fun _ _ => Nat.le_of_ble_eq_true rfl) (fun b8 h => ?_) ?_
              · unfold m17_r08_Install_k8 at h
                refine cregion ?_
                refine sv rfl (opv_fieldAddr_lp fi25_1 rfl) ?_
                refine sv rfl (opv_load1 ti23 rfl (.lp _ _ _ rfl) rfl) ?_
                refine sv rfl (opv_loadN ti79 rfl (.lp _ _ _ rfl) (Nat.le_of_ble_eq_true rfl)) ?_
                refine sbuild1 rfl Try.underlying23 ei79 rfl rfl (List.all_eq_true.1 rfl) (by decide) ?_
                refine smem [.box a0, .box [.raw (.slice none 0 0), .raw (.slice none 0 0), .i .i64 0], .box [.sl b3.length (b3.flatMap (eL eU8)), .ls 3 s5.2.length, .i .i64 a1], .arr 79 1 0 (s5.2.flatMap eGR07Chain), .box [.sl b8.length (b8.flatMap eGR07Ver)], .arr 79 1 0 ([(GR07Chain.mk b8)].flatMap eGR07Chain)] rfl ?_
                obtain ⟨hb9, h⟩ := chk_eq h
                refine sapp (f := eGR07Chain) (xs := s5.2) (us := [(GR07Chain.mk b8)]) rfl Try.underlying23 ei79 ni23 (fun _ => rfl) rfl rfl (.one _ _ _ _ (.ls _ _ _ _ _ _ rfl (flat_len (f := eGR07Chain) (fun _ => rfl) [(GR07Chain.mk b8)]).symm)) rfl rfl rfl (.sl _ _ _ (flat_len (f := eGR07Chain) (fun _ => rfl) _)) rfl rfl hb9 (by decide) ?_
                refine sv rfl (opv_fieldAddr_lp fi25_1 rfl) ?_
                refine sstore sz23 rfl rfl rfl rfl (Nat.le_of_ble_eq_true rfl) ?_
                refine smem [.box a0, .box [.raw (.slice none 0 0), .raw (.slice none 0 0), .i .i64 0], .box [.sl b3.length (b3.flatMap (eL eU8)), .ls 3 (s5.2 ++ [(GR07Chain.mk b8)]).length, .i .i64 a1], .arr 79 1 0 ((s5.2 ++ [(GR07Chain.mk b8)]).flatMap eGR07Chain), .box [.sl b8.length (b8.flatMap eGR07Ver)], .arr 79 1 ([(GR07Chain.mk b8)].flatMap eGR07Chain).length ([(GR07Chain.mk b8)].flatMap eGR07Chain)] rfl ?_
                refine snil0 ?_
                refine block_normal ?_
                refine then_normal ?_
                refine cregion ?_
                refine sv rfl (opv_mv rfl) ?_
                refine sv rfl (opv_add rfl rfl) ?_
                refine sv rfl (opv_as rfl) ?_
                refine snil ?_
                obtain rfl := Option.some.inj h
                exact ⟨(n5, ((wI (s5.1 + 1)), (s5.2 ++ [(GR07Chain.mk b8)]))), _, hk5, ⟨rfl, rfl, rfl, rfl, rfl, rfl, trivial⟩, rfl, Nat.lt_succ_self _⟩
              · skip
                refine cblock ?_
                obtain ⟨x10, hx10, ho10⟩ := bind_eq h
                refine awc_loop (G := Nat × (Int × (List GR07Ver))) (fun g => [(1, .s (.one (.i .i64 a1))), (2, .s (.one (.sl a2.length (a2.flatMap eGApiWrite)))), (3, .s (.one (.lp 0 0))), (6, .s (.one (.lp 1 0))), (8, .s (.one (.lp 2 0))), (10, .s (.one (.i .i64 s5.1))), (11, .s (.one (.lp 4 0))), (12, .s (.one (.i .i64 g.2.1)))]) (fun g => [.box a0, .box [.raw (.slice none 0 0), .raw (.slice none 0 0), .i .i64 0], .box [.sl b3.length (b3.flatMap (eL eU8)), .ls 3 s5.2.length, .i .i64 a1], .arr 79 1 0 (s5.2.flatMap eGR07Chain), .box [.sl g.2.2.length (g.2.2.flatMap eGR07Ver)]]) (fun g => iterB (m17_r08_Install_s10 a1 a2 b3 s5) g.1 g.2 = some x10) (fun g => g.1) (fuel, (0, v7.L)) hx10 ⟨rfl, rfl, rfl, rfl, rfl, rfl, rfl, rfl, trivial⟩ [] rfl (fun _ _ => inbL_of rfl) (fun _ _ => blkinb_of rfl) (fun _ _ => Nat.le_of_ble_eq_true rfl) ?_
                clear hx10 h
                rintro ⟨n10, s10⟩ h
                obtain ⟨n10, y10, rfl, h, hk10⟩ := iterB_eq h
                unfold m17_r08_Install_s10 at h
                refine cseq ?_
                refine cseq ?_
                refine cregion ?_
                refine sv rfl (opv_mv rfl) ?_
                refine sv rfl (opv_mv rfl) ?_
                refine sv rfl (opv_len_sl si29 rfl) ?_
                refine sv rfl (opv_lss rfl rfl) ?_
                refine snil ?_
                refine ccond rfl (fun hc => ?_) (fun hc => ?_)
                · replace h := ite_t hc h
                  clear hc
                  refine cskip ?_
                  refine then_normal ?_
                  refine cseq ?_
                  refine cblock ?_
                  refine cseq ?_
                  refine cdraw mixed (by kernel_rfl) ?_
                  refine dv rfl (opv_mv rfl) ?_
                  refine dv rfl (opv_mv rfl) ?_
                  obtain ⟨u11, hu11, h⟩ := bind_eq h
                  refine dv rfl (opv_ix (f := eGApiWrite) si29 (fun _ => rfl) rfl rfl rfl rfl hu11) ?_
                  refine dv rfl (opv_fieldAddr_cp fi67_0 rfl) ?_
                  refine dv rfl (opv_load1 ti26 rfl (.cp _) rfl) ?_
                  refine dv rfl (opv_bs (l := u11.Key) Try.underlying26 Try.underlying5 Try.underlying9 rfl rfl rfl) ?_
                  refine dv rfl (opv_fieldAddr_lp fi25_0 rfl) ?_
                  refine dv rfl (opv_load1 ti22 rfl (.lp _ _ _ rfl) rfl) ?_
                  refine dv rfl (opv_mv rfl) ?_
                  obtain ⟨u12, hu12, h⟩ := bind_eq h
                  refine dv rfl (opv_ix (f := (eL eU8)) si22 (fun _ => rfl) rfl rfl rfl rfl hu12) ?_
                  refine dv rfl (opv_load1 ti26 rfl (.cp _) rfl) ?_
                  refine dv rfl (opv_bs (l := u12) Try.underlying26 Try.underlying5 Try.underlying9 rfl rfl rfl) ?_
                  refine dv rfl (opv_seql' rfl rfl) ?_
                  refine dnil ?_
                  refine then_normal ?_
                  refine ccond rfl (fun hc => ?_) (fun hc => ?_)
                  · replace h := ite_t hc h
                    clear hc
                    refine cseq ?_
                    refine chole ?_
                    obtain ⟨u13, hu13, h⟩ := bind_eq h
                    obtain ⟨u14, hu14, h⟩ := bind_eq h
                    obtain ⟨v15, hv15, h⟩ := bind_eq h
                    refine cdraw_e [17, 18] [0, 0, 0, 0, 12, 28, 60, 0, 0, 384, 896, 1920, 4094, 8191, 16383, 32767, 32767, 0, 196607, 524287] [[.box a0, .box [.raw (.slice none 0 0), .raw (.slice none 0 0), .i .i64 0], .box [.sl b3.length (b3.flatMap (eL eU8)), .ls 3 s5.2.length, .i .i64 a1], .arr 79 1 0 (s5.2.flatMap eGR07Chain), .box [.sl s10.2.length (s10.2.flatMap eGR07Ver)], .hole], [.box a0, .box [.raw (.slice none 0 0), .raw (.slice none 0 0), .i .i64 0], .box [.sl b3.length (b3.flatMap (eL eU8)), .ls 3 s5.2.length, .i .i64 a1], .arr 79 1 0 (s5.2.flatMap eGR07Chain), .box [.sl s10.2.length (s10.2.flatMap eGR07Ver)], .box [.raw (.slice none 0 0)]], [.box a0, .box [.raw (.slice none 0 0), .raw (.slice none 0 0), .i .i64 0], .box [.sl b3.length (b3.flatMap (eL eU8)), .ls 3 s5.2.length, .i .i64 a1], .arr 79 1 0 (s5.2.flatMap eGR07Chain), .box [.sl s10.2.length (s10.2.flatMap eGR07Ver)], .box [.sl v15.1.L.length (v15.1.L.flatMap eGR07Ver)]]] (by kernel_rfl) mixed (by kernel_rfl) (by decide) rfl rfl rfl rfl ?_
                    refine ev (sees_all (md := [.box a0, .box [.raw (.slice none 0 0), .raw (.slice none 0 0), .i .i64 0], .box [.sl b3.length (b3.flatMap (eL eU8)), .ls 3 s5.2.length, .i .i64 a1], .arr 79 1 0 (s5.2.flatMap eGR07Chain), .box [.sl s10.2.length (s10.2.flatMap eGR07Ver)], .dead]) ⟨⟨rfl, ⟨rfl, ⟨rfl, ⟨rfl, ⟨rfl, ⟨trivial, trivial⟩⟩⟩⟩⟩⟩, ⟨⟨rfl, ⟨rfl, ⟨rfl, ⟨rfl, ⟨rfl, ⟨trivial, trivial⟩⟩⟩⟩⟩⟩, ⟨⟨rfl, ⟨rfl, ⟨rfl, ⟨rfl, ⟨rfl, ⟨trivial, trivial⟩⟩⟩⟩⟩⟩, trivial⟩⟩⟩) rfl rfl (opv_loadN ti79 rfl (.lp _ _ _ rfl) (Nat.le_of_ble_eq_true rfl)) ?_
                    refine emv rfl rfl (fun _ => opv_mv rfl) ?_
                    refine emv rfl rfl (fun _ => opv_mv rfl) ?_
                    refine emv rfl rfl (fun _ => opv_mv rfl) ?_
                    refine ev (sees_all (md := [.box a0, .box [.raw (.slice none 0 0), .raw (.slice none 0 0), .i .i64 0], .box [.sl b3.length (b3.flatMap (eL eU8)), .ls 3 s5.2.length, .i .i64 a1], .arr 79 1 0 (s5.2.flatMap eGR07Chain), .box [.sl s10.2.length (s10.2.flatMap eGR07Ver)], .dead]) ⟨⟨rfl, ⟨rfl, ⟨rfl, ⟨rfl, ⟨rfl, ⟨trivial, trivial⟩⟩⟩⟩⟩⟩, ⟨⟨rfl, ⟨rfl, ⟨rfl, ⟨rfl, ⟨rfl, ⟨trivial, trivial⟩⟩⟩⟩⟩⟩, ⟨⟨rfl, ⟨rfl, ⟨rfl, ⟨rfl, ⟨rfl, ⟨trivial, trivial⟩⟩⟩⟩⟩⟩, trivial⟩⟩⟩) rfl rfl (opv_ix (f := eGApiWrite) si29 (fun _ => rfl) rfl rfl rfl rfl hu13) ?_
                    refine ev (sees_all (md := [.box a0, .box [.raw (.slice none 0 0), .raw (.slice none 0 0), .i .i64 0], .box [.sl b3.length (b3.flatMap (eL eU8)), .ls 3 s5.2.length, .i .i64 a1], .arr 79 1 0 (s5.2.flatMap eGR07Chain), .box [.sl s10.2.length (s10.2.flatMap eGR07Ver)], .dead]) ⟨⟨rfl, ⟨rfl, ⟨rfl, ⟨rfl, ⟨rfl, ⟨trivial, trivial⟩⟩⟩⟩⟩⟩, ⟨⟨rfl, ⟨rfl, ⟨rfl, ⟨rfl, ⟨rfl, ⟨trivial, trivial⟩⟩⟩⟩⟩⟩, ⟨⟨rfl, ⟨rfl, ⟨rfl, ⟨rfl, ⟨rfl, ⟨trivial, trivial⟩⟩⟩⟩⟩⟩, trivial⟩⟩⟩) rfl rfl (opv_fieldAddr_cp fi67_1 rfl) ?_
                    refine ev (sees_all (md := [.box a0, .box [.raw (.slice none 0 0), .raw (.slice none 0 0), .i .i64 0], .box [.sl b3.length (b3.flatMap (eL eU8)), .ls 3 s5.2.length, .i .i64 a1], .arr 79 1 0 (s5.2.flatMap eGR07Chain), .box [.sl s10.2.length (s10.2.flatMap eGR07Ver)], .dead]) ⟨⟨rfl, ⟨rfl, ⟨rfl, ⟨rfl, ⟨rfl, ⟨trivial, trivial⟩⟩⟩⟩⟩⟩, ⟨⟨rfl, ⟨rfl, ⟨rfl, ⟨rfl, ⟨rfl, ⟨trivial, trivial⟩⟩⟩⟩⟩⟩, ⟨⟨rfl, ⟨rfl, ⟨rfl, ⟨rfl, ⟨rfl, ⟨trivial, trivial⟩⟩⟩⟩⟩⟩, trivial⟩⟩⟩) rfl rfl (opv_load1 ti26 rfl (.cp _) rfl) ?_
                    refine emv rfl rfl (fun _ => opv_mv rfl) ?_
                    refine emv rfl rfl (fun _ => opv_mv rfl) ?_
                    refine ev (sees_all (md := [.box a0, .box [.raw (.slice none 0 0), .raw (.slice none 0 0), .i .i64 0], .box [.sl b3.length (b3.flatMap (eL eU8)), .ls 3 s5.2.length, .i .i64 a1], .arr 79 1 0 (s5.2.flatMap eGR07Chain), .box [.sl s10.2.length (s10.2.flatMap eGR07Ver)], .dead]) ⟨⟨rfl, ⟨rfl, ⟨rfl, ⟨rfl, ⟨rfl, ⟨trivial, trivial⟩⟩⟩⟩⟩⟩, ⟨⟨rfl, ⟨rfl, ⟨rfl, ⟨rfl, ⟨rfl, ⟨trivial, trivial⟩⟩⟩⟩⟩⟩, ⟨⟨rfl, ⟨rfl, ⟨rfl, ⟨rfl, ⟨rfl, ⟨trivial, trivial⟩⟩⟩⟩⟩⟩, trivial⟩⟩⟩) rfl rfl (opv_ix (f := eGApiWrite) si29 (fun _ => rfl) rfl rfl rfl rfl hu14) ?_
                    refine ev (sees_all (md := [.box a0, .box [.raw (.slice none 0 0), .raw (.slice none 0 0), .i .i64 0], .box [.sl b3.length (b3.flatMap (eL eU8)), .ls 3 s5.2.length, .i .i64 a1], .arr 79 1 0 (s5.2.flatMap eGR07Chain), .box [.sl s10.2.length (s10.2.flatMap eGR07Ver)], .dead]) ⟨⟨rfl, ⟨rfl, ⟨rfl, ⟨rfl, ⟨rfl, ⟨trivial, trivial⟩⟩⟩⟩⟩⟩, ⟨⟨rfl, ⟨rfl, ⟨rfl, ⟨rfl, ⟨rfl, ⟨trivial, trivial⟩⟩⟩⟩⟩⟩, ⟨⟨rfl, ⟨rfl, ⟨rfl, ⟨rfl, ⟨rfl, ⟨trivial, trivial⟩⟩⟩⟩⟩⟩, trivial⟩⟩⟩) rfl rfl (opv_fieldAddr_cp fi67_2 rfl) ?_
                    refine ev (sees_all (md := [.box a0, .box [.raw (.slice none 0 0), .raw (.slice none 0 0), .i .i64 0], .box [.sl b3.length (b3.flatMap (eL eU8)), .ls 3 s5.2.length, .i .i64 a1], .arr 79 1 0 (s5.2.flatMap eGR07Chain), .box [.sl s10.2.length (s10.2.flatMap eGR07Ver)], .dead]) ⟨⟨rfl, ⟨rfl, ⟨rfl, ⟨rfl, ⟨rfl, ⟨trivial, trivial⟩⟩⟩⟩⟩⟩, ⟨⟨rfl, ⟨rfl, ⟨rfl, ⟨rfl, ⟨rfl, ⟨trivial, trivial⟩⟩⟩⟩⟩⟩, ⟨⟨rfl, ⟨rfl, ⟨rfl, ⟨rfl, ⟨rfl, ⟨trivial, trivial⟩⟩⟩⟩⟩⟩, trivial⟩⟩⟩) rfl rfl (opv_load1 ti4 rfl (.cp _) rfl) ?_
                    refine ev (sees_all (md := [.box a0, .box [.raw (.slice none 0 0), .raw (.slice none 0 0), .i .i64 0], .box [.sl b3.length (b3.flatMap (eL eU8)), .ls 3 s5.2.length, .i .i64 a1], .arr 79 1 0 (s5.2.flatMap eGR07Chain), .box [.sl s10.2.length (s10.2.flatMap eGR07Ver)], .dead]) ⟨⟨rfl, ⟨rfl, ⟨rfl, ⟨rfl, ⟨rfl, ⟨trivial, trivial⟩⟩⟩⟩⟩⟩, ⟨⟨rfl, ⟨rfl, ⟨rfl, ⟨rfl, ⟨rfl, ⟨trivial, trivial⟩⟩⟩⟩⟩⟩, ⟨⟨rfl, ⟨rfl, ⟨rfl, ⟨rfl, ⟨rfl, ⟨trivial, trivial⟩⟩⟩⟩⟩⟩, trivial⟩⟩⟩) rfl rfl (opv_build zi84 pi84 (parts_cons rfl (parts_cons rfl (parts_cons rfl parts_nil))) (.cons _ _ _ _ _ _ _ rfl rfl (Nat.le_of_ble_eq_true rfl) (.cons _ _ _ _ _ _ _ rfl rfl (Nat.le_of_ble_eq_true rfl) (.cons _ _ _ _ _ _ _ rfl rfl (Nat.le_of_ble_eq_true rfl) (.nil _))))) ?_
                    refine ed (sees_all (md := [.box a0, .box [.raw (.slice none 0 0), .raw (.slice none 0 0), .i .i64 0], .box [.sl b3.length (b3.flatMap (eL eU8)), .ls 3 s5.2.length, .i .i64 a1], .arr 79 1 0 (s5.2.flatMap eGR07Chain), .box [.sl s10.2.length (s10.2.flatMap eGR07Ver)], .dead]) ⟨⟨rfl, ⟨rfl, ⟨rfl, ⟨rfl, ⟨rfl, ⟨trivial, trivial⟩⟩⟩⟩⟩⟩, ⟨⟨rfl, ⟨rfl, ⟨rfl, ⟨rfl, ⟨rfl, ⟨trivial, trivial⟩⟩⟩⟩⟩⟩, ⟨⟨rfl, ⟨rfl, ⟨rfl, ⟨rfl, ⟨rfl, ⟨trivial, trivial⟩⟩⟩⟩⟩⟩, trivial⟩⟩⟩) rfl rfl (opD_call fn48 (opnds_cons rfl (opnds_cons rfl opnds_nil)) rfl (m48_r07_Push_c hv15)) ?_
                    refine emv rfl rfl (fun _ => opv_mvt rfl) ?_
                    refine ev (sees_all (md := [.box a0, .box [.raw (.slice none 0 0), .raw (.slice none 0 0), .i .i64 0], .box [.sl b3.length (b3.flatMap (eL eU8)), .ls 3 s5.2.length, .i .i64 a1], .arr 79 1 0 (s5.2.flatMap eGR07Chain), .box [.sl s10.2.length (s10.2.flatMap eGR07Ver)], .dead]) ⟨⟨rfl, ⟨rfl, ⟨rfl, ⟨rfl, ⟨rfl, ⟨trivial, trivial⟩⟩⟩⟩⟩⟩, ⟨⟨rfl, ⟨rfl, ⟨rfl, ⟨rfl, ⟨rfl, ⟨trivial, trivial⟩⟩⟩⟩⟩⟩, ⟨⟨rfl, ⟨rfl, ⟨rfl, ⟨rfl, ⟨rfl, ⟨trivial, trivial⟩⟩⟩⟩⟩⟩, trivial⟩⟩⟩) rfl rfl (opv_extract rfl rfl) ?_
                    refine ev (sees_all (md := [.box a0, .box [.raw (.slice none 0 0), .raw (.slice none 0 0), .i .i64 0], .box [.sl b3.length (b3.flatMap (eL eU8)), .ls 3 s5.2.length, .i .i64 a1], .arr 79 1 0 (s5.2.flatMap eGR07Chain), .box [.sl s10.2.length (s10.2.flatMap eGR07Ver)], .dead]) ⟨⟨rfl, ⟨rfl, ⟨rfl, ⟨rfl, ⟨rfl, ⟨trivial, trivial⟩⟩⟩⟩⟩⟩, ⟨⟨rfl, ⟨rfl, ⟨rfl, ⟨rfl, ⟨rfl, ⟨trivial, trivial⟩⟩⟩⟩⟩⟩, ⟨⟨rfl, ⟨rfl, ⟨rfl, ⟨rfl, ⟨rfl, ⟨trivial, trivial⟩⟩⟩⟩⟩⟩, trivial⟩⟩⟩) rfl rfl (opv_extract rfl rfl) ?_
                    refine ee (x := .s (.one (.lp 5 0))) 0 rfl rfl rfl rfl rfl (fun ζ => ?_) ?_
                    · refine salloc_at 5 rfl zi79 rfl ?_
                      exact eend
                    refine ee0 1 rfl rfl rfl rfl (fun ζ => ?_) ?_
                    · refine sstore sz79 rfl rfl rfl rfl (Nat.le_of_ble_eq_true rfl) ?_
                      refine smem [.box a0, .box [.raw (.slice none 0 0), .raw (.slice none 0 0), .i .i64 0], .box [.sl b3.length (b3.flatMap (eL eU8)), .ls 3 s5.2.length, .i .i64 a1], .arr 79 1 0 (s5.2.flatMap eGR07Chain), .box [.sl s10.2.length (s10.2.flatMap eGR07Ver)], .box [.sl v15.1.L.length (v15.1.L.flatMap eGR07Ver)]] rfl ?_
                      exact eend
                    refine ev (sees_at 2 rfl rfl) rfl rfl (opv_as rfl) ?_
                    refine enil ?_
                    refine then_normal ?_
                    refine cregion ?_
                    refine sv rfl (opv_loadN ti79 rfl (.lp _ _ _ rfl) (Nat.le_of_ble_eq_true rfl)) ?_
                    refine sstore sz79 rfl rfl rfl rfl (Nat.le_of_ble_eq_true rfl) ?_
                    refine smem [.box a0, .box [.raw (.slice none 0 0), .raw (.slice none 0 0), .i .i64 0], .box [.sl b3.length (b3.flatMap (eL eU8)), .ls 3 s5.2.length, .i .i64 a1], .arr 79 1 0 (s5.2.flatMap eGR07Chain), .box [.sl v15.1.L.length (v15.1.L.flatMap eGR07Ver)], .box [.sl v15.1.L.length (v15.1.L.flatMap eGR07Ver)]] rfl ?_
                    refine snil0 ?_
                    refine block_normal ?_
                    refine then_normal ?_
                    refine cregion ?_
                    refine sv rfl (opv_mv rfl) ?_
                    refine sv rfl (opv_add rfl rfl) ?_
                    refine sv rfl (opv_as rfl) ?_
                    refine snil ?_
                    obtain rfl := Option.some.inj h
                    exact ⟨(n10, ((wI (s10.1 + 1)), v15.1.L)), _, hk10, ⟨rfl, rfl, rfl, rfl, rfl, rfl, rfl, rfl, trivial⟩, rfl, Nat.lt_succ_self _⟩
                  · replace h := ite_f hc h
                    clear hc
                    refine cskip ?_
                    refine block_normal ?_
                    refine then_normal ?_
                    refine cregion ?_
                    refine sv rfl (opv_mv rfl) ?_
                    refine sv rfl (opv_add rfl rfl) ?_
                    refine sv rfl (opv_as rfl) ?_
                    refine snil ?_
                    obtain rfl := Option.some.inj h
                    exact ⟨(n10, ((wI (s10.1 + 1)), s10.2)), _, hk10, ⟨rfl, rfl, rfl, rfl, rfl, rfl, rfl, rfl, trivial⟩, rfl, Nat.lt_succ_self _⟩
                · replace h := ite_f hc h
                  clear hc
                  refine cexit ?_
                  refine then_exit ?_
                  refine then_exit ?_
                  refine block_hit ?_
                  refine then_normal ?_
                  obtain rfl := Option.some.inj h
                  obtain rfl : _ = x10 := hk10
                  exact ⟨s10.2, _, ho10, ⟨rfl, rfl, rfl, rfl, rfl, rfl, rfl, trivial⟩, rfl⟩
            · replace h := ite_f hc h
              clear hc
              refine cexit ?_
              refine then_exit ?_
              refine then_exit ?_
              refine block_hit ?_
              refine then_normal ?_
              obtain rfl := Option.some.inj h
              obtain rfl : _ = x5 := hk5
              exact ⟨s5.2, _, ho5, ⟨rfl, rfl, trivial⟩, rfl⟩
      · skip
        refine cblock ?_
        obtain ⟨x18, hx18, ho18⟩ := bind_eq h
        refine awc_loop (G := Nat × (Int × (List (List UInt8)))) (fun g => [(1, .s (.one (.i .i64 a1))), (2, .s (.one (.sl a2.length (a2.flatMap eGApiWrite)))), (3, .s (.one (.lp 0 0))), (6, .s (.one (.lp 1 0))), (8, .s (.one (.lp 2 0))), (9, .s (.one (.i .i64 g.2.1)))]) (fun g => [.box a0, .box [.raw (.slice none 0 0), .raw (.slice none 0 0), .i .i64 0], .box [.sl g.2.2.length (g.2.2.flatMap (eL eU8)), .raw (.slice none 0 0), .i .i64 a1]]) (fun g => iterB (m17_r08_Install_s18 a2) g.1 g.2 = some x18) (fun g => g.1) (fuel, (0, a0.Keys)) hx18 ⟨rfl, rfl, rfl, rfl, rfl, rfl, trivial⟩ [] rfl (fun _ _ => inbL_of rfl) (fun _ _ => blkinb_of rfl) (fun _ _ => Nat.le_of_ble_eq_true rfl) ?_
        clear hx18 h
        rintro ⟨n18, s18⟩ h
        obtain ⟨n18, y18, rfl, h, hk18⟩ := iterB_eq h
        unfold m17_r08_Install_s18 at h
        refine cseq ?_
        refine cseq ?_
        refine cregion ?_
        refine sv rfl (opv_mv rfl) ?_
        refine sv rfl (opv_mv rfl) ?_
        refine sv rfl (opv_len_sl si29 rfl) ?_
        refine sv rfl (opv_lss rfl rfl) ?_
        refine snil ?_
        refine ccond rfl (fun hc => ?_) (fun hc => ?_)
        · replace h := ite_t hc h
          clear hc
          refine cskip ?_
          refine then_normal ?_
          refine cseq ?_
          refine cblock ?_
          obtain ⟨u19, hu19, h⟩ := bind_eq h
          obtain ⟨v20, hv20, h⟩ := bind_eq h
          refine cdraw_e [9] [0, 1, 0, 0, 12, 28, 60, 127, 255, 511] [[.box a0, .box [.raw (.slice none 0 0), .raw (.slice none 0 0), .i .i64 0], .box [.sl s18.2.length (s18.2.flatMap (eL eU8)), .raw (.slice none 0 0), .i .i64 a1]], [.box a0, .box [.raw (.slice none 0 0), .raw (.slice none 0 0), .i .i64 0], .box [.sl v20.length (v20.flatMap (eL eU8)), .raw (.slice none 0 0), .i .i64 a1]]] (by kernel_rfl) mixed (by kernel_rfl) (by decide) rfl rfl rfl rfl ?_
          refine ev (sees_at 0 rfl rfl) rfl rfl (opv_fieldAddr_lp fi25_0 rfl) ?_
          refine ev (sees_at 0 rfl rfl) rfl rfl (opv_load1 ti22 rfl (.lp _ _ _ rfl) rfl) ?_
          refine ev (sees_at 0 rfl rfl) rfl rfl (opv_mv rfl) ?_
          refine ev (sees_at 0 rfl rfl) rfl rfl (opv_mv rfl) ?_
          refine ev (sees_at 0 rfl rfl) rfl rfl (opv_ix (f := eGApiWrite) si29 (fun _ => rfl) rfl rfl rfl rfl hu19) ?_
          refine ev (sees_at 0 rfl rfl) rfl rfl (opv_fieldAddr_cp fi67_0 rfl) ?_
          refine ev (sees_at 0 rfl rfl) rfl rfl (opv_load1 ti26 rfl (.cp _) rfl) ?_
          refine ed (sees_at 0 rfl rfl) rfl rfl (opD_call fn47 (opnds_cons rfl (opnds_cons rfl opnds_nil)) rfl (m47_r06_Insert_c hv20)) ?_
          refine ev (sees_at 0 rfl rfl) rfl rfl (opv_fieldAddr_lp fi25_0 rfl) ?_
          refine ee0 0 rfl rfl rfl rfl (fun ζ => ?_) ?_
          · refine sstore sz22 rfl rfl rfl rfl (Nat.le_of_ble_eq_true rfl) ?_
            refine smem [.box a0, .box [.raw (.slice none 0 0), .raw (.slice none 0 0), .i .i64 0], .box [.sl v20.length (v20.flatMap (eL eU8)), .raw (.slice none 0 0), .i .i64 a1]] rfl ?_
            exact eend
          refine enil ?_
          refine block_normal ?_
          refine then_normal ?_
          refine cregion ?_
          refine sv rfl (opv_mv rfl) ?_
          refine sv rfl (opv_add rfl rfl) ?_
          refine sv rfl (opv_as rfl) ?_
          refine snil ?_
          obtain rfl := Option.some.inj h
          exact ⟨(n18, ((wI (s18.1 + 1)), v20)), _, hk18, ⟨rfl, rfl, rfl, rfl, rfl, rfl, trivial⟩, rfl, Nat.lt_succ_self _⟩
        · replace h := ite_f hc h
          clear hc
          refine cexit ?_
          refine then_exit ?_
          refine then_exit ?_
          refine block_hit ?_
          refine then_normal ?_
          obtain rfl := Option.some.inj h
          obtain rfl : _ = x18 := hk18
          exact ⟨s18.2, _, ho18, ⟨rfl, rfl, rfl, rfl, rfl, trivial⟩, rfl⟩
    · skip
      refine cregion ?_
      refine sv rfl (opv_mv rfl) ?_
      refine sv rfl (opv_fieldAddr_lp fi25_2 rfl) ?_
      refine sv rfl (opv_load1 ti3 rfl (.lp _ _ _ rfl) rfl) ?_
      refine sv rfl (opv_leq rfl rfl) ?_
      refine sv rfl (opv_mv rfl) ?_
      refine ssplit 28 rfl (fun hc => ?_) (fun hc => ?_)
      · replace h := ite_t hc h
        clear hc
        refine soff rfl rfl rfl rfl ?_
        refine soff rfl rfl rfl rfl ?_
        refine sv rfl (opv_pick_t rfl rfl) ?_
        refine snil ?_
        refine ccond rfl (fun _ => ?_) (fun hx => Bool.noConfusion hx)
        refine cseq ?_
        refine cregion ?_
        refine sv rfl (opv_build zi25 pi25 parts_nil (.nil _)) ?_
        refine sstore sz25 rfl rfl rfl rfl (Nat.le_of_ble_eq_true rfl) ?_
        refine smem [.box a0, .box [.raw (.slice none 0 0), .raw (.slice none 0 0), .i .i64 0]] rfl ?_
        refine sv rfl (opv_as rfl) ?_
        refine snil ?_
        refine cret ?_
        refine then_ret ?_
        obtain rfl := Option.some.inj h
        refine ⟨Or.inr rfl, _, _, _, (resVs_cons (ResV.agg _ _ _ _ _ ti25 rfl (.lp _ _ _ rfl) (Nat.le_of_ble_eq_true rfl)) (resVs_cons (ResV.tmp _ _ rfl) resVs_nil)), (pubC rfl), ?_⟩
        rfl
      · replace h := ite_f hc h
        clear hc
        refine son rfl rfl rfl ?_
        refine sv rfl (opv_mv rfl) ?_
        refine son rfl rfl rfl ?_
        refine sv rfl (opv_gtr rfl rfl) ?_
        refine sv rfl (opv_pick_f rfl rfl) ?_
        refine snil ?_
        refine ccond rfl (fun hc => ?_) (fun hc => ?_)
        · replace h := ite_t hc h
          clear hc
          refine cseq ?_
          refine cregion ?_
          refine sv rfl (opv_build zi25 pi25 parts_nil (.nil _)) ?_
          refine sstore sz25 rfl rfl rfl rfl (Nat.le_of_ble_eq_true rfl) ?_
          refine smem [.box a0, .box [.raw (.slice none 0 0), .raw (.slice none 0 0), .i .i64 0]] rfl ?_
          refine sv rfl (opv_as rfl) ?_
          refine snil ?_
          refine cret ?_
          refine then_ret ?_
          obtain rfl := Option.some.inj h
          refine ⟨Or.inr rfl, _, _, _, (resVs_cons (ResV.agg _ _ _ _ _ ti25 rfl (.lp _ _ _ rfl) (Nat.le_of_ble_eq_true rfl)) (resVs_cons (ResV.tmp _ _ rfl) resVs_nil)), (pubC rfl), ?_⟩
          rfl
        · replace h := ite_f hc h
          clear hc
          refine cskip ?_
          refine then_normal ?_
          exact ⟨(), _, h, ⟨rfl, rfl, rfl, rfl, trivial⟩, rfl⟩
  · skip
    refine cregion ?_
    refine sv rfl (opv_loadN ti25 rfl (.lp _ _ _ rfl) (Nat.le_of_ble_eq_true rfl)) ?_
    obtain ⟨v22, hv22, h⟩ := bind_eq h
    refine scall1 rfl fn24 (opnds_cons rfl opnds_nil) (pubA_id rfl) (m24_r08_Sane_c hv22) ?_
    refine sv rfl (opv_not rfl) ?_
    refine sv rfl (opv_mv rfl) ?_
    refine ssplit 18 rfl (fun hc => ?_) (fun hc => ?_)
    · replace h := ite_t hc h
      clear hc
      refine soff rfl rfl rfl rfl ?_
      refine soff rfl rfl rfl rfl ?_
      refine soff rfl rfl rfl rfl ?_
      refine sv rfl (opv_pick_t rfl rfl) ?_
      refine snil ?_
      refine ccond rfl (fun _ => ?_) (fun hx => Bool.noConfusion hx)
      refine cseq ?_
      refine cregion ?_
      refine sv rfl (opv_build zi25 pi25 parts_nil (.nil _)) ?_
      refine sstore sz25 rfl rfl rfl rfl (Nat.le_of_ble_eq_true rfl) ?_
      refine smem [.box a0, .box [.raw (.slice none 0 0), .raw (.slice none 0 0), .i .i64 0]] rfl ?_
      refine sv rfl (opv_as rfl) ?_
      refine snil ?_
      refine cret ?_
      refine then_ret ?_
      obtain rfl := Option.some.inj h
      refine ⟨Or.inr rfl, _, _, _, (resVs_cons (ResV.agg _ _ _ _ _ ti25 rfl (.lp _ _ _ rfl) (Nat.le_of_ble_eq_true rfl)) (resVs_cons (ResV.tmp _ _ rfl) resVs_nil)), (pubC rfl), ?_⟩
      rfl
    · replace h := ite_f hc h
      clear hc
      refine son rfl rfl rfl ?_
      refine sv rfl (opv_mv rfl) ?_
      refine son rfl rfl rfl ?_
      obtain ⟨v23, hv23, h⟩ := bind_eq h
      refine scall1 rfl fn46 (opnds_cons rfl opnds_nil) (pubA_id rfl) (m46_r08_Writes_c hv23) ?_
      refine son rfl rfl rfl ?_
      refine sv rfl (opv_not rfl) ?_
      refine sv rfl (opv_pick_f rfl rfl) ?_
      refine snil ?_
      refine ccond rfl (fun hc => ?_) (fun hc => ?_)
      · replace h := ite_t hc h
        clear hc
        refine cseq ?_
        refine cregion ?_
        refine sv rfl (opv_build zi25 pi25 parts_nil (.nil _)) ?_
        refine sstore sz25 rfl rfl rfl rfl (Nat.le_of_ble_eq_true rfl) ?_
        refine smem [.box a0, .box [.raw (.slice none 0 0), .raw (.slice none 0 0), .i .i64 0]] rfl ?_
        refine sv rfl (opv_as rfl) ?_
        refine snil ?_
        refine cret ?_
        refine then_ret ?_
        obtain rfl := Option.some.inj h
        refine ⟨Or.inr rfl, _, _, _, (resVs_cons (ResV.agg _ _ _ _ _ ti25 rfl (.lp _ _ _ rfl) (Nat.le_of_ble_eq_true rfl)) (resVs_cons (ResV.tmp _ _ rfl) resVs_nil)), (pubC rfl), ?_⟩
        rfl
      · replace h := ite_f hc h
        clear hc
        refine cskip ?_
        refine then_normal ?_
        exact ⟨(), _, h, ⟨rfl, rfl, rfl, rfl, trivial⟩, rfl⟩

def m19_l08_theirs_k1 (a0 : GStoreStore) (b1 : (List GR07Chain)) : Option GR08Store :=
  some (GR08Store.mk a0.Keys b1 a0.Ts)

def m19_l08_theirs_k3 (s2 : Int × (List GR07Chain)) (b3 : (List GR07Ver)) : Option (LB (Int × (List GR07Chain)) ((List GR07Chain))) :=
  if (s2.2.length + [(GR07Chain.mk b3)].length) * 24 ≤ 140737488355328 then (some (.cont ((wI (s2.1 + 1)), (s2.2 ++ [(GR07Chain.mk b3)])))) else none

def m19_l08_theirs_s5 (a0 : GStoreStore) (s2 : Int × (List GR07Chain)) (s5 : Int × (List GR07Ver)) : Option (LB (Int × (List GR07Ver)) ((List GR07Ver))) :=
  (idx a0.Chains s2.1).bind fun u6 => if (decide (s5.1 < (u6.L.length : Int))) then ((idx a0.Chains s2.1).bind fun u7 => (idx u7.L s5.1).bind fun u8 => if (s5.2.length + [(GR07Ver.mk u8.Ts u8.Val u8.Del)].length) * 40 ≤ 140737488355328 then (some (.cont ((wI (s5.1 + 1)), (s5.2 ++ [(GR07Ver.mk u8.Ts u8.Val u8.Del)])))) else none) else (some (.brk s5.2))

def m19_l08_theirs_s2 (a0 : GStoreStore) (s2 : Int × (List GR07Chain)) : Option (LB (Int × (List GR07Chain)) ((List GR07Chain))) :=
  if (decide (s2.1 < (a0.Chains.length : Int))) then ((iterB (m19_l08_theirs_s5 a0 s2) fuel (0, ([] : List GR07Ver))).bind fun e10 => m19_l08_theirs_k3 s2 e10) else (some (.brk s2.2))
def m19_l08_theirs (a0 : GStoreStore) : Option GR08Store :=
  (iterB (m19_l08_theirs_s2 a0) fuel (0, ([] : List GR07Chain))).bind fun e11 => m19_l08_theirs_k1 a0 e11

set_option maxRecDepth 100000 in
theorem m19_l08_theirs_c {a0 : GStoreStore} {r : GR08Store} (h : m19_l08_theirs a0 = some r) : CallsA Try.prog 19 [.agg a0] (· = .s (.agg r)) := by
  unfold m19_l08_theirs at h
  refine callsA_of Try.func19 rfl (nt := 60) rfl (Nat.le_of_ble_eq_true rfl) ?_
  intro w0 S0
  refine cseq ?_
  refine cregion ?_
  refine sbox rfl rfl ?_
  refine salloc rfl zi25 ?_
  refine snil ?_
  refine cseq ?_
  refine cregion ?_
  refine sv rfl (opv_fieldAddr_lp fi36_0 rfl) ?_
  refine sv rfl (opv_load1 ti22 rfl (.lp _ _ _ rfl) rfl) ?_
  refine sv rfl (opv_fieldAddr_lp fi36_2 rfl) ?_
  refine sv rfl (opv_load1 ti3 rfl (.lp _ _ _ rfl) rfl) ?_
  refine sv rfl (opv_build zi25 pi25 (parts_cons rfl (parts_cons rfl parts_nil)) (.cons _ _ _ _ _ _ _ rfl rfl (Nat.le_of_ble_eq_true rfl) (.cons _ _ _ _ _ _ _ rfl rfl (Nat.le_of_ble_eq_true rfl) (.nil _)))) ?_
  refine salloc rfl zi25 ?_
  refine sstore sz25 rfl rfl rfl rfl (Nat.le_of_ble_eq_true rfl) ?_
  refine smem [.box a0, .box [.raw (.slice none 0 0), .raw (.slice none 0 0), .i .i64 0], .box [.sl a0.Keys.length (a0.Keys.flatMap (eL eU8)), .raw (.slice none 0 0), .i .i64 a0.Ts]] rfl ?_
  refine snil ?_
  refine cseq ?_
  refine cseq ?_
  refine cregion ?_
  refine sv rfl (opv_as rfl) ?_
  refine snil ?_
  refine sadopt_box_c 79 1 2 1 (by decide) rfl rfl ?_
  refine cjoin ((List GR07Chain)) (fun b1 => [(2, .s (.one (.lp 1 0))), (3, .s (.one (.lp 2 0)))]) (fun b1 => [.box a0, .box [.raw (.slice none 0 0), .raw (.slice none 0 0), .i .i64 0], .box [.sl a0.Keys.length (a0.Keys.flatMap (eL eU8)), .ls 3 b1.length, .i .i64 a0.Ts], .arr 79 1 0 (b1.flatMap eGR07Chain)]) (fun b1 => m19_l08_theirs_k1 a0 b1 = some r) (fun _ _ => inbL_of rfl) (fun _ _ => blkinb_of rfl) (fun _ _ => Nat.le_of_ble_eq_true rfl) (fun b1 h => ?_) ?_
  · unfold m19_l08_theirs_k1 at h
    refine cseq ?_
    refine cregion ?_
    refine sv rfl (opv_loadN ti25 rfl (.lp _ _ _ rfl) (Nat.le_of_ble_eq_true rfl)) ?_
    refine sstore sz25 rfl rfl rfl rfl (Nat.le_of_ble_eq_true rfl) ?_
    refine smem [.box a0, .box [.sl a0.Keys.length (a0.Keys.flatMap (eL eU8)), .ls 3 b1.length, .i .i64 a0.Ts], .box [.sl a0.Keys.length (a0.Keys.flatMap (eL eU8)), .ls 3 b1.length, .i .i64 a0.Ts], .arr 79 1 0 (b1.flatMap eGR07Chain)] rfl ?_
    refine snil ?_
    refine cret ?_
    obtain rfl := Option.some.inj h
    refine ⟨Or.inr rfl, _, _, _, (resVs_cons (ResV.agg _ _ _ _ _ ti25 rfl (.lp _ _ _ rfl) (Nat.le_of_ble_eq_true rfl)) resVs_nil), (by (repeat' first | exact PubA.nil _ | apply PubA.cons | apply PubV.one | apply PubV.agg | exact PubL.nil | exact PubL.ls _ _ _ _ _ _ rfl (flat_len (f := eGR07Chain) (fun _ => rfl) _).symm | exact PubL.id _ rfl | exact PubLs.nil _ | apply PubLs.cons)), ?_⟩
    rfl
  · skip
    refine cblock ?_
    obtain ⟨x2, hx2, ho2⟩ := bind_eq h
    refine awc_loop (G := Nat × (Int × (List GR07Chain))) (fun g => [(1, .s (.one (.lp 0 0))), (2, .s (.one (.lp 1 0))), (3, .s (.one (.lp 2 0))), (4, .s (.one (.i .i64 g.2.1)))]) (fun g => [.box a0, .box [.raw (.slice none 0 0), .raw (.slice none 0 0), .i .i64 0], .box [.sl a0.Keys.length (a0.Keys.flatMap (eL eU8)), .ls 3 g.2.2.length, .i .i64 a0.Ts], .arr 79 1 0 (g.2.2.flatMap eGR07Chain)]) (fun g => iterB (m19_l08_theirs_s2 a0) g.1 g.2 = some x2) (fun g => g.1) (fuel, (0, ([] : List GR07Chain))) hx2 ⟨rfl, rfl, rfl, rfl, trivial⟩ [] rfl (fun _ _ => inbL_of rfl) (fun _ _ => blkinb_of rfl) (fun _ _ => Nat.le_of_ble_eq_true rfl) ?_
    clear hx2 h
    rintro ⟨n2, s2⟩ h
    obtain ⟨n2, y2, rfl, h, hk2⟩ := iterB_eq h
    unfold m19_l08_theirs_s2 at h
    refine cseq ?_
    refine cseq ?_
    refine cregion ?_
    refine sv rfl (opv_mv rfl) ?_
    refine sv rfl (opv_fieldAddr_lp fi36_1 rfl) ?_
    refine sv rfl (opv_load1 ti34 rfl (.lp _ _ _ rfl) rfl) ?_
    refine sv rfl (opv_len_sl si34 rfl) ?_
    refine sv rfl (opv_lss rfl rfl) ?_
    refine snil ?_
    refine ccond rfl (fun hc => ?_) (fun hc => ?_)
    · replace h := ite_t hc h
      clear hc
      refine cskip ?_
      refine then_normal ?_
      refine cseq ?_
      refine cblock ?_
      refine cseq ?_
      refine cregion ?_
      refine sv rfl (opv_build zi79 pi79 parts_nil (.nil _)) ?_
      refine salloc rfl zi79 ?_
      refine sstore sz79 rfl rfl rfl rfl (Nat.le_of_ble_eq_true rfl) ?_
      refine smem [.box a0, .box [.raw (.slice none 0 0), .raw (.slice none 0 0), .i .i64 0], .box [.sl a0.Keys.length (a0.Keys.flatMap (eL eU8)), .ls 3 s2.2.length, .i .i64 a0.Ts], .arr 79 1 0 (s2.2.flatMap eGR07Chain), .box [.raw (.slice none 0 0)]] rfl ?_
      refine snil ?_
      refine cseq ?_
      refine cseq ?_
      refine cregion ?_
      refine sv rfl (opv_as rfl) ?_
      refine snil ?_
      refine sadopt_box_c 84 3 4 0 (by decide) rfl rfl ?_
      refine cjoin ((List GR07Ver)) (fun b3 => [(1, .s (.one (.lp 0 0))), (2, .s (.one (.lp 1 0))), (3, .s (.one (.lp 2 0))), (4, .s (.one (.i .i64 s2.1))), (5, .s (.one (.lp 4 0)))]) (fun b3 => [.box a0, .box [.raw (.slice none 0 0), .raw (.slice none 0 0), .i .i64 0], .box [.sl a0.Keys.length (a0.Keys.flatMap (eL eU8)), .ls 3 s2.2.length, .i .i64 a0.Ts], .arr 79 1 0 (s2.2.flatMap eGR07Chain), .box [.ls 5 b3.length], .arr 84 3 0 (b3.flatMap eGR07Ver)]) (fun b3 => m19_l08_theirs_k3 s2 b3 = some y2) (fun _ _ => inbL_of rfl) (fun _ _ => blkinb_of rfl) (fun _ _ => Nat.le_of_ble_eq_true rfl) (fun b3 h => ?_) ?_
      · unfold m19_l08_theirs_k3 at h
        refine cregion ?_
        refine sv rfl (opv_fieldAddr_lp fi25_1 rfl) ?_
        refine sv rfl (opv_load1 ti23 rfl (.lp _ _ _ rfl) rfl) ?_
        refine sv rfl (opv_loadN ti79 rfl (.lp _ _ _ rfl) (Nat.le_of_ble_eq_true rfl)) ?_
        refine spub 55 rfl (by (repeat' first | exact PubA.nil _ | apply PubA.cons | apply PubV.one | apply PubV.agg | exact PubL.nil | exact PubL.ls _ _ _ _ _ _ rfl (flat_len (f := eGR07Chain) (fun _ => rfl) _).symm | exact PubL.ls _ _ _ _ _ _ rfl (flat_len (f := eGR07Ver) (fun _ => rfl) _).symm | exact PubL.id _ rfl | exact PubLs.nil _ | apply PubLs.cons)) ?_
        refine sbuild1 rfl Try.underlying23 ei79 rfl rfl (List.all_eq_true.1 rfl) (by decide) ?_
        refine smem [.box a0, .box [.raw (.slice none 0 0), .raw (.slice none 0 0), .i .i64 0], .box [.sl a0.Keys.length (a0.Keys.flatMap (eL eU8)), .ls 3 s2.2.length, .i .i64 a0.Ts], .arr 79 1 0 (s2.2.flatMap eGR07Chain), .box [.ls 5 b3.length], .arr 84 3 (b3.flatMap eGR07Ver).length (b3.flatMap eGR07Ver), .arr 79 1 0 ([(GR07Chain.mk b3)].flatMap eGR07Chain)] rfl ?_
        obtain ⟨hb4, h⟩ := chk_eq h
        refine sapp (f := eGR07Chain) (xs := s2.2) (us := [(GR07Chain.mk b3)]) rfl Try.underlying23 ei79 ni23 (fun _ => rfl) rfl rfl (.one _ _ _ _ (.ls _ _ _ _ _ _ rfl (flat_len (f := eGR07Chain) (fun _ => rfl) [(GR07Chain.mk b3)]).symm)) rfl rfl rfl (.sl _ _ _ (flat_len (f := eGR07Chain) (fun _ => rfl) _)) rfl rfl hb4 (by decide) ?_
        refine sv rfl (opv_fieldAddr_lp fi25_1 rfl) ?_
        refine sstore sz23 rfl rfl rfl rfl (Nat.le_of_ble_eq_true rfl) ?_
        refine smem [.box a0, .box [.raw (.slice none 0 0), .raw (.slice none 0 0), .i .i64 0], .box [.sl a0.Keys.length (a0.Keys.flatMap (eL eU8)), .ls 3 (s2.2 ++ [(GR07Chain.mk b3)]).length, .i .i64 a0.Ts], .arr 79 1 0 ((s2.2 ++ [(GR07Chain.mk b3)]).flatMap eGR07Chain), .box [.ls 5 b3.length], .arr 84 3 (b3.flatMap eGR07Ver).length (b3.flatMap eGR07Ver), .arr 79 1 ([(GR07Chain.mk b3)].flatMap eGR07Chain).length ([(GR07Chain.mk b3)].flatMap eGR07Chain)] rfl ?_
        refine snil0 ?_
        refine block_normal ?_
        refine then_normal ?_
        refine cregion ?_
        refine sv rfl (opv_mv rfl) ?_
        refine sv rfl (opv_add rfl rfl) ?_
        refine sv rfl (opv_as rfl) ?_
        refine snil ?_
        obtain rfl := Option.some.inj h
        exact ⟨(n2, ((wI (s2.1 + 1)), (s2.2 ++ [(GR07Chain.mk b3)]))), _, hk2, ⟨rfl, rfl, rfl, rfl, trivial⟩, rfl, Nat.lt_succ_self _⟩
      · skip
        refine cblock ?_
        obtain ⟨x5, hx5, ho5⟩ := bind_eq h
        refine awc_loop (G := Nat × (Int × (List GR07Ver))) (fun g => [(1, .s (.one (.lp 0 0))), (2, .s (.one (.lp 1 0))), (3, .s (.one (.lp 2 0))), (4, .s (.one (.i .i64 s2.1))), (5, .s (.one (.lp 4 0))), (6, .s (.one (.i .i64 g.2.1)))]) (fun g => [.box a0, .box [.raw (.slice none 0 0), .raw (.slice none 0 0), .i .i64 0], .box [.sl a0.Keys.length (a0.Keys.flatMap (eL eU8)), .ls 3 s2.2.length, .i .i64 a0.Ts], .arr 79 1 0 (s2.2.flatMap eGR07Chain), .box [.ls 5 g.2.2.length], .arr 84 3 0 (g.2.2.flatMap eGR07Ver)]) (fun g => iterB (m19_l08_theirs_s5 a0 s2) g.1 g.2 = some x5) (fun g => g.1) (fuel, (0, ([] : List GR07Ver))) hx5 ⟨rfl, rfl, rfl, rfl, rfl, rfl, trivial⟩ [] rfl (fun _ _ => inbL_of rfl) (fun _ _ => blkinb_of rfl) (fun _ _ => Nat.le_of_ble_eq_true rfl) ?_
        clear hx5 h
        rintro ⟨n5, s5⟩ h
        obtain ⟨n5, y5, rfl, h, hk5⟩ := iterB_eq h
        unfold m19_l08_theirs_s5 at h
        refine cseq ?_
        refine cseq ?_
        refine cregion ?_
        refine sv rfl (opv_mv rfl) ?_
        refine sv rfl (opv_fieldAddr_lp fi36_1 rfl) ?_
        refine sv rfl (opv_load1 ti34 rfl (.lp _ _ _ rfl) rfl) ?_
        refine sv rfl (opv_mv rfl) ?_
        obtain ⟨u6, hu6, h⟩ := bind_eq h
        refine sv rfl (opv_ix (f := eGChainChain) si34 (fun _ => rfl) rfl rfl rfl rfl hu6) ?_
        refine sv rfl (opv_fieldAddr_cp fi82_0 rfl) ?_
        refine sv rfl (opv_load1 ti80 rfl (.cp _) rfl) ?_
        refine sv rfl (opv_len_sl si80 rfl) ?_
        refine sv rfl (opv_lss rfl rfl) ?_
        refine snil ?_
        refine ccond rfl (fun hc => ?_) (fun hc => ?_)
        · replace h := ite_t hc h
          clear hc
          refine cskip ?_
          refine then_normal ?_
          refine cseq ?_
          refine cblock ?_
          refine cseq ?_
          refine cregion ?_
          refine sv rfl (opv_fieldAddr_lp fi36_1 rfl) ?_
          refine sv rfl (opv_load1 ti34 rfl (.lp _ _ _ rfl) rfl) ?_
          refine sv rfl (opv_mv rfl) ?_
          obtain ⟨u7, hu7, h⟩ := bind_eq h
          refine sv rfl (opv_ix (f := eGChainChain) si34 (fun _ => rfl) rfl rfl rfl rfl hu7) ?_
          refine sv rfl (opv_fieldAddr_cp fi82_0 rfl) ?_
          refine sv rfl (opv_load1 ti80 rfl (.cp _) rfl) ?_
          refine sv rfl (opv_mv rfl) ?_
          obtain ⟨u8, hu8, h⟩ := bind_eq h
          refine sv rfl (opv_ix (f := eGChainVer) si80 (fun _ => rfl) rfl rfl rfl rfl hu8) ?_
          refine sv rfl (opv_loadNe (ys := [.i .i64 u8.Ts, .sl u8.Val.length (u8.Val.flatMap eU8), .b u8.Del]) ti85 rfl (.cp _) rfl rfl) ?_
          refine salloc rfl zi85 ?_
          refine sstore sz85 rfl rfl rfl rfl (Nat.le_of_ble_eq_true rfl) ?_
          refine smem [.box a0, .box [.raw (.slice none 0 0), .raw (.slice none 0 0), .i .i64 0], .box [.sl a0.Keys.length (a0.Keys.flatMap (eL eU8)), .ls 3 s2.2.length, .i .i64 a0.Ts], .arr 79 1 0 (s2.2.flatMap eGR07Chain), .box [.ls 5 s5.2.length], .arr 84 3 0 (s5.2.flatMap eGR07Ver), .box u8] rfl ?_
          refine snil ?_
          refine cregion ?_
          refine sv rfl (opv_fieldAddr_lp fi79_0 rfl) ?_
          refine sv rfl (opv_load1 ti77 rfl (.lp _ _ _ rfl) rfl) ?_
          refine sv rfl (opv_fieldAddr_lp fi85_0 rfl) ?_
          refine sv rfl (opv_load1 ti3 rfl (.lp _ _ _ rfl) rfl) ?_
          refine sv rfl (opv_fieldAddr_lp fi85_1 rfl) ?_
          refine sv rfl (opv_load1 ti26 rfl (.lp _ _ _ rfl) rfl) ?_
          refine sv rfl (opv_fieldAddr_lp fi85_2 rfl) ?_
          refine sv rfl (opv_load1 ti4 rfl (.lp _ _ _ rfl) rfl) ?_
          refine sv rfl (opv_build zi84 pi84 (parts_cons rfl (parts_cons rfl (parts_cons rfl parts_nil))) (.cons _ _ _ _ _ _ _ rfl rfl (Nat.le_of_ble_eq_true rfl) (.cons _ _ _ _ _ _ _ rfl rfl (Nat.le_of_ble_eq_true rfl) (.cons _ _ _ _ _ _ _ rfl rfl (Nat.le_of_ble_eq_true rfl) (.nil _))))) ?_
          refine sbuild1 rfl Try.underlying77 ei84 rfl rfl (List.all_eq_true.1 rfl) (by decide) ?_
          refine smem [.box a0, .box [.raw (.slice none 0 0), .raw (.slice none 0 0), .i .i64 0], .box [.sl a0.Keys.length (a0.Keys.flatMap (eL eU8)), .ls 3 s2.2.length, .i .i64 a0.Ts], .arr 79 1 0 (s2.2.flatMap eGR07Chain), .box [.ls 5 s5.2.length], .arr 84 3 0 (s5.2.flatMap eGR07Ver), .box u8, .arr 84 3 0 ([(GR07Ver.mk u8.Ts u8.Val u8.Del)].flatMap eGR07Ver)] rfl ?_
          obtain ⟨hb9, h⟩ := chk_eq h
          refine sapp (f := eGR07Ver) (xs := s5.2) (us := [(GR07Ver.mk u8.Ts u8.Val u8.Del)]) rfl Try.underlying77 ei84 ni77 (fun _ => rfl) rfl rfl (.one _ _ _ _ (.ls _ _ _ _ _ _ rfl (flat_len (f := eGR07Ver) (fun _ => rfl) [(GR07Ver.mk u8.Ts u8.Val u8.Del)]).symm)) rfl rfl rfl (.sl _ _ _ (flat_len (f := eGR07Ver) (fun _ => rfl) _)) rfl rfl hb9 (by decide) ?_
          refine sv rfl (opv_fieldAddr_lp fi79_0 rfl) ?_
          refine sstore sz77 rfl rfl rfl rfl (Nat.le_of_ble_eq_true rfl) ?_
          refine smem [.box a0, .box [.raw (.slice none 0 0), .raw (.slice none 0 0), .i .i64 0], .box [.sl a0.Keys.length (a0.Keys.flatMap (eL eU8)), .ls 3 s2.2.length, .i .i64 a0.Ts], .arr 79 1 0 (s2.2.flatMap eGR07Chain), .box [.ls 5 (s5.2 ++ [(GR07Ver.mk u8.Ts u8.Val u8.Del)]).length], .arr 84 3 0 ((s5.2 ++ [(GR07Ver.mk u8.Ts u8.Val u8.Del)]).flatMap eGR07Ver), .box u8, .arr 84 3 ([(GR07Ver.mk u8.Ts u8.Val u8.Del)].flatMap eGR07Ver).length ([(GR07Ver.mk u8.Ts u8.Val u8.Del)].flatMap eGR07Ver)] rfl ?_
          refine snil0 ?_
          refine block_normal ?_
          refine then_normal ?_
          refine cregion ?_
          refine sv rfl (opv_mv rfl) ?_
          refine sv rfl (opv_add rfl rfl) ?_
          refine sv rfl (opv_as rfl) ?_
          refine snil ?_
          obtain rfl := Option.some.inj h
          exact ⟨(n5, ((wI (s5.1 + 1)), (s5.2 ++ [(GR07Ver.mk u8.Ts u8.Val u8.Del)]))), _, hk5, ⟨rfl, rfl, rfl, rfl, rfl, rfl, trivial⟩, rfl, Nat.lt_succ_self _⟩
        · replace h := ite_f hc h
          clear hc
          refine cexit ?_
          refine then_exit ?_
          refine then_exit ?_
          refine block_hit ?_
          refine then_normal ?_
          obtain rfl := Option.some.inj h
          obtain rfl : _ = x5 := hk5
          exact ⟨s5.2, _, ho5, ⟨rfl, rfl, rfl, rfl, rfl, trivial⟩, rfl⟩
    · replace h := ite_f hc h
      clear hc
      refine cexit ?_
      refine then_exit ?_
      refine then_exit ?_
      refine block_hit ?_
      refine then_normal ?_
      obtain rfl := Option.some.inj h
      obtain rfl : _ = x2 := hk2
      exact ⟨s2.2, _, ho2, ⟨rfl, rfl, trivial⟩, rfl⟩

def m70_r07_One (a0 : GR07Ver) (a1 : GR07Ver) : Option Bool :=
  if (decide (a0.Ts = a1.Ts)) then (if (a0.Del == a1.Del) then (some (a0.Val == a1.Val)) else (some false)) else (some false)

set_option maxRecDepth 100000 in
theorem m70_r07_One_c {a0 : GR07Ver} {a1 : GR07Ver} {r : Bool} (h : m70_r07_One a0 a1 = some r) : CallsA Try.prog 70 [.agg a0, .agg a1] (· = .s (.one (.b r))) := by
  unfold m70_r07_One at h
  refine callsA_of Try.func70 rfl (nt := 26) rfl (Nat.le_of_ble_eq_true rfl) ?_
  intro w0 S0
  refine cseq ?_
  refine cregion ?_
  refine sbox rfl rfl ?_
  refine sbox rfl rfl ?_
  refine sv rfl (opv_as rfl) ?_
  refine snil ?_
  refine cseq ?_
  refine cregion ?_
  refine sv rfl (opv_fieldAddr_lp fi84_0 rfl) ?_
  refine sv rfl (opv_load1 ti3 rfl (.lp _ _ _ rfl) rfl) ?_
  refine sv rfl (opv_fieldAddr_lp fi84_0 rfl) ?_
  refine sv rfl (opv_load1 ti3 rfl (.lp _ _ _ rfl) rfl) ?_
  refine sv rfl (opv_ieql rfl rfl) ?_
  refine sv rfl (opv_mv rfl) ?_
  refine ssplit 10 rfl (fun hc => ?_) (fun hc => ?_)
  · replace h := ite_t hc h
    clear hc
    refine son rfl rfl rfl ?_
    refine sv rfl (opv_fieldAddr_lp fi84_2 rfl) ?_
    refine son rfl rfl rfl ?_
    refine sv rfl (opv_load1 ti4 rfl (.lp _ _ _ rfl) rfl) ?_
    refine son rfl rfl rfl ?_
    refine sv rfl (opv_fieldAddr_lp fi84_2 rfl) ?_
    refine son rfl rfl rfl ?_
    refine sv rfl (opv_load1 ti4 rfl (.lp _ _ _ rfl) rfl) ?_
    refine son rfl rfl rfl ?_
    refine sv rfl (opv_beql Try.underlying4 rfl rfl) ?_
    refine sv rfl (opv_pick_t rfl rfl) ?_
    refine sv rfl (opv_mv rfl) ?_
    refine ssplit 17 rfl (fun hc => ?_) (fun hc => ?_)
    · replace h := ite_t hc h
      clear hc
      refine son rfl rfl rfl ?_
      refine sv rfl (opv_fieldAddr_lp fi84_1 rfl) ?_
      refine son rfl rfl rfl ?_
      refine sv rfl (opv_load1 ti26 rfl (.lp _ _ _ rfl) rfl) ?_
      refine son rfl rfl rfl ?_
      refine sv rfl (opv_bs (l := a0.Val) Try.underlying26 Try.underlying5 Try.underlying9 rfl rfl rfl) ?_
      refine son rfl rfl rfl ?_
      refine sv rfl (opv_fieldAddr_lp fi84_1 rfl) ?_
      refine son rfl rfl rfl ?_
      refine sv rfl (opv_load1 ti26 rfl (.lp _ _ _ rfl) rfl) ?_
      refine son rfl rfl rfl ?_
      refine sv rfl (opv_bs (l := a1.Val) Try.underlying26 Try.underlying5 Try.underlying9 rfl rfl rfl) ?_
      refine son rfl rfl rfl ?_
      refine sv rfl (opv_seql' rfl rfl) ?_
      refine sv rfl (opv_pick_t rfl rfl) ?_
      refine sv rfl (opv_as rfl) ?_
      refine snil ?_
      refine cret ?_
      obtain rfl := Option.some.inj h
      refine ⟨Or.inr rfl, _, _, _, (resVs_cons (ResV.tmp _ _ rfl) resVs_nil), (pubA_id rfl), ?_⟩
      rfl
    · replace h := ite_f hc h
      clear hc
      refine soff rfl rfl rfl rfl ?_
      refine soff rfl rfl rfl rfl ?_
      refine soff rfl rfl rfl rfl ?_
      refine soff rfl rfl rfl rfl ?_
      refine soff rfl rfl rfl rfl ?_
      refine soff rfl rfl rfl rfl ?_
      refine soff rfl rfl rfl rfl ?_
      refine sv rfl (opv_pick_f rfl rfl) ?_
      refine sv rfl (opv_as rfl) ?_
      refine snil ?_
      refine cret ?_
      obtain rfl := Option.some.inj h
      refine ⟨Or.inr rfl, _, _, _, (resVs_cons (ResV.tmp _ _ rfl) resVs_nil), (pubA_id rfl), ?_⟩
      rfl
  · replace h := ite_f hc h
    clear hc
    refine soff rfl rfl rfl rfl ?_
    refine soff rfl rfl rfl rfl ?_
    refine soff rfl rfl rfl rfl ?_
    refine soff rfl rfl rfl rfl ?_
    refine soff rfl rfl rfl rfl ?_
    refine sv rfl (opv_pick_f rfl rfl) ?_
    refine sv rfl (opv_mv rfl) ?_
    refine soff rfl rfl rfl rfl ?_
    refine soff rfl rfl rfl rfl ?_
    refine soff rfl rfl rfl rfl ?_
    refine soff rfl rfl rfl rfl ?_
    refine soff rfl rfl rfl rfl ?_
    refine soff rfl rfl rfl rfl ?_
    refine soff rfl rfl rfl rfl ?_
    refine sv rfl (opv_pick_f rfl rfl) ?_
    refine sv rfl (opv_as rfl) ?_
    refine snil ?_
    refine cret ?_
    obtain rfl := Option.some.inj h
    refine ⟨Or.inr rfl, _, _, _, (resVs_cons (ResV.tmp _ _ rfl) resVs_nil), (pubA_id rfl), ?_⟩
    rfl

def m49_r07_Same_k1 (b1 : Unit) : Option Bool :=
  some true

def m49_r07_Same_s2 (a0 : List GR07Ver) (a1 : List GR07Ver) (s2 : Int) : Option (LR (Int) (Unit) (Bool)) :=
  if (decide (s2 < (a0.length : Int))) then ((idx a0 s2).bind fun u3 => (idx a1 s2).bind fun u4 => (m70_r07_One u3 u4).bind fun v5 => if (!v5) then (some (.ret false)) else (some (.cont (wI (s2 + 1))))) else (some (.brk ()))
end Go.Proofs.Ytbojepclnfnmcaa.Abs
