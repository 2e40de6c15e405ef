/-
  t
-/
import Derived.Test.YtbojepclnfnmcaaT08a
namespace Go.Proofs.Ytbojepclnfnmcaa.Abs
open Go.RowKit Go.Proofs
def m21_store_Scan (a0 : GStoreStore) (a1 : GApiRange) (a2 : Int) (a3 : Int) : Option (List GApiKV) :=
  (m23_store_Sane a0).bind fun v1 => if (!v1) then (some ([] : List GApiKV)) else ((iterB (m21_store_Scan_s3 a0 a1 a2 a3) fuel (0, ([] : List GApiKV))).bind fun e9 => m21_store_Scan_k2 e9)

set_option maxRecDepth 100000 in
theorem m21_store_Scan_c {a0 : GStoreStore} {a1 : GApiRange} {a2 : Int} {a3 : Int} {r : (List GApiKV)} (h : m21_store_Scan a0 a1 a2 a3 = some r) : CallsA Try.prog 21 [.agg a0, .agg a1, .one (.i .i64 a2), .one (.i .i64 a3)] (· = .s (.one (.sl r.length (r.flatMap eGApiKV)))) := by
  unfold m21_store_Scan at h
  refine callsA_of Try.func21 rfl (nt := 54) rfl (Nat.le_of_ble_eq_true rfl) ?_
  intro w0 S0
  refine cseq ?_
  refine cregion ?_
  refine sbox rfl rfl ?_
  refine sbox rfl rfl ?_
  refine sv rfl (opv_as rfl) ?_
  refine snil ?_
  refine cscope (fun _ _ h => by rcases h with ⟨h | h, _⟩ <;> cases h) ?_
  refine cseq ?_
  refine cseq ?_
  refine cregion ?_
  refine sv rfl (opv_loadN ti36 rfl (.lp _ _ _ rfl) (Nat.le_of_ble_eq_true rfl)) ?_
  obtain ⟨v1, hv1, h⟩ := bind_eq h
  refine scall1 rfl fn23 (opnds_cons rfl opnds_nil) (pubA_id rfl) (m23_store_Sane_c hv1) ?_
  refine sv rfl (opv_not rfl) ?_
  refine snil ?_
  refine ccond rfl (fun hc => ?_) (fun hc => ?_)
  · replace h := ite_t hc h
    clear hc
    refine cseq ?_
    refine cregion ?_
    refine sv rfl (opv_as rfl) ?_
    refine snil ?_
    refine cret ?_
    refine then_ret ?_
    obtain rfl := Option.some.inj h
    refine ⟨Or.inr rfl, _, _, _, (resVs_cons (ResV.tmp _ _ rfl) resVs_nil), (pubC rfl), ?_⟩
    rfl
  · replace h := ite_f hc h
    clear hc
    refine cskip ?_
    refine then_normal ?_
    refine cseq ?_
    refine cregion ?_
    refine sv rfl (opv_as rfl) ?_
    refine snil ?_
    refine cseq ?_
    refine clabel ?_
    refine then_normal ?_
    refine cseq ?_
    refine cseq ?_
    refine cregion ?_
    refine sv rfl (opv_fieldAddr_lp fi36_0 rfl) ?_
    refine sv rfl (opv_load1 ti22 rfl (.lp _ _ _ rfl) rfl) ?_
    refine sv rfl (opv_len_sl si22 rfl) ?_
    refine sv rfl (opv_mv rfl) ?_
    refine snil ?_
    refine sadopt_c 71 2 9 (by decide) rfl ?_
    refine cjoin ((List GApiKV)) (fun b2 => [(9, .s (.one (.ls 2 b2.length)))]) (fun b2 => [.box a0, .box a1, .arr 71 2 0 (b2.flatMap eGApiKV)]) (fun b2 => m21_store_Scan_k2 b2 = some r) (fun _ _ => inbL_of rfl) (fun _ _ => blkinb_of rfl) (fun _ _ => Nat.le_of_ble_eq_true rfl) (fun b2 h => ?_) ?_
    · unfold m21_store_Scan_k2 at h
      refine cseq ?_
      refine cregion ?_
      refine sv rfl (opv_mv rfl) ?_
      refine sv rfl (opv_as rfl) ?_
      refine snil ?_
      refine cret ?_
      obtain rfl := Option.some.inj h
      refine ⟨Or.inr rfl, _, _, _, (resVs_cons (ResV.tmp _ _ rfl) resVs_nil), (by (repeat' first | exact PubA.nil _ | apply PubA.cons | apply PubV.one | apply PubV.agg | exact PubL.nil | exact PubL.ls _ _ _ _ _ _ rfl (flat_len (f := eGApiKV) (fun _ => rfl) _).symm | exact PubL.id _ rfl | exact PubLs.nil _ | apply PubLs.cons)), ?_⟩
      rfl
    · skip
      refine cblock ?_
      obtain ⟨x3, hx3, ho3⟩ := bind_eq h
      refine awc_loop (G := Nat × (Int × (List GApiKV))) (fun g => [(2, .s (.one (.i .i64 a2))), (3, .s (.one (.i .i64 a3))), (4, .s (.one (.lp 0 0))), (5, .s (.one (.lp 1 0))), (9, .s (.one (.ls 2 g.2.2.length))), (18, .s (.one (.sl a0.Keys.length (a0.Keys.flatMap (eL eU8))))), (19, .s (.one (.i .i64 (a0.Keys.length : Int)))), (20, .s (.one (.i .i64 g.2.1)))]) (fun g => [.box a0, .box a1, .arr 71 2 0 (g.2.2.flatMap eGApiKV)]) (fun g => iterB (m21_store_Scan_s3 a0 a1 a2 a3) g.1 g.2 = some x3) (fun g => g.1) (fuel, (0, ([] : List GApiKV))) hx3 ⟨rfl, rfl, rfl, rfl, rfl, rfl, rfl, rfl, trivial⟩ [] rfl (fun _ _ => inbL_of rfl) (fun _ _ => blkinb_of rfl) (fun _ _ => Nat.le_of_ble_eq_true rfl) ?_
      clear hx3 h
      rintro ⟨n3, s3⟩ h
      obtain ⟨n3, y3, rfl, h, hk3⟩ := iterB_eq h
      unfold m21_store_Scan_s3 at h
      refine cseq ?_
      refine cregion ?_
      refine sv rfl (opv_lss rfl rfl) ?_
      refine snil ?_
      refine cseq ?_
      refine ccond rfl (fun hc => ?_) (fun hc => ?_)
      · replace h := ite_t hc h
        clear hc
        refine cskip ?_
        refine then_normal ?_
        refine cseq ?_
        refine cblock ?_
        refine cseq ?_
        refine cregion ?_
        refine sv rfl (opv_mv rfl) ?_
        obtain ⟨u4, hu4, h⟩ := bind_eq h
        refine sv rfl (opv_ix (f := (eL eU8)) si22 (fun _ => rfl) rfl rfl rfl rfl hu4) ?_
        refine sv rfl (opv_load1 ti26 rfl (.cp _) rfl) ?_
        refine sv rfl (opv_as rfl) ?_
        refine sv rfl (opv_as rfl) ?_
        refine snil ?_
        refine cseq ?_
        refine cblock ?_
        refine cseq ?_
        refine cregion ?_
        refine sv rfl (opv_mv rfl) ?_
        refine sv rfl (opv_len_ls si49 rfl rfl (flat_len (f := eGApiKV) (fun _ => rfl) _).symm) ?_
        refine sv rfl (opv_mv rfl) ?_
        refine sv rfl (opv_geq rfl rfl) ?_
        refine sv rfl (opv_as rfl) ?_
        refine snil ?_
        refine ccond rfl (fun hc => ?_) (fun hc => ?_)
        · replace h := ite_t hc h
          clear hc
          refine cexit ?_
          refine block_miss rfl ?_
          refine then_exit ?_
          refine block_miss rfl ?_
          refine then_exit ?_
          refine then_exit ?_
          refine block_hit ?_
          refine then_normal ?_
          obtain rfl := Option.some.inj h
          obtain rfl : _ = x3 := hk3
          exact ⟨s3.2, _, ho3, ⟨rfl, trivial⟩, rfl⟩
        · replace h := ite_f hc h
          clear hc
          refine cseq ?_
          refine cregion ?_
          refine sv rfl (opv_loadN ti28 rfl (.lp _ _ _ rfl) (Nat.le_of_ble_eq_true rfl)) ?_
          refine sv rfl (opv_mv rfl) ?_
          obtain ⟨v5, hv5, h⟩ := bind_eq h
          refine scall1 rfl fn50 (opnds_cons rfl (opnds_cons rfl opnds_nil)) (pubA_id rfl) (m50_keys_Has_c hv5) ?_
          refine sv rfl (opv_not rfl) ?_
          refine sv rfl (opv_as rfl) ?_
          refine snil ?_
          refine ccond rfl (fun hc => ?_) (fun hc => ?_)
          · replace h := ite_t hc h
            clear hc
            refine cexit ?_
            refine block_miss rfl ?_
            refine then_exit ?_
            refine block_hit ?_
            refine then_normal ?_
            refine cregion ?_
            refine sv rfl (opv_add rfl rfl) ?_
            refine sv rfl (opv_mv rfl) ?_
            refine snil ?_
            obtain rfl := Option.some.inj h
            exact ⟨(n3, ((wI (s3.1 + 1)), s3.2)), _, hk3, ⟨rfl, rfl, rfl, rfl, rfl, rfl, rfl, rfl, trivial⟩, rfl, Nat.lt_succ_self _⟩
          · replace h := ite_f hc h
            clear hc
            refine cskip ?_
            refine block_normal ?_
            refine then_normal ?_
            refine cseq ?_
            refine cregion ?_
            refine sv rfl (opv_fieldAddr_lp fi36_1 rfl) ?_
            refine sv rfl (opv_load1 ti34 rfl (.lp _ _ _ rfl) rfl) ?_
            refine sv rfl (opv_mv rfl) ?_
            obtain ⟨u6, hu6, h⟩ := bind_eq h
            refine sv rfl (opv_ix (f := eGChainChain) si34 (fun _ => rfl) rfl rfl rfl rfl hu6) ?_
            refine sv rfl (opv_loadNe (ys := [.sl u6.L.length (u6.L.flatMap eGChainVer)]) ti82 rfl (.cp _) rfl rfl) ?_
            refine sv rfl (opv_mv rfl) ?_
            obtain ⟨v7, hv7, h⟩ := bind_eq h
            refine scall1 rfl fn39 (opnds_cons rfl (opnds_cons rfl opnds_nil)) (pubA_id rfl) (m39_chain_Value_c hv7) ?_
            refine sv rfl (opv_mvt rfl) ?_
            refine sv rfl (opv_extract rfl rfl) ?_
            refine sv rfl (opv_extract rfl rfl) ?_
            refine sv rfl (opv_as rfl) ?_
            refine sv rfl (opv_as rfl) ?_
            refine snil ?_
            refine cseq ?_
            refine cregion ?_
            refine sv rfl (opv_mv rfl) ?_
            refine snil ?_
            refine ccond rfl (fun hc => ?_) (fun hc => ?_)
            · replace h := ite_t hc h
              clear hc
              refine cregion ?_
              refine sv rfl (opv_mv rfl) ?_
              refine sv rfl (opv_mv rfl) ?_
              refine sv rfl (opv_mv rfl) ?_
              refine sv rfl (opv_build zi71 pi71 (parts_cons rfl (parts_cons rfl parts_nil)) (.cons _ _ _ _ _ _ _ rfl rfl (Nat.le_of_ble_eq_true rfl) (.cons _ _ _ _ _ _ _ rfl rfl (Nat.le_of_ble_eq_true rfl) (.nil _)))) ?_
              refine sbuild1 rfl Try.underlying49 ei71 rfl rfl (List.all_eq_true.1 rfl) (by decide) ?_
              refine smem [.box a0, .box a1, .arr 71 2 0 (s3.2.flatMap eGApiKV), .arr 71 2 0 ([(GApiKV.mk u4 v7.1)].flatMap eGApiKV)] rfl ?_
              obtain ⟨hb8, h⟩ := chk_eq h
              refine sapp (f := eGApiKV) (xs := s3.2) (us := [(GApiKV.mk u4 v7.1)]) rfl Try.underlying49 ei71 ni49 (fun _ => rfl) rfl rfl (.one _ _ _ _ (.ls _ _ _ _ _ _ rfl (flat_len (f := eGApiKV) (fun _ => rfl) [(GApiKV.mk u4 v7.1)]).symm)) rfl rfl rfl (.sl _ _ _ (flat_len (f := eGApiKV) (fun _ => rfl) _)) rfl rfl hb8 (by decide) ?_
              refine sv rfl (opv_as rfl) ?_
              refine snil0 ?_
              refine block_normal ?_
              refine then_normal ?_
              refine cregion ?_
              refine sv rfl (opv_add rfl rfl) ?_
              refine sv rfl (opv_mv rfl) ?_
              refine snil ?_
              obtain rfl := Option.some.inj h
              exact ⟨(n3, ((wI (s3.1 + 1)), (s3.2 ++ [(GApiKV.mk u4 v7.1)]))), _, hk3, ⟨rfl, rfl, rfl, rfl, rfl, rfl, rfl, rfl, trivial⟩, rfl, Nat.lt_succ_self _⟩
            · replace h := ite_f hc h
              clear hc
              refine cskip ?_
              refine block_normal ?_
              refine then_normal ?_
              refine cregion ?_
              refine sv rfl (opv_add rfl rfl) ?_
              refine sv rfl (opv_mv rfl) ?_
              refine snil ?_
              obtain rfl := Option.some.inj h
              exact ⟨(n3, ((wI (s3.1 + 1)), s3.2)), _, hk3, ⟨rfl, rfl, rfl, rfl, rfl, rfl, rfl, rfl, trivial⟩, rfl, Nat.lt_succ_self _⟩
      · replace h := ite_f hc h
        clear hc
        refine cexit ?_
        refine then_exit ?_
        refine then_exit ?_
        refine block_hit ?_
        refine then_normal ?_
        obtain rfl := Option.some.inj h
        obtain rfl : _ = x3 := hk3
        exact ⟨s3.2, _, ho3, ⟨rfl, trivial⟩, rfl⟩

def m32_store_Latest (a0 : GStoreStore) : Option (List GApiKV) :=
  (m21_store_Scan (GStoreStore.mk a0.Keys a0.Chains a0.Ts) (GApiRange.mk ([] : List UInt8) ([] : List UInt8) true) a0.Ts (a0.Keys.length : Int)).bind fun v1 => some v1

set_option maxRecDepth 100000 in
theorem m32_store_Latest_c {a0 : GStoreStore} {r : (List GApiKV)} (h : m32_store_Latest a0 = some r) : CallsA Try.prog 32 [.agg a0] (· = .s (.one (.sl r.length (r.flatMap eGApiKV)))) := by
  unfold m32_store_Latest at h
  refine callsA_of Try.func32 rfl (nt := 11) rfl (Nat.le_of_ble_eq_true rfl) ?_
  intro w0 S0
  refine cseq ?_
  refine cregion ?_
  refine sbox rfl rfl ?_
  refine sv rfl (opv_as rfl) ?_
  refine snil ?_
  refine cseq ?_
  refine cregion ?_
  refine sv rfl (opv_loadN ti36 rfl (.lp _ _ _ rfl) (Nat.le_of_ble_eq_true rfl)) ?_
  refine sv rfl (opv_build zi28 pi28 (parts_cons rfl parts_nil) (.cons _ _ _ _ _ _ _ rfl rfl (Nat.le_of_ble_eq_true rfl) (.nil _))) ?_
  refine sv rfl (opv_fieldAddr_lp fi36_2 rfl) ?_
  refine sv rfl (opv_load1 ti3 rfl (.lp _ _ _ rfl) rfl) ?_
  refine sv rfl (opv_fieldAddr_lp fi36_0 rfl) ?_
  refine sv rfl (opv_load1 ti22 rfl (.lp _ _ _ rfl) rfl) ?_
  refine sv rfl (opv_len_sl si22 rfl) ?_
  obtain ⟨v1, hv1, h⟩ := bind_eq h
  refine scall1 rfl fn21 (opnds_cons rfl (opnds_cons rfl (opnds_cons rfl (opnds_cons rfl opnds_nil)))) (pubC rfl) (m21_store_Scan_c hv1) ?_
  refine sv rfl (opv_as rfl) ?_
  refine snil ?_
  refine cret ?_
  obtain rfl := Option.some.inj h
  refine ⟨Or.inr rfl, _, _, _, (resVs_cons (ResV.tmp _ _ rfl) resVs_nil), (pubA_id rfl), ?_⟩
  rfl

def m9_l08_awake  : Option Bool :=
  (m16_store_Install (GStoreStore.mk ([] : List (List UInt8)) ([] : List GChainChain) 0) 3 [(GApiWrite.mk [(UInt8.ofBitVec (97#8))] [(UInt8.ofBitVec (118#8))] false)]).bind fun v1 => (m14_store_Get (GStoreStore.mk v1.1.Keys v1.1.Chains v1.1.Ts) [(UInt8.ofBitVec (97#8))] 2).bind fun v2 => (m14_store_Get (GStoreStore.mk v1.1.Keys v1.1.Chains v1.1.Ts) [(UInt8.ofBitVec (97#8))] 3).bind fun v3 => if (decide (v1.2 = 0)) then (if (!v2.2) then (if v3.2 then (if (v3.1 == ([118] : List UInt8)) then (if (decide (v1.1.Ts = 3)) then ((m32_store_Latest (GStoreStore.mk v1.1.Keys v1.1.Chains v1.1.Ts)).bind fun v4 => some (decide ((v4.length : Int) = 1))) else (some false)) else (some false)) else (some false)) else (some false)) else (some false)

set_option maxRecDepth 100000 in
theorem m9_l08_awake_c  {r : Bool} (h : m9_l08_awake = some r) : CallsA Try.prog 9 [] (· = .s (.one (.b r))) := by
  unfold m9_l08_awake at h
  refine callsA_of Try.func9 rfl (nt := 57) rfl (Nat.le_of_ble_eq_true rfl) ?_
  intro w0 S0
  refine cseq ?_
  refine cregion ?_
  refine sv rfl (opv_as rfl) ?_
  refine snil ?_
  refine cseq ?_
  refine cregion ?_
  refine sv rfl (opv_build zi36 pi36 parts_nil (.nil _)) ?_
  refine sbuild1 rfl Try.underlying26 ei5 rfl rfl (List.all_eq_true.1 rfl) (by decide) ?_
  refine smem [.arr 5 1 0 ([(UInt8.ofBitVec (97#8))].flatMap eU8)] rfl ?_
  refine sconv_id rfl Try.underlying26 Try.underlying5 rfl rfl (flat_len (f := eU8) (fun _ => rfl) [(UInt8.ofBitVec (97#8))]).symm (by decide) ?_
  refine sbuild1 rfl Try.underlying26 ei5 rfl rfl (List.all_eq_true.1 rfl) (by decide) ?_
  refine smem [.dead, .arr 5 1 0 ([(UInt8.ofBitVec (118#8))].flatMap eU8)] rfl ?_
  refine sconv_id rfl Try.underlying26 Try.underlying5 rfl rfl (flat_len (f := eU8) (fun _ => rfl) [(UInt8.ofBitVec (118#8))]).symm (by decide) ?_
  refine sv rfl (opv_build zi67 pi67 (parts_cons rfl (parts_cons rfl parts_nil)) (.cons _ _ _ _ _ _ _ rfl rfl (Nat.le_of_ble_eq_true rfl) (.cons _ _ _ _ _ _ _ rfl rfl (Nat.le_of_ble_eq_true rfl) (.nil _)))) ?_
  refine sbuild1 rfl Try.underlying29 ei67 rfl rfl (List.all_eq_true.1 rfl) (by decide) ?_
  refine smem [.dead, .dead, .arr 67 3 0 ([(GApiWrite.mk [(UInt8.ofBitVec (97#8))] [(UInt8.ofBitVec (118#8))] false)].flatMap eGApiWrite)] rfl ?_
  refine spub 14 rfl (by (repeat' first | exact PubA.nil _ | apply PubA.cons | apply PubV.one | apply PubV.agg | exact PubL.nil | exact PubL.ls _ _ _ _ _ _ rfl (flat_len (f := eGApiWrite) (fun _ => rfl) ([(GApiWrite.mk [(UInt8.ofBitVec (97#8))] [(UInt8.ofBitVec (118#8))] false)] : List GApiWrite)).symm | exact PubL.ls _ _ _ _ _ _ rfl (flat_len (f := eGApiWrite) (fun _ => rfl) _).symm | exact PubL.id _ rfl | exact PubLs.nil _ | apply PubLs.cons)) ?_
  obtain ⟨v1, hv1, h⟩ := bind_eq h
  refine scall1 rfl fn16 (opnds_cons rfl (opnds_cons rfl (opnds_cons rfl opnds_nil))) (pubC rfl) (m16_store_Install_c hv1) ?_
  refine sv rfl (opv_mvt rfl) ?_
  refine sv rfl (opv_extract rfl rfl) ?_
  refine sv rfl (opv_extract rfl rfl) ?_
  refine salloc rfl zi36 ?_
  refine sstore sz36 rfl rfl rfl rfl (Nat.le_of_ble_eq_true rfl) ?_
  refine smem [.dead, .dead, .arr 67 3 ([(GApiWrite.mk [(UInt8.ofBitVec (97#8))] [(UInt8.ofBitVec (118#8))] false)].flatMap eGApiWrite).length ([(GApiWrite.mk [(UInt8.ofBitVec (97#8))] [(UInt8.ofBitVec (118#8))] false)].flatMap eGApiWrite), .box v1.1] rfl ?_
  refine sv rfl (opv_as rfl) ?_
  refine snil ?_
  refine cseq ?_
  refine cregion ?_
  refine sv rfl (opv_loadN ti36 rfl (.lp _ _ _ rfl) (Nat.le_of_ble_eq_true rfl)) ?_
  refine sbuild1 rfl Try.underlying26 ei5 rfl rfl (List.all_eq_true.1 rfl) (by decide) ?_
  refine smem [.dead, .dead, .arr 67 3 ([(GApiWrite.mk [(UInt8.ofBitVec (97#8))] [(UInt8.ofBitVec (118#8))] false)].flatMap eGApiWrite).length ([(GApiWrite.mk [(UInt8.ofBitVec (97#8))] [(UInt8.ofBitVec (118#8))] false)].flatMap eGApiWrite), .box v1.1, .arr 5 1 0 ([(UInt8.ofBitVec (97#8))].flatMap eU8)] rfl ?_
  refine sconv_id rfl Try.underlying26 Try.underlying5 rfl rfl (flat_len (f := eU8) (fun _ => rfl) [(UInt8.ofBitVec (97#8))]).symm (by decide) ?_
  obtain ⟨v2, hv2, h⟩ := bind_eq h
  refine scall1 rfl fn14 (opnds_cons rfl (opnds_cons rfl (opnds_cons rfl opnds_nil))) (pubA_id rfl) (m14_store_Get_c hv2) ?_
  refine sv rfl (opv_mvt rfl) ?_
  refine sv rfl (opv_extract rfl rfl) ?_
  refine sv rfl (opv_extract rfl rfl) ?_
  refine sv rfl (opv_as rfl) ?_
  refine sv rfl (opv_as rfl) ?_
  refine snil ?_
  refine cseq ?_
  refine cregion ?_
  refine sv rfl (opv_loadN ti36 rfl (.lp _ _ _ rfl) (Nat.le_of_ble_eq_true rfl)) ?_
  refine sbuild1 rfl Try.underlying26 ei5 rfl rfl (List.all_eq_true.1 rfl) (by decide) ?_
  refine smem [.dead, .dead, .arr 67 3 ([(GApiWrite.mk [(UInt8.ofBitVec (97#8))] [(UInt8.ofBitVec (118#8))] false)].flatMap eGApiWrite).length ([(GApiWrite.mk [(UInt8.ofBitVec (97#8))] [(UInt8.ofBitVec (118#8))] false)].flatMap eGApiWrite), .box v1.1, .dead, .arr 5 1 0 ([(UInt8.ofBitVec (97#8))].flatMap eU8)] rfl ?_
  refine sconv_id rfl Try.underlying26 Try.underlying5 rfl rfl (flat_len (f := eU8) (fun _ => rfl) [(UInt8.ofBitVec (97#8))]).symm (by decide) ?_
  obtain ⟨v3, hv3, h⟩ := bind_eq h
  refine scall1 rfl fn14 (opnds_cons rfl (opnds_cons rfl (opnds_cons rfl opnds_nil))) (pubA_id rfl) (m14_store_Get_c hv3) ?_
  refine sv rfl (opv_mvt rfl) ?_
  refine sv rfl (opv_extract rfl rfl) ?_
  refine sv rfl (opv_extract rfl rfl) ?_
  refine sv rfl (opv_as rfl) ?_
  refine sv rfl (opv_as rfl) ?_
  refine snil ?_
  refine cseq ?_
  refine cregion ?_
  refine sv rfl (opv_mv rfl) ?_
  refine sv rfl (opv_ieql rfl rfl) ?_
  refine sv rfl (opv_mv rfl) ?_
  refine ssplit 34 rfl (fun hc => ?_) (fun hc => ?_)
  · replace h := ite_t hc h
    clear hc
    refine son rfl rfl rfl ?_
    refine sv rfl (opv_mv rfl) ?_
    refine son rfl rfl rfl ?_
    refine sv rfl (opv_not rfl) ?_
    refine sv rfl (opv_pick_t rfl rfl) ?_
    refine sv rfl (opv_mv rfl) ?_
    refine ssplit 38 rfl (fun hc => ?_) (fun hc => ?_)
    · replace h := ite_t hc h
      clear hc
      refine son rfl rfl rfl ?_
      refine sv rfl (opv_mv rfl) ?_
      refine sv rfl (opv_pick_t rfl rfl) ?_
      refine sv rfl (opv_mv rfl) ?_
      refine ssplit 41 rfl (fun hc => ?_) (fun hc => ?_)
      · replace h := ite_t hc h
        clear hc
        refine son rfl rfl rfl ?_
        refine sv rfl (opv_mv rfl) ?_
        refine son rfl rfl rfl ?_
        refine sv rfl (opv_bs (l := v3.1) Try.underlying26 Try.underlying5 Try.underlying9 rfl rfl rfl) ?_
        refine son rfl rfl rfl ?_
        refine sv rfl (opv_seql' rfl rfl) ?_
        refine sv rfl (opv_pick_t rfl rfl) ?_
        refine sv rfl (opv_mv rfl) ?_
        refine ssplit 46 rfl (fun hc => ?_) (fun hc => ?_)
        · replace h := ite_t hc h
          clear hc
          refine son rfl rfl rfl ?_
          refine sv rfl (opv_fieldAddr_lp fi36_2 rfl) ?_
          refine son rfl rfl rfl ?_
          refine sv rfl (opv_load1 ti3 rfl (.lp _ _ _ rfl) rfl) ?_
          refine son rfl rfl rfl ?_
          refine sv rfl (opv_ieql rfl rfl) ?_
          refine sv rfl (opv_pick_t rfl rfl) ?_
          refine sv rfl (opv_mv rfl) ?_
          refine ssplit 51 rfl (fun hc => ?_) (fun hc => ?_)
          · replace h := ite_t hc h
            clear hc
            refine son rfl rfl rfl ?_
            refine sv rfl (opv_loadN ti36 rfl (.lp _ _ _ rfl) (Nat.le_of_ble_eq_true rfl)) ?_
            refine son rfl rfl rfl ?_
            obtain ⟨v4, hv4, h⟩ := bind_eq h
            refine scall1 rfl fn32 (opnds_cons rfl opnds_nil) (pubA_id rfl) (m32_store_Latest_c hv4) ?_
            refine son rfl rfl rfl ?_
            refine sv rfl (opv_len_sl si49 rfl) ?_
            refine son rfl rfl rfl ?_
            refine sv rfl (opv_ieql rfl rfl) ?_
            refine sv rfl (opv_pick_t rfl rfl) ?_
            refine sv rfl (opv_as rfl) ?_
            refine snil ?_
            refine cret ?_
            obtain rfl := Option.some.inj h
            refine ⟨Or.inr rfl, _, _, _, (resVs_cons (ResV.tmp _ _ rfl) resVs_nil), (pubA_id rfl), ?_⟩
            rfl
          · replace h := ite_f hc h
            clear hc
            refine soff rfl rfl rfl rfl ?_
            refine soff rfl rfl rfl rfl ?_
            refine soff rfl rfl rfl rfl ?_
            refine soff rfl rfl rfl rfl ?_
            refine sv rfl (opv_pick_f rfl rfl) ?_
            refine sv rfl (opv_as rfl) ?_
            refine snil ?_
            refine cret ?_
            obtain rfl := Option.some.inj h
            refine ⟨Or.inr rfl, _, _, _, (resVs_cons (ResV.tmp _ _ rfl) resVs_nil), (pubA_id rfl), ?_⟩
            rfl
        · replace h := ite_f hc h
          clear hc
          refine soff rfl rfl rfl rfl ?_
          refine soff rfl rfl rfl rfl ?_
          refine soff rfl rfl rfl rfl ?_
          refine sv rfl (opv_pick_f rfl rfl) ?_
          refine sv rfl (opv_mv rfl) ?_
          refine soff rfl rfl rfl rfl ?_
          refine soff rfl rfl rfl rfl ?_
          refine soff rfl rfl rfl rfl ?_
          refine soff rfl rfl rfl rfl ?_
          refine sv rfl (opv_pick_f rfl rfl) ?_
          refine sv rfl (opv_as rfl) ?_
          refine snil ?_
          refine cret ?_
          obtain rfl := Option.some.inj h
          refine ⟨Or.inr rfl, _, _, _, (resVs_cons (ResV.tmp _ _ rfl) resVs_nil), (pubA_id rfl), ?_⟩
          rfl
      · replace h := ite_f hc h
        clear hc
        refine soff rfl rfl rfl rfl ?_
        refine soff rfl rfl rfl rfl ?_
        refine soff rfl rfl rfl rfl ?_
        refine sv rfl (opv_pick_f rfl rfl) ?_
        refine sv rfl (opv_mv rfl) ?_
        refine soff rfl rfl rfl rfl ?_
        refine soff rfl rfl rfl rfl ?_
        refine soff rfl rfl rfl rfl ?_
        refine sv rfl (opv_pick_f rfl rfl) ?_
        refine sv rfl (opv_mv rfl) ?_
        refine soff rfl rfl rfl rfl ?_
        refine soff rfl rfl rfl rfl ?_
        refine soff rfl rfl rfl rfl ?_
        refine soff rfl rfl rfl rfl ?_
        refine sv rfl (opv_pick_f rfl rfl) ?_
        refine sv rfl (opv_as rfl) ?_
        refine snil ?_
        refine cret ?_
        obtain rfl := Option.some.inj h
        refine ⟨Or.inr rfl, _, _, _, (resVs_cons (ResV.tmp _ _ rfl) resVs_nil), (pubA_id rfl), ?_⟩
        rfl
    · replace h := ite_f hc h
      clear hc
      refine soff rfl rfl rfl rfl ?_
      refine sv rfl (opv_pick_f rfl rfl) ?_
      refine sv rfl (opv_mv rfl) ?_
      refine soff rfl rfl rfl rfl ?_
      refine soff rfl rfl rfl rfl ?_
      refine soff rfl rfl rfl rfl ?_
      refine sv rfl (opv_pick_f rfl rfl) ?_
      refine sv rfl (opv_mv rfl) ?_
      refine soff rfl rfl rfl rfl ?_
      refine soff rfl rfl rfl rfl ?_
      refine soff rfl rfl rfl rfl ?_
      refine sv rfl (opv_pick_f rfl rfl) ?_
      refine sv rfl (opv_mv rfl) ?_
      refine soff rfl rfl rfl rfl ?_
      refine soff rfl rfl rfl rfl ?_
      refine soff rfl rfl rfl rfl ?_
      refine soff rfl rfl rfl rfl ?_
      refine sv rfl (opv_pick_f rfl rfl) ?_
      refine sv rfl (opv_as rfl) ?_
      refine snil ?_
      refine cret ?_
      obtain rfl := Option.some.inj h
      refine ⟨Or.inr rfl, _, _, _, (resVs_cons (ResV.tmp _ _ rfl) resVs_nil), (pubA_id rfl), ?_⟩
      rfl
  · replace h := ite_f hc h
    clear hc
    refine soff rfl rfl rfl rfl ?_
    refine soff rfl rfl rfl rfl ?_
    refine sv rfl (opv_pick_f rfl rfl) ?_
    refine sv rfl (opv_mv rfl) ?_
    refine soff rfl rfl rfl rfl ?_
    refine sv rfl (opv_pick_f rfl rfl) ?_
    refine sv rfl (opv_mv rfl) ?_
    refine soff rfl rfl rfl rfl ?_
    refine soff rfl rfl rfl rfl ?_
    refine soff rfl rfl rfl rfl ?_
    refine sv rfl (opv_pick_f rfl rfl) ?_
    refine sv rfl (opv_mv rfl) ?_
    refine soff rfl rfl rfl rfl ?_
    refine soff rfl rfl rfl rfl ?_
    refine soff rfl rfl rfl rfl ?_
    refine sv rfl (opv_pick_f rfl rfl) ?_
    refine sv rfl (opv_mv rfl) ?_
    refine soff rfl rfl rfl rfl ?_
    refine soff rfl rfl rfl rfl ?_
    refine soff rfl rfl rfl rfl ?_
    refine soff rfl rfl rfl rfl ?_
    refine sv rfl (opv_pick_f rfl rfl) ?_
    refine sv rfl (opv_as rfl) ?_
    refine snil ?_
    refine cret ?_
    obtain rfl := Option.some.inj h
    refine ⟨Or.inr rfl, _, _, _, (resVs_cons (ResV.tmp _ _ rfl) resVs_nil), (pubA_id rfl), ?_⟩
    rfl

def m12_r08_FewWrites_k1 (b1 : Unit) : Option Bool :=
  some true

def m12_r08_FewWrites_s2 (a0 : List GApiWrite) (s2 : Int) : Option (LR (Int) (Unit) (Bool)) :=
  if (decide (s2 < (a0.length : Int))) then ((idx a0 s2).bind fun u3 => if (decide (50 < (u3.Key.length : Int))) then (some (.ret false)) else ((idx a0 s2).bind fun u4 => if (decide (100 < (u4.Val.length : Int))) then (some (.ret false)) else (some (.cont (wI (s2 + 1)))))) else (some (.brk ()))
def m12_r08_FewWrites (a0 : List GApiWrite) : Option Bool :=
  if (decide (140 < (a0.length : Int))) then (some false) else ((iter (m12_r08_FewWrites_s2 a0) fuel 0).bind fun x => match x with | .inl r => some r | .inr e5 => m12_r08_FewWrites_k1 e5)

set_option maxRecDepth 100000 in
theorem m12_r08_FewWrites_c {a0 : List GApiWrite} {r : Bool} (h : m12_r08_FewWrites a0 = some r) : CallsA Try.prog 12 [.one (.sl a0.length (a0.flatMap eGApiWrite))] (· = .s (.one (.b r))) := by
  unfold m12_r08_FewWrites at h
  refine callsA_of Try.func12 rfl (nt := 29) rfl (Nat.le_of_ble_eq_true rfl) ?_
  intro w0 S0
  refine cseq ?_
  refine cregion ?_
  refine sv rfl (opv_as rfl) ?_
  refine snil ?_
  refine cseq ?_
  refine cseq ?_
  refine cregion ?_
  refine sv rfl (opv_mv rfl) ?_
  refine sv rfl (opv_len_sl si29 rfl) ?_
  refine sv rfl (opv_gtr rfl rfl) ?_
  refine snil ?_
  refine ccond rfl (fun hc => ?_) (fun hc => ?_)
  · replace h := ite_t hc h
    clear hc
    refine cseq ?_
    refine cregion ?_
    refine sv rfl (opv_as rfl) ?_
    refine snil ?_
    refine cret ?_
    refine then_ret ?_
    obtain rfl := Option.some.inj h
    refine ⟨Or.inr rfl, _, _, _, (resVs_cons (ResV.tmp _ _ rfl) resVs_nil), (pubA_id rfl), ?_⟩
    rfl
  · replace h := ite_f hc h
    clear hc
    refine cskip ?_
    refine then_normal ?_
    refine cseq ?_
    refine cseq ?_
    refine cregion ?_
    refine sv rfl (opv_as rfl) ?_
    refine snil ?_
    refine cjoin (Unit) (fun b1 => []) (fun b1 => []) (fun b1 => m12_r08_FewWrites_k1 b1 = some r) (fun _ _ => inbL_of rfl) (fun _ _ => blkinb_of rfl) (fun _ _ => Nat.le_of_ble_eq_true rfl) (fun b1 h => ?_) ?_
    · unfold m12_r08_FewWrites_k1 at h
      refine cseq ?_
      refine cregion ?_
      refine sv rfl (opv_as rfl) ?_
      refine snil ?_
      refine cret ?_
      obtain rfl := Option.some.inj h
      refine ⟨Or.inr rfl, _, _, _, (resVs_cons (ResV.tmp _ _ rfl) resVs_nil), (pubA_id rfl), ?_⟩
      rfl
    · skip
      refine cblock ?_
      obtain ⟨x2, hx2, ho2⟩ := bind_eq h
      refine awc_loop (G := Nat × (Int)) (fun g => [(0, .s (.one (.sl a0.length (a0.flatMap eGApiWrite)))), (3, .s (.one (.i .i64 g.2)))]) (fun g => []) (fun g => iter (m12_r08_FewWrites_s2 a0) g.1 g.2 = some x2) (fun g => g.1) (fuel, 0) hx2 ⟨rfl, rfl, trivial⟩ [] rfl (fun _ _ => inbL_of rfl) (fun _ _ => blkinb_of rfl) (fun _ _ => Nat.le_of_ble_eq_true rfl) ?_
      clear hx2 h
      rintro ⟨n2, s2⟩ h
      obtain ⟨n2, y2, rfl, h, hk2⟩ := iter_eq h
      unfold m12_r08_FewWrites_s2 at h
      refine cseq ?_
      refine cseq ?_
      refine cregion ?_
      refine sv rfl (opv_mv rfl) ?_
      refine sv rfl (opv_mv rfl) ?_
      refine sv rfl (opv_len_sl si29 rfl) ?_
      refine sv rfl (opv_lss rfl rfl) ?_
      refine snil ?_
      refine ccond rfl (fun hc => ?_) (fun hc => ?_)
      · replace h := ite_t hc h
        clear hc
        refine cskip ?_
        refine then_normal ?_
        refine cseq ?_
        refine cblock ?_
        refine cseq ?_
        refine cregion ?_
        refine sv rfl (opv_mv rfl) ?_
        refine sv rfl (opv_mv rfl) ?_
        obtain ⟨u3, hu3, h⟩ := bind_eq h
        refine sv rfl (opv_ix (f := eGApiWrite) si29 (fun _ => rfl) rfl rfl rfl rfl hu3) ?_
        refine sv rfl (opv_fieldAddr_cp fi67_0 rfl) ?_
        refine sv rfl (opv_load1 ti26 rfl (.cp _) rfl) ?_
        refine sv rfl (opv_len_sl si26 rfl) ?_
        refine sv rfl (opv_gtr rfl rfl) ?_
        refine sv rfl (opv_mv rfl) ?_
        refine ssplit 20 rfl (fun hc => ?_) (fun hc => ?_)
        · replace h := ite_t hc h
          clear hc
          refine soff rfl rfl rfl rfl ?_
          refine soff rfl rfl rfl rfl ?_
          refine soff rfl rfl rfl rfl ?_
          refine soff rfl rfl rfl rfl ?_
          refine soff rfl rfl rfl rfl ?_
          refine soff rfl rfl rfl rfl ?_
          refine soff rfl rfl rfl rfl ?_
          refine sv rfl (opv_pick_t rfl rfl) ?_
          refine snil ?_
          refine ccond rfl (fun _ => ?_) (fun hx => Bool.noConfusion hx)
          refine cseq ?_
          refine cregion ?_
          refine sv rfl (opv_as rfl) ?_
          refine snil ?_
          refine cret ?_
          refine block_ret ?_
          refine then_ret ?_
          refine then_ret ?_
          refine block_ret ?_
          refine then_ret ?_
          obtain rfl := Option.some.inj h
          obtain rfl : Sum.inl _ = x2 := hk2
          replace ho2 : some _ = some _ := ho2
          obtain rfl := Option.some.inj ho2
          refine ⟨Or.inr rfl, _, _, _, (resVs_cons (ResV.tmp _ _ rfl) resVs_nil), (pubA_id rfl), ?_⟩
          rfl
        · replace h := ite_f hc h
          clear hc
          refine son rfl rfl rfl ?_
          refine sv rfl (opv_mv rfl) ?_
          refine son rfl rfl rfl ?_
          refine sv rfl (opv_mv rfl) ?_
          refine son rfl rfl rfl ?_
          obtain ⟨u4, hu4, h⟩ := bind_eq h
          refine sv rfl (opv_ix (f := eGApiWrite) si29 (fun _ => rfl) rfl rfl rfl rfl hu4) ?_
          refine son rfl rfl rfl ?_
          refine sv rfl (opv_fieldAddr_cp fi67_1 rfl) ?_
          refine son rfl rfl rfl ?_
          refine sv rfl (opv_load1 ti26 rfl (.cp _) rfl) ?_
          refine son rfl rfl rfl ?_
          refine sv rfl (opv_len_sl si26 rfl) ?_
          refine son rfl rfl rfl ?_
          refine sv rfl (opv_gtr rfl rfl) ?_
          refine sv rfl (opv_pick_f rfl rfl) ?_
          refine snil ?_
          refine ccond rfl (fun hc => ?_) (fun hc => ?_)
          · replace h := ite_t hc h
            clear hc
            refine cseq ?_
            refine cregion ?_
            refine sv rfl (opv_as rfl) ?_
            refine snil ?_
            refine cret ?_
            refine block_ret ?_
            refine then_ret ?_
            refine then_ret ?_
            refine block_ret ?_
            refine then_ret ?_
            obtain rfl := Option.some.inj h
            obtain rfl : Sum.inl _ = x2 := hk2
            replace ho2 : some _ = some _ := ho2
            obtain rfl := Option.some.inj ho2
            refine ⟨Or.inr rfl, _, _, _, (resVs_cons (ResV.tmp _ _ rfl) resVs_nil), (pubA_id rfl), ?_⟩
            rfl
          · replace h := ite_f hc h
            clear hc
            refine cskip ?_
            refine block_normal ?_
            refine then_normal ?_
            refine cregion ?_
            refine sv rfl (opv_mv rfl) ?_
            refine sv rfl (opv_add rfl rfl) ?_
            refine sv rfl (opv_as rfl) ?_
            refine snil ?_
            obtain rfl := Option.some.inj h
            exact ⟨(n2, (wI (s2 + 1))), _, hk2, ⟨rfl, rfl, trivial⟩, rfl, Nat.lt_succ_self _⟩
      · replace h := ite_f hc h
        clear hc
        refine cexit ?_
        refine then_exit ?_
        refine then_exit ?_
        refine block_hit ?_
        refine then_normal ?_
        obtain rfl := Option.some.inj h
        obtain rfl : _ = x2 := hk2
        exact ⟨(), _, ho2, trivial, rfl⟩

def m34_l08_few_k1 (b1 : Unit) : Option Bool :=
  some true

def m34_l08_few_s2 (a0 : List GL08Lot) (s2 : Int) : Option (LR (Int) (Unit) (Bool)) :=
  if (decide (s2 < (a0.length : Int))) then ((idx a0 s2).bind fun u3 => (m12_r08_FewWrites u3.L).bind fun v4 => if (!v4) then (some (.ret false)) else ((idx a0 s2).bind fun u5 => if (decide (20 < (u5.L.length : Int))) then (some (.ret false)) else (some (.cont (wI (s2 + 1)))))) else (some (.brk ()))
def m34_l08_few (a0 : List GL08Lot) : Option Bool :=
  if (decide (30 < (a0.length : Int))) then (some false) else ((iter (m34_l08_few_s2 a0) fuel 0).bind fun x => match x with | .inl r => some r | .inr e6 => m34_l08_few_k1 e6)

set_option maxRecDepth 100000 in
theorem m34_l08_few_c {a0 : List GL08Lot} {r : Bool} (h : m34_l08_few a0 = some r) : CallsA Try.prog 34 [.one (.sl a0.length (a0.flatMap eGL08Lot))] (· = .s (.one (.b r))) := by
  unfold m34_l08_few at h
  refine callsA_of Try.func34 rfl (nt := 29) rfl (Nat.le_of_ble_eq_true rfl) ?_
  intro w0 S0
  refine cseq ?_
  refine cregion ?_
  refine sv rfl (opv_as rfl) ?_
  refine snil ?_
  refine cseq ?_
  refine cseq ?_
  refine cregion ?_
  refine sv rfl (opv_mv rfl) ?_
  refine sv rfl (opv_len_sl si63 rfl) ?_
  refine sv rfl (opv_gtr rfl rfl) ?_
  refine snil ?_
  refine ccond rfl (fun hc => ?_) (fun hc => ?_)
  · replace h := ite_t hc h
    clear hc
    refine cseq ?_
    refine cregion ?_
    refine sv rfl (opv_as rfl) ?_
    refine snil ?_
    refine cret ?_
    refine then_ret ?_
    obtain rfl := Option.some.inj h
    refine ⟨Or.inr rfl, _, _, _, (resVs_cons (ResV.tmp _ _ rfl) resVs_nil), (pubA_id rfl), ?_⟩
    rfl
  · replace h := ite_f hc h
    clear hc
    refine cskip ?_
    refine then_normal ?_
    refine cseq ?_
    refine cseq ?_
    refine cregion ?_
    refine sv rfl (opv_as rfl) ?_
    refine snil ?_
    refine cjoin (Unit) (fun b1 => []) (fun b1 => []) (fun b1 => m34_l08_few_k1 b1 = some r) (fun _ _ => inbL_of rfl) (fun _ _ => blkinb_of rfl) (fun _ _ => Nat.le_of_ble_eq_true rfl) (fun b1 h => ?_) ?_
    · unfold m34_l08_few_k1 at h
      refine cseq ?_
      refine cregion ?_
      refine sv rfl (opv_as rfl) ?_
      refine snil ?_
      refine cret ?_
      obtain rfl := Option.some.inj h
      refine ⟨Or.inr rfl, _, _, _, (resVs_cons (ResV.tmp _ _ rfl) resVs_nil), (pubA_id rfl), ?_⟩
      rfl
    · skip
      refine cblock ?_
      obtain ⟨x2, hx2, ho2⟩ := bind_eq h
      refine awc_loop (G := Nat × (Int)) (fun g => [(0, .s (.one (.sl a0.length (a0.flatMap eGL08Lot)))), (3, .s (.one (.i .i64 g.2)))]) (fun g => []) (fun g => iter (m34_l08_few_s2 a0) g.1 g.2 = some x2) (fun g => g.1) (fuel, 0) hx2 ⟨rfl, rfl, trivial⟩ [] rfl (fun _ _ => inbL_of rfl) (fun _ _ => blkinb_of rfl) (fun _ _ => Nat.le_of_ble_eq_true rfl) ?_
      clear hx2 h
      rintro ⟨n2, s2⟩ h
      obtain ⟨n2, y2, rfl, h, hk2⟩ := iter_eq h
      unfold m34_l08_few_s2 at h
      refine cseq ?_
      refine cseq ?_
      refine cregion ?_
      refine sv rfl (opv_mv rfl) ?_
      refine sv rfl (opv_mv rfl) ?_
      refine sv rfl (opv_len_sl si63 rfl) ?_
      refine sv rfl (opv_lss rfl rfl) ?_
      refine snil ?_
      refine ccond rfl (fun hc => ?_) (fun hc => ?_)
      · replace h := ite_t hc h
        clear hc
        refine cskip ?_
        refine then_normal ?_
        refine cseq ?_
        refine cblock ?_
        refine cseq ?_
        refine cregion ?_
        refine sv rfl (opv_mv rfl) ?_
        refine sv rfl (opv_mv rfl) ?_
        obtain ⟨u3, hu3, h⟩ := bind_eq h
        refine sv rfl (opv_ix (f := eGL08Lot) si63 (fun _ => rfl) rfl rfl rfl rfl hu3) ?_
        refine sv rfl (opv_fieldAddr_cp fi106_1 rfl) ?_
        refine sv rfl (opv_load1 ti29 rfl (.cp _) rfl) ?_
        obtain ⟨v4, hv4, h⟩ := bind_eq h
        refine scall1 rfl fn12 (opnds_cons rfl opnds_nil) (pubA_id rfl) (m12_r08_FewWrites_c hv4) ?_
        refine sv rfl (opv_not rfl) ?_
        refine sv rfl (opv_mv rfl) ?_
        refine ssplit 20 rfl (fun hc => ?_) (fun hc => ?_)
        · replace h := ite_t hc h
          clear hc
          refine soff rfl rfl rfl rfl ?_
          refine soff rfl rfl rfl rfl ?_
          refine soff rfl rfl rfl rfl ?_
          refine soff rfl rfl rfl rfl ?_
          refine soff rfl rfl rfl rfl ?_
          refine soff rfl rfl rfl rfl ?_
          refine soff rfl rfl rfl rfl ?_
          refine sv rfl (opv_pick_t rfl rfl) ?_
          refine snil ?_
          refine ccond rfl (fun _ => ?_) (fun hx => Bool.noConfusion hx)
          refine cseq ?_
          refine cregion ?_
          refine sv rfl (opv_as rfl) ?_
          refine snil ?_
          refine cret ?_
          refine block_ret ?_
          refine then_ret ?_
          refine then_ret ?_
          refine block_ret ?_
          refine then_ret ?_
          obtain rfl := Option.some.inj h
          obtain rfl : Sum.inl _ = x2 := hk2
          replace ho2 : some _ = some _ := ho2
          obtain rfl := Option.some.inj ho2
          refine ⟨Or.inr rfl, _, _, _, (resVs_cons (ResV.tmp _ _ rfl) resVs_nil), (pubA_id rfl), ?_⟩
          rfl
        · replace h := ite_f hc h
          clear hc
          refine son rfl rfl rfl ?_
          refine sv rfl (opv_mv rfl) ?_
          refine son rfl rfl rfl ?_
          refine sv rfl (opv_mv rfl) ?_
          refine son rfl rfl rfl ?_
          obtain ⟨u5, hu5, h⟩ := bind_eq h
          refine sv rfl (opv_ix (f := eGL08Lot) si63 (fun _ => rfl) rfl rfl rfl rfl hu5) ?_
          refine son rfl rfl rfl ?_
          refine sv rfl (opv_fieldAddr_cp fi106_1 rfl) ?_
          refine son rfl rfl rfl ?_
          refine sv rfl (opv_load1 ti29 rfl (.cp _) rfl) ?_
          refine son rfl rfl rfl ?_
          refine sv rfl (opv_len_sl si29 rfl) ?_
          refine son rfl rfl rfl ?_
          refine sv rfl (opv_gtr rfl rfl) ?_
          refine sv rfl (opv_pick_f rfl rfl) ?_
          refine snil ?_
          refine ccond rfl (fun hc => ?_) (fun hc => ?_)
          · replace h := ite_t hc h
            clear hc
            refine cseq ?_
            refine cregion ?_
            refine sv rfl (opv_as rfl) ?_
            refine snil ?_
            refine cret ?_
            refine block_ret ?_
            refine then_ret ?_
            refine then_ret ?_
            refine block_ret ?_
            refine then_ret ?_
            obtain rfl := Option.some.inj h
            obtain rfl : Sum.inl _ = x2 := hk2
            replace ho2 : some _ = some _ := ho2
            obtain rfl := Option.some.inj ho2
            refine ⟨Or.inr rfl, _, _, _, (resVs_cons (ResV.tmp _ _ rfl) resVs_nil), (pubA_id rfl), ?_⟩
            rfl
          · replace h := ite_f hc h
            clear hc
            refine cskip ?_
            refine block_normal ?_
            refine then_normal ?_
            refine cregion ?_
            refine sv rfl (opv_mv rfl) ?_
            refine sv rfl (opv_add rfl rfl) ?_
            refine sv rfl (opv_as rfl) ?_
            refine snil ?_
            obtain rfl := Option.some.inj h
            exact ⟨(n2, (wI (s2 + 1))), _, hk2, ⟨rfl, rfl, trivial⟩, rfl, Nat.lt_succ_self _⟩
      · replace h := ite_f hc h
        clear hc
        refine cexit ?_
        refine then_exit ?_
        refine then_exit ?_
        refine block_hit ?_
        refine then_normal ?_
        obtain rfl := Option.some.inj h
        obtain rfl : _ = x2 := hk2
        exact ⟨(), _, ho2, trivial, rfl⟩

def m11_r06_Short (a0 : GApiRange) : Option Bool :=
  if (decide ((a0.Lo.length : Int) ≤ 100)) then (some (decide ((a0.Hi.length : Int) ≤ 100))) else (some false)

set_option maxRecDepth 100000 in
theorem m11_r06_Short_c {a0 : GApiRange} {r : Bool} (h : m11_r06_Short a0 = some r) : CallsA Try.prog 11 [.agg a0] (· = .s (.one (.b r))) := by
  unfold m11_r06_Short at h
  refine callsA_of Try.func11 rfl (nt := 13) rfl (Nat.le_of_ble_eq_true rfl) ?_
  intro w0 S0
  refine cseq ?_
  refine cregion ?_
  refine sbox rfl rfl ?_
  refine sv rfl (opv_as rfl) ?_
  refine snil ?_
  refine cseq ?_
  refine cregion ?_
  refine sv rfl (opv_fieldAddr_lp fi28_0 rfl) ?_
  refine sv rfl (opv_load1 ti26 rfl (.lp _ _ _ rfl) rfl) ?_
  refine sv rfl (opv_len_sl si26 rfl) ?_
  refine sv rfl (opv_leq rfl rfl) ?_
  refine sv rfl (opv_mv rfl) ?_
  refine ssplit 7 rfl (fun hc => ?_) (fun hc => ?_)
  · replace h := ite_t hc h
    clear hc
    refine son rfl rfl rfl ?_
    refine sv rfl (opv_fieldAddr_lp fi28_1 rfl) ?_
    refine son rfl rfl rfl ?_
    refine sv rfl (opv_load1 ti26 rfl (.lp _ _ _ rfl) rfl) ?_
    refine son rfl rfl rfl ?_
    refine sv rfl (opv_len_sl si26 rfl) ?_
    refine son rfl rfl rfl ?_
    refine sv rfl (opv_leq rfl rfl) ?_
    refine sv rfl (opv_pick_t rfl rfl) ?_
    refine sv rfl (opv_as rfl) ?_
    refine snil ?_
    refine cret ?_
    obtain rfl := Option.some.inj h
    refine ⟨Or.inr rfl, _, _, _, (resVs_cons (ResV.tmp _ _ rfl) resVs_nil), (pubA_id rfl), ?_⟩
    rfl
  · replace h := ite_f hc h
    clear hc
    refine soff rfl rfl rfl rfl ?_
    refine soff rfl rfl rfl rfl ?_
    refine soff rfl rfl rfl rfl ?_
    refine soff rfl rfl rfl rfl ?_
    refine sv rfl (opv_pick_f rfl rfl) ?_
    refine sv rfl (opv_as rfl) ?_
    refine snil ?_
    refine cret ?_
    obtain rfl := Option.some.inj h
    refine ⟨Or.inr rfl, _, _, _, (resVs_cons (ResV.tmp _ _ rfl) resVs_nil), (pubA_id rfl), ?_⟩
    rfl

def m35_l08_grown_k1 (b1 : (List (List UInt8)) × (List GChainChain) × Int) : Option GStoreStore :=
  some (GStoreStore.mk b1.1 b1.2.1 b1.2.2)

def m35_l08_grown_s2 (a0 : List GL08Lot) (s2 : Int × (List (List UInt8)) × (List GChainChain) × Int) : Option (LB (Int × (List (List UInt8)) × (List GChainChain) × Int) ((List (List UInt8)) × (List GChainChain) × Int)) :=
  if (decide (s2.1 < (a0.length : Int))) then ((idx a0 s2.1).bind fun u3 => (idx a0 s2.1).bind fun u4 => (m16_store_Install (GStoreStore.mk s2.2.1 s2.2.2.1 s2.2.2.2) (wI ((wI (s2.2.2.2 + 1)) + (wI ((BitVec.ofInt 64 u3.More &&& BitVec.ofInt 64 3).toNat : Int)))) u4.L).bind fun v5 => if (decide (v5.2 = 0)) then (some (.cont ((wI (s2.1 + 1)), v5.1.Keys, v5.1.Chains, v5.1.Ts))) else (some (.cont ((wI (s2.1 + 1)), s2.2.1, s2.2.2.1, s2.2.2.2)))) else (some (.brk (s2.2.1, s2.2.2.1, s2.2.2.2)))
def m35_l08_grown (a0 : List GL08Lot) : Option GStoreStore :=
  (iterB (m35_l08_grown_s2 a0) fuel (0, ([] : List (List UInt8)), ([] : List GChainChain), 0)).bind fun e6 => m35_l08_grown_k1 e6

set_option maxRecDepth 100000 in
theorem m35_l08_grown_c {a0 : List GL08Lot} {r : GStoreStore} (h : m35_l08_grown a0 = some r) : CallsA Try.prog 35 [.one (.sl a0.length (a0.flatMap eGL08Lot))] (· = .s (.agg r)) := by
  unfold m35_l08_grown at h
  refine callsA_of Try.func35 rfl (nt := 38) rfl (Nat.le_of_ble_eq_true rfl) ?_
  intro w0 S0
  refine cseq ?_
  refine cregion ?_
  refine salloc rfl zi36 ?_
  refine snil ?_
  refine cseq ?_
  refine cregion ?_
  refine sv rfl (opv_build zi36 pi36 parts_nil (.nil _)) ?_
  refine salloc rfl zi36 ?_
  refine sstore sz36 rfl rfl rfl rfl (Nat.le_of_ble_eq_true rfl) ?_
  refine smem [.box [.raw (.slice none 0 0), .raw (.slice none 0 0), .i .i64 0], .box [.raw (.slice none 0 0), .raw (.slice none 0 0), .i .i64 0]] rfl ?_
  refine snil ?_
  refine cseq ?_
  refine cseq ?_
  refine cregion ?_
  refine sv rfl (opv_as rfl) ?_
  refine snil ?_
  refine cjoin ((List (List UInt8)) × (List GChainChain) × Int) (fun b1 => [(2, .s (.one (.lp 0 0))), (3, .s (.one (.lp 1 0)))]) (fun b1 => [.box [.raw (.slice none 0 0), .raw (.slice none 0 0), .i .i64 0], .box [.sl b1.1.length (b1.1.flatMap (eL eU8)), .sl b1.2.1.length (b1.2.1.flatMap eGChainChain), .i .i64 b1.2.2]]) (fun b1 => m35_l08_grown_k1 b1 = some r) (fun _ _ => inbL_of rfl) (fun _ _ => blkinb_of rfl) (fun _ _ => Nat.le_of_ble_eq_true rfl) (fun b1 h => ?_) ?_
  · unfold m35_l08_grown_k1 at h
    refine cseq ?_
    refine cregion ?_
    refine sv rfl (opv_loadN ti36 rfl (.lp _ _ _ rfl) (Nat.le_of_ble_eq_true rfl)) ?_
    refine sstore sz36 rfl rfl rfl rfl (Nat.le_of_ble_eq_true rfl) ?_
    refine smem [.box [.sl b1.1.length (b1.1.flatMap (eL eU8)), .sl b1.2.1.length (b1.2.1.flatMap eGChainChain), .i .i64 b1.2.2], .box [.sl b1.1.length (b1.1.flatMap (eL eU8)), .sl b1.2.1.length (b1.2.1.flatMap eGChainChain), .i .i64 b1.2.2]] rfl ?_
    refine snil ?_
    refine cret ?_
    obtain rfl := Option.some.inj h
    refine ⟨Or.inr rfl, _, _, _, (resVs_cons (ResV.agg _ _ _ _ _ ti36 rfl (.lp _ _ _ rfl) (Nat.le_of_ble_eq_true rfl)) resVs_nil), (pubA_id rfl), ?_⟩
    rfl
  · skip
    refine cblock ?_
    refine cpubbox 1 0 rfl rfl PubL.nil rfl ?_
    refine cpubbox 1 1 rfl rfl PubL.nil rfl ?_
    obtain ⟨x2, hx2, ho2⟩ := bind_eq h
    refine awc_loop (G := Nat × (Int × (List (List UInt8)) × (List GChainChain) × Int)) (fun g => [(0, .s (.one (.sl a0.length (a0.flatMap eGL08Lot)))), (2, .s (.one (.lp 0 0))), (3, .s (.one (.lp 1 0))), (4, .s (.one (.i .i64 g.2.1)))]) (fun g => [.box [.raw (.slice none 0 0), .raw (.slice none 0 0), .i .i64 0], .box [.sl g.2.2.1.length (g.2.2.1.flatMap (eL eU8)), .sl g.2.2.2.1.length (g.2.2.2.1.flatMap eGChainChain), .i .i64 g.2.2.2.2]]) (fun g => iterB (m35_l08_grown_s2 a0) g.1 g.2 = some x2) (fun g => g.1) (fuel, (0, ([] : List (List UInt8)), ([] : List GChainChain), 0)) hx2 ⟨rfl, rfl, rfl, rfl, trivial⟩ [] rfl (fun _ _ => inbL_of rfl) (fun _ _ => blkinb_of rfl) (fun _ _ => Nat.le_of_ble_eq_true rfl) ?_
    clear hx2 h
    rintro ⟨n2, s2⟩ h
    obtain ⟨n2, y2, rfl, h, hk2⟩ := iterB_eq h
    unfold m35_l08_grown_s2 at h
    refine cseq ?_
    refine cseq ?_
    refine cregion ?_
    refine sv rfl (opv_mv rfl) ?_
    refine sv rfl (opv_mv rfl) ?_
    refine sv rfl (opv_len_sl si63 rfl) ?_
    refine sv rfl (opv_lss rfl rfl) ?_
    refine snil ?_
    refine ccond rfl (fun hc => ?_) (fun hc => ?_)
    · replace h := ite_t hc h
      clear hc
      refine cskip ?_
      refine then_normal ?_
      refine cseq ?_
      refine cblock ?_
      refine cseq ?_
      refine chole ?_
      obtain ⟨u3, hu3, h⟩ := bind_eq h
      obtain ⟨u4, hu4, h⟩ := bind_eq h
      obtain ⟨v5, hv5, h⟩ := bind_eq h
      refine cdraw_e [20, 21] [0, 0, 2, 6, 0, 0, 48, 112, 240, 496, 1022, 0, 0, 6144, 14336, 30720, 65535, 131071, 262143, 262143, 0, 1572863, 4194303] [[.box [.raw (.slice none 0 0), .raw (.slice none 0 0), .i .i64 0], .box [.sl s2.2.1.length (s2.2.1.flatMap (eL eU8)), .sl s2.2.2.1.length (s2.2.2.1.flatMap eGChainChain), .i .i64 s2.2.2.2], .hole], [.box [.raw (.slice none 0 0), .raw (.slice none 0 0), .i .i64 0], .box [.sl s2.2.1.length (s2.2.1.flatMap (eL eU8)), .sl s2.2.2.1.length (s2.2.2.1.flatMap eGChainChain), .i .i64 s2.2.2.2], .box [.raw (.slice none 0 0), .raw (.slice none 0 0), .i .i64 0]], [.box [.raw (.slice none 0 0), .raw (.slice none 0 0), .i .i64 0], .box [.sl s2.2.1.length (s2.2.1.flatMap (eL eU8)), .sl s2.2.2.1.length (s2.2.2.1.flatMap eGChainChain), .i .i64 s2.2.2.2], .box v5.1]] (by kernel_rfl) mixed (by kernel_rfl) (by decide) rfl rfl rfl rfl ?_
      refine ev (sees_all (md := [.box [.raw (.slice none 0 0), .raw (.slice none 0 0), .i .i64 0], .box [.sl s2.2.1.length (s2.2.1.flatMap (eL eU8)), .sl s2.2.2.1.length (s2.2.2.1.flatMap eGChainChain), .i .i64 s2.2.2.2], .dead]) ⟨⟨rfl, ⟨rfl, ⟨trivial, trivial⟩⟩⟩, ⟨⟨rfl, ⟨rfl, ⟨trivial, trivial⟩⟩⟩, ⟨⟨rfl, ⟨rfl, ⟨trivial, trivial⟩⟩⟩, trivial⟩⟩⟩) rfl rfl (opv_loadN ti36 rfl (.lp _ _ _ rfl) (Nat.le_of_ble_eq_true rfl)) ?_
      refine ev (sees_all (md := [.box [.raw (.slice none 0 0), .raw (.slice none 0 0), .i .i64 0], .box [.sl s2.2.1.length (s2.2.1.flatMap (eL eU8)), .sl s2.2.2.1.length (s2.2.2.1.flatMap eGChainChain), .i .i64 s2.2.2.2], .dead]) ⟨⟨rfl, ⟨rfl, ⟨trivial, trivial⟩⟩⟩, ⟨⟨rfl, ⟨rfl, ⟨trivial, trivial⟩⟩⟩, ⟨⟨rfl, ⟨rfl, ⟨trivial, trivial⟩⟩⟩, trivial⟩⟩⟩) rfl rfl (opv_fieldAddr_lp fi36_2 rfl) ?_
      refine ev (sees_all (md := [.box [.raw (.slice none 0 0), .raw (.slice none 0 0), .i .i64 0], .box [.sl s2.2.1.length (s2.2.1.flatMap (eL eU8)), .sl s2.2.2.1.length (s2.2.2.1.flatMap eGChainChain), .i .i64 s2.2.2.2], .dead]) ⟨⟨rfl, ⟨rfl, ⟨trivial, trivial⟩⟩⟩, ⟨⟨rfl, ⟨rfl, ⟨trivial, trivial⟩⟩⟩, ⟨⟨rfl, ⟨rfl, ⟨trivial, trivial⟩⟩⟩, trivial⟩⟩⟩) rfl rfl (opv_load1 ti3 rfl (.lp _ _ _ rfl) rfl) ?_
      refine ev (sees_all (md := [.box [.raw (.slice none 0 0), .raw (.slice none 0 0), .i .i64 0], .box [.sl s2.2.1.length (s2.2.1.flatMap (eL eU8)), .sl s2.2.2.1.length (s2.2.2.1.flatMap eGChainChain), .i .i64 s2.2.2.2], .dead]) ⟨⟨rfl, ⟨rfl, ⟨trivial, trivial⟩⟩⟩, ⟨⟨rfl, ⟨rfl, ⟨trivial, trivial⟩⟩⟩, ⟨⟨rfl, ⟨rfl, ⟨trivial, trivial⟩⟩⟩, trivial⟩⟩⟩) rfl rfl (opv_add rfl rfl) ?_
      refine emv rfl rfl (fun _ => opv_mv rfl) ?_
      refine emv rfl rfl (fun _ => opv_mv rfl) ?_
      refine ev (sees_all (md := [.box [.raw (.slice none 0 0), .raw (.slice none 0 0), .i .i64 0], .box [.sl s2.2.1.length (s2.2.1.flatMap (eL eU8)), .sl s2.2.2.1.length (s2.2.2.1.flatMap eGChainChain), .i .i64 s2.2.2.2], .dead]) ⟨⟨rfl, ⟨rfl, ⟨trivial, trivial⟩⟩⟩, ⟨⟨rfl, ⟨rfl, ⟨trivial, trivial⟩⟩⟩, ⟨⟨rfl, ⟨rfl, ⟨trivial, trivial⟩⟩⟩, trivial⟩⟩⟩) rfl rfl (opv_ix (f := eGL08Lot) si63 (fun _ => rfl) rfl rfl rfl rfl hu3) ?_
      refine ev (sees_all (md := [.box [.raw (.slice none 0 0), .raw (.slice none 0 0), .i .i64 0], .box [.sl s2.2.1.length (s2.2.1.flatMap (eL eU8)), .sl s2.2.2.1.length (s2.2.2.1.flatMap eGChainChain), .i .i64 s2.2.2.2], .dead]) ⟨⟨rfl, ⟨rfl, ⟨trivial, trivial⟩⟩⟩, ⟨⟨rfl, ⟨rfl, ⟨trivial, trivial⟩⟩⟩, ⟨⟨rfl, ⟨rfl, ⟨trivial, trivial⟩⟩⟩, trivial⟩⟩⟩) rfl rfl (opv_fieldAddr_cp fi106_0 rfl) ?_
      refine ev (sees_all (md := [.box [.raw (.slice none 0 0), .raw (.slice none 0 0), .i .i64 0], .box [.sl s2.2.1.length (s2.2.1.flatMap (eL eU8)), .sl s2.2.2.1.length (s2.2.2.1.flatMap eGChainChain), .i .i64 s2.2.2.2], .dead]) ⟨⟨rfl, ⟨rfl, ⟨trivial, trivial⟩⟩⟩, ⟨⟨rfl, ⟨rfl, ⟨trivial, trivial⟩⟩⟩, ⟨⟨rfl, ⟨rfl, ⟨trivial, trivial⟩⟩⟩, trivial⟩⟩⟩) rfl rfl (opv_load1 ti3 rfl (.cp _) rfl) ?_
      refine ev (sees_all (md := [.box [.raw (.slice none 0 0), .raw (.slice none 0 0), .i .i64 0], .box [.sl s2.2.1.length (s2.2.1.flatMap (eL eU8)), .sl s2.2.2.1.length (s2.2.2.1.flatMap eGChainChain), .i .i64 s2.2.2.2], .dead]) ⟨⟨rfl, ⟨rfl, ⟨trivial, trivial⟩⟩⟩, ⟨⟨rfl, ⟨rfl, ⟨trivial, trivial⟩⟩⟩, ⟨⟨rfl, ⟨rfl, ⟨trivial, trivial⟩⟩⟩, trivial⟩⟩⟩) rfl rfl (opv_and rfl rfl) ?_
      refine ev (sees_all (md := [.box [.raw (.slice none 0 0), .raw (.slice none 0 0), .i .i64 0], .box [.sl s2.2.1.length (s2.2.1.flatMap (eL eU8)), .sl s2.2.2.1.length (s2.2.2.1.flatMap eGChainChain), .i .i64 s2.2.2.2], .dead]) ⟨⟨rfl, ⟨rfl, ⟨trivial, trivial⟩⟩⟩, ⟨⟨rfl, ⟨rfl, ⟨trivial, trivial⟩⟩⟩, ⟨⟨rfl, ⟨rfl, ⟨trivial, trivial⟩⟩⟩, trivial⟩⟩⟩) rfl rfl (opv_add rfl rfl) ?_
      refine emv rfl rfl (fun _ => opv_mv rfl) ?_
      refine emv rfl rfl (fun _ => opv_mv rfl) ?_
      refine ev (sees_all (md := [.box [.raw (.slice none 0 0), .raw (.slice none 0 0), .i .i64 0], .box [.sl s2.2.1.length (s2.2.1.flatMap (eL eU8)), .sl s2.2.2.1.length (s2.2.2.1.flatMap eGChainChain), .i .i64 s2.2.2.2], .dead]) ⟨⟨rfl, ⟨rfl, ⟨trivial, trivial⟩⟩⟩, ⟨⟨rfl, ⟨rfl, ⟨trivial, trivial⟩⟩⟩, ⟨⟨rfl, ⟨rfl, ⟨trivial, trivial⟩⟩⟩, trivial⟩⟩⟩) rfl rfl (opv_ix (f := eGL08Lot) si63 (fun _ => rfl) rfl rfl rfl rfl hu4) ?_
      refine ev (sees_all (md := [.box [.raw (.slice none 0 0), .raw (.slice none 0 0), .i .i64 0], .box [.sl s2.2.1.length (s2.2.1.flatMap (eL eU8)), .sl s2.2.2.1.length (s2.2.2.1.flatMap eGChainChain), .i .i64 s2.2.2.2], .dead]) ⟨⟨rfl, ⟨rfl, ⟨trivial, trivial⟩⟩⟩, ⟨⟨rfl, ⟨rfl, ⟨trivial, trivial⟩⟩⟩, ⟨⟨rfl, ⟨rfl, ⟨trivial, trivial⟩⟩⟩, trivial⟩⟩⟩) rfl rfl (opv_fieldAddr_cp fi106_1 rfl) ?_
      refine ev (sees_all (md := [.box [.raw (.slice none 0 0), .raw (.slice none 0 0), .i .i64 0], .box [.sl s2.2.1.length (s2.2.1.flatMap (eL eU8)), .sl s2.2.2.1.length (s2.2.2.1.flatMap eGChainChain), .i .i64 s2.2.2.2], .dead]) ⟨⟨rfl, ⟨rfl, ⟨trivial, trivial⟩⟩⟩, ⟨⟨rfl, ⟨rfl, ⟨trivial, trivial⟩⟩⟩, ⟨⟨rfl, ⟨rfl, ⟨trivial, trivial⟩⟩⟩, trivial⟩⟩⟩) rfl rfl (opv_load1 ti29 rfl (.cp _) rfl) ?_
      refine ed (sees_all (md := [.box [.raw (.slice none 0 0), .raw (.slice none 0 0), .i .i64 0], .box [.sl s2.2.1.length (s2.2.1.flatMap (eL eU8)), .sl s2.2.2.1.length (s2.2.2.1.flatMap eGChainChain), .i .i64 s2.2.2.2], .dead]) ⟨⟨rfl, ⟨rfl, ⟨trivial, trivial⟩⟩⟩, ⟨⟨rfl, ⟨rfl, ⟨trivial, trivial⟩⟩⟩, ⟨⟨rfl, ⟨rfl, ⟨trivial, trivial⟩⟩⟩, trivial⟩⟩⟩) rfl rfl (opD_call fn16 (opnds_cons rfl (opnds_cons rfl (opnds_cons rfl opnds_nil))) rfl (m16_store_Install_c hv5)) ?_
      refine emv rfl rfl (fun _ => opv_mvt rfl) ?_
      refine ev (sees_all (md := [.box [.raw (.slice none 0 0), .raw (.slice none 0 0), .i .i64 0], .box [.sl s2.2.1.length (s2.2.1.flatMap (eL eU8)), .sl s2.2.2.1.length (s2.2.2.1.flatMap eGChainChain), .i .i64 s2.2.2.2], .dead]) ⟨⟨rfl, ⟨rfl, ⟨trivial, trivial⟩⟩⟩, ⟨⟨rfl, ⟨rfl, ⟨trivial, trivial⟩⟩⟩, ⟨⟨rfl, ⟨rfl, ⟨trivial, trivial⟩⟩⟩, trivial⟩⟩⟩) rfl rfl (opv_extract rfl rfl) ?_
      refine ev (sees_all (md := [.box [.raw (.slice none 0 0), .raw (.slice none 0 0), .i .i64 0], .box [.sl s2.2.1.length (s2.2.1.flatMap (eL eU8)), .sl s2.2.2.1.length (s2.2.2.1.flatMap eGChainChain), .i .i64 s2.2.2.2], .dead]) ⟨⟨rfl, ⟨rfl, ⟨trivial, trivial⟩⟩⟩, ⟨⟨rfl, ⟨rfl, ⟨trivial, trivial⟩⟩⟩, ⟨⟨rfl, ⟨rfl, ⟨trivial, trivial⟩⟩⟩, trivial⟩⟩⟩) rfl rfl (opv_extract rfl rfl) ?_
      refine ee (x := .s (.one (.lp 2 0))) 0 rfl rfl rfl rfl rfl (fun ζ => ?_) ?_
      · refine salloc_at 2 rfl zi36 rfl ?_
        exact eend
      refine ee0 1 rfl rfl rfl rfl (fun ζ => ?_) ?_
      · refine sstore sz36 rfl rfl rfl rfl (Nat.le_of_ble_eq_true rfl) ?_
        refine smem [.box [.raw (.slice none 0 0), .raw (.slice none 0 0), .i .i64 0], .box [.sl s2.2.1.length (s2.2.1.flatMap (eL eU8)), .sl s2.2.2.1.length (s2.2.2.1.flatMap eGChainChain), .i .i64 s2.2.2.2], .box v5.1] rfl ?_
        exact eend
      refine ev (sees_at 2 rfl rfl) rfl rfl (opv_as rfl) ?_
      refine enil ?_
      refine then_normal ?_
      refine cseq ?_
      refine cregion ?_
      refine sv rfl (opv_mv rfl) ?_
      refine sv rfl (opv_ieql rfl rfl) ?_
      refine snil ?_
      refine ccond rfl (fun hc => ?_) (fun hc => ?_)
      · replace h := ite_t hc h
        clear hc
        refine cregion ?_
        refine sv rfl (opv_loadN ti36 rfl (.lp _ _ _ rfl) (Nat.le_of_ble_eq_true rfl)) ?_
        refine sstore sz36 rfl rfl rfl rfl (Nat.le_of_ble_eq_true rfl) ?_
        refine smem [.box [.raw (.slice none 0 0), .raw (.slice none 0 0), .i .i64 0], .box v5.1, .box v5.1] rfl ?_
        refine snil0 ?_
        refine block_normal ?_
        refine then_normal ?_
        refine cregion ?_
        refine sv rfl (opv_mv rfl) ?_
        refine sv rfl (opv_add rfl rfl) ?_
        refine sv rfl (opv_as rfl) ?_
        refine snil ?_
        obtain rfl := Option.some.inj h
        exact ⟨(n2, ((wI (s2.1 + 1)), v5.1.Keys, v5.1.Chains, v5.1.Ts)), _, hk2, ⟨rfl, rfl, rfl, rfl, trivial⟩, rfl, Nat.lt_succ_self _⟩
      · replace h := ite_f hc h
        clear hc
        refine cskip ?_
        refine block_normal ?_
        refine then_normal ?_
        refine cregion ?_
        refine sv rfl (opv_mv rfl) ?_
        refine sv rfl (opv_add rfl rfl) ?_
        refine sv rfl (opv_as rfl) ?_
        refine snil ?_
        obtain rfl := Option.some.inj h
        exact ⟨(n2, ((wI (s2.1 + 1)), s2.2.1, s2.2.2.1, s2.2.2.2)), _, hk2, ⟨rfl, rfl, rfl, rfl, trivial⟩, rfl, Nat.lt_succ_self _⟩
    · replace h := ite_f hc h
      clear hc
      refine cexit ?_
      refine then_exit ?_
      refine then_exit ?_
      refine block_hit ?_
      refine then_normal ?_
      obtain rfl := Option.some.inj h
      obtain rfl : _ = x2 := hk2
      exact ⟨(s2.2.1, s2.2.2.1, s2.2.2.2), _, ho2, ⟨rfl, rfl, trivial⟩, rfl⟩

def m60_r06_Cmp_k1 (a0 : List UInt8) (a1 : List UInt8) (b1 : Unit) : Option Int :=
  if (decide ((a0.length : Int) < (a1.length : Int))) then (some (-1)) else (if (decide ((a1.length : Int) < (a0.length : Int))) then (some 1) else (some 0))

def m60_r06_Cmp_k3 (a0 : List UInt8) (a1 : List UInt8) (s2 : Int) (b3 : Unit) : Option (LR (Int) (Unit) (Int)) :=
  (idx a0 s2).bind fun u4 => (idx a1 s2).bind fun u5 => if (decide ((u4.toBitVec.toNat : Int) < (u5.toBitVec.toNat : Int))) then (some (.ret (-1))) else ((idx a0 s2).bind fun u6 => (idx a1 s2).bind fun u7 => if (decide ((u7.toBitVec.toNat : Int) < (u6.toBitVec.toNat : Int))) then (some (.ret 1)) else (some (.cont (wI (s2 + 1)))))

def m60_r06_Cmp_s2 (a0 : List UInt8) (a1 : List UInt8) (s2 : Int) : Option (LR (Int) (Unit) (Int)) :=
  if (decide (s2 < (a0.length : Int))) then (if (decide (s2 < (a1.length : Int))) then (m60_r06_Cmp_k3 a0 a1 s2 ()) else (some (.brk ()))) else (some (.brk ()))
def m60_r06_Cmp (a0 : List UInt8) (a1 : List UInt8) : Option Int :=
  (iter (m60_r06_Cmp_s2 a0 a1) fuel 0).bind fun x => match x with | .inl r => some r | .inr e8 => m60_r06_Cmp_k1 a0 a1 e8

set_option maxRecDepth 100000 in
theorem m60_r06_Cmp_c {a0 : List UInt8} {a1 : List UInt8} {r : Int} (h : m60_r06_Cmp a0 a1 = some r) : CallsA Try.prog 60 [.one (.sl a0.length (a0.flatMap eU8)), .one (.sl a1.length (a1.flatMap eU8))] (· = .s (.one (.i .i64 r))) := by
  unfold m60_r06_Cmp at h
  refine callsA_of Try.func60 rfl (nt := 46) rfl (Nat.le_of_ble_eq_true rfl) ?_
  intro w0 S0
  refine cseq ?_
  refine cregion ?_
  refine sv rfl (opv_as rfl) ?_
  refine snil ?_
  refine cseq ?_
  refine cseq ?_
  refine cregion ?_
  refine sv rfl (opv_as rfl) ?_
  refine snil ?_
  refine cjoin (Unit) (fun b1 => [(0, .s (.one (.sl a0.length (a0.flatMap eU8)))), (1, .s (.one (.sl a1.length (a1.flatMap eU8))))]) (fun b1 => []) (fun b1 => m60_r06_Cmp_k1 a0 a1 b1 = some r) (fun _ _ => inbL_of rfl) (fun _ _ => blkinb_of rfl) (fun _ _ => Nat.le_of_ble_eq_true rfl) (fun b1 h => ?_) ?_
  · unfold m60_r06_Cmp_k1 at h
    refine cseq ?_
    refine cseq ?_
    refine cregion ?_
    refine sv rfl (opv_mv rfl) ?_
    refine sv rfl (opv_len_sl si26 rfl) ?_
    refine sv rfl (opv_mv rfl) ?_
    refine sv rfl (opv_len_sl si26 rfl) ?_
    refine sv rfl (opv_lss rfl rfl) ?_
    refine snil ?_
    refine ccond rfl (fun hc => ?_) (fun hc => ?_)
    · replace h := ite_t hc h
      clear hc
      refine cseq ?_
      refine cregion ?_
      refine sv rfl (opv_as rfl) ?_
      refine snil ?_
      refine cret ?_
      refine then_ret ?_
      obtain rfl := Option.some.inj h
      refine ⟨Or.inr rfl, _, _, _, (resVs_cons (ResV.tmp _ _ rfl) resVs_nil), (pubA_id rfl), ?_⟩
      rfl
    · replace h := ite_f hc h
      clear hc
      refine cskip ?_
      refine then_normal ?_
      refine cseq ?_
      refine cseq ?_
      refine cregion ?_
      refine sv rfl (opv_mv rfl) ?_
      refine sv rfl (opv_len_sl si26 rfl) ?_
      refine sv rfl (opv_mv rfl) ?_
      refine sv rfl (opv_len_sl si26 rfl) ?_
      refine sv rfl (opv_gtr rfl rfl) ?_
      refine snil ?_
      refine ccond rfl (fun hc => ?_) (fun hc => ?_)
      · replace h := ite_t hc h
        clear hc
        refine cseq ?_
        refine cregion ?_
        refine sv rfl (opv_as rfl) ?_
        refine snil ?_
        refine cret ?_
        refine then_ret ?_
        obtain rfl := Option.some.inj h
        refine ⟨Or.inr rfl, _, _, _, (resVs_cons (ResV.tmp _ _ rfl) resVs_nil), (pubA_id rfl), ?_⟩
        rfl
      · replace h := ite_f hc h
        clear hc
        refine cskip ?_
        refine then_normal ?_
        refine cseq ?_
        refine cregion ?_
        refine sv rfl (opv_as rfl) ?_
        refine snil ?_
        refine cret ?_
        obtain rfl := Option.some.inj h
        refine ⟨Or.inr rfl, _, _, _, (resVs_cons (ResV.tmp _ _ rfl) resVs_nil), (pubA_id rfl), ?_⟩
        rfl
  · skip
    refine cblock ?_
    obtain ⟨x2, hx2, ho2⟩ := bind_eq h
    refine awc_loop (G := Nat × (Int)) (fun g => [(0, .s (.one (.sl a0.length (a0.flatMap eU8)))), (1, .s (.one (.sl a1.length (a1.flatMap eU8)))), (5, .s (.one (.i .i64 g.2)))]) (fun g => []) (fun g => iter (m60_r06_Cmp_s2 a0 a1) g.1 g.2 = some x2) (fun g => g.1) (fuel, 0) hx2 ⟨rfl, rfl, rfl, trivial⟩ [] rfl (fun _ _ => inbL_of rfl) (fun _ _ => blkinb_of rfl) (fun _ _ => Nat.le_of_ble_eq_true rfl) ?_
    clear hx2 h
    rintro ⟨n2, s2⟩ h
    obtain ⟨n2, y2, rfl, h, hk2⟩ := iter_eq h
    unfold m60_r06_Cmp_s2 at h
    refine cseq ?_
    refine cseq ?_
    refine cjoin3 (Unit) (fun b3 => [(0, .s (.one (.sl a0.length (a0.flatMap eU8)))), (1, .s (.one (.sl a1.length (a1.flatMap eU8)))), (5, .s (.one (.i .i64 s2)))]) (fun b3 => []) (fun b3 => m60_r06_Cmp_k3 a0 a1 s2 b3 = some y2) (fun _ _ => inbL_of rfl) (fun _ _ => blkinb_of rfl) (fun _ _ => Nat.le_of_ble_eq_true rfl) (fun b3 h => ?_) ?_
    · unfold m60_r06_Cmp_k3 at h
      refine cseq ?_
      refine cblock ?_
      refine cseq ?_
      refine cseq ?_
      refine cdraw mixed (by kernel_rfl) ?_
      refine dv rfl (opv_mv rfl) ?_
      refine dv rfl (opv_mv rfl) ?_
      obtain ⟨u4, hu4, h⟩ := bind_eq h
      refine dv rfl (opv_ix (f := eU8) si26 (fun _ => rfl) rfl rfl rfl rfl hu4) ?_
      refine dv rfl (opv_load1 ti5 rfl (.cp _) rfl) ?_
      refine dv rfl (opv_mv rfl) ?_
      refine dv rfl (opv_mv rfl) ?_
      obtain ⟨u5, hu5, h⟩ := bind_eq h
      refine dv rfl (opv_ix (f := eU8) si26 (fun _ => rfl) rfl rfl rfl rfl hu5) ?_
      refine dv rfl (opv_load1 ti5 rfl (.cp _) rfl) ?_
      refine dv rfl (opv_lss rfl rfl) ?_
      refine dnil ?_
      refine then_normal ?_
      refine ccond rfl (fun hc => ?_) (fun hc => ?_)
      · replace h := ite_t hc h
        clear hc
        refine cseq ?_
        refine cregion ?_
        refine sv rfl (opv_as rfl) ?_
        refine snil ?_
        refine cret ?_
        refine then_ret ?_
        refine block_ret ?_
        refine then_ret ?_
        refine then_ret ?_
        refine block_ret ?_
        refine then_ret ?_
        obtain rfl := Option.some.inj h
        obtain rfl : Sum.inl _ = x2 := hk2
        replace ho2 : some _ = some _ := ho2
        obtain rfl := Option.some.inj ho2
        refine ⟨Or.inr rfl, _, _, _, (resVs_cons (ResV.tmp _ _ rfl) resVs_nil), (pubA_id rfl), ?_⟩
        rfl
      · replace h := ite_f hc h
        clear hc
        refine cskip ?_
        refine then_normal ?_
        refine cseq ?_
        refine cdraw mixed (by kernel_rfl) ?_
        refine dv rfl (opv_mv rfl) ?_
        refine dv rfl (opv_mv rfl) ?_
        obtain ⟨u6, hu6, h⟩ := bind_eq h
        refine dv rfl (opv_ix (f := eU8) si26 (fun _ => rfl) rfl rfl rfl rfl hu6) ?_
        refine dv rfl (opv_load1 ti5 rfl (.cp _) rfl) ?_
        refine dv rfl (opv_mv rfl) ?_
        refine dv rfl (opv_mv rfl) ?_
        obtain ⟨u7, hu7, h⟩ := bind_eq h
        refine dv rfl (opv_ix (f := eU8) si26 (fun _ => rfl) rfl rfl rfl rfl hu7) ?_
        refine dv rfl (opv_load1 ti5 rfl (.cp _) rfl) ?_
        refine dv rfl (opv_gtr rfl rfl) ?_
        refine dnil ?_
        refine then_normal ?_
        refine ccond rfl (fun hc => ?_) (fun hc => ?_)
        · replace h := ite_t hc h
          clear hc
          refine cseq ?_
          refine cregion ?_
          refine sv rfl (opv_as rfl) ?_
          refine snil ?_
          refine cret ?_
          refine block_ret ?_
          refine then_ret ?_
          refine then_ret ?_
          refine block_ret ?_
          refine then_ret ?_
          obtain rfl := Option.some.inj h
          obtain rfl : Sum.inl _ = x2 := hk2
          replace ho2 : some _ = some _ := ho2
          obtain rfl := Option.some.inj ho2
          refine ⟨Or.inr rfl, _, _, _, (resVs_cons (ResV.tmp _ _ rfl) resVs_nil), (pubA_id rfl), ?_⟩
          rfl
        · replace h := ite_f hc h
          clear hc
          refine cskip ?_
          refine block_normal ?_
          refine then_normal ?_
          refine cregion ?_
          refine sv rfl (opv_mv rfl) ?_
          refine sv rfl (opv_add rfl rfl) ?_
          refine sv rfl (opv_as rfl) ?_
          refine snil ?_
          obtain rfl := Option.some.inj h
          exact ⟨(n2, (wI (s2 + 1))), _, hk2, ⟨rfl, rfl, rfl, trivial⟩, rfl, Nat.lt_succ_self _⟩
    · skip
      refine cregion ?_
      refine sv rfl (opv_mv rfl) ?_
      refine sv rfl (opv_mv rfl) ?_
      refine sv rfl (opv_len_sl si26 rfl) ?_
      refine sv rfl (opv_lss rfl rfl) ?_
      refine sv rfl (opv_mv rfl) ?_
      refine ssplit 10 rfl (fun hc => ?_) (fun hc => ?_)
      · replace h := ite_t hc h
        clear hc
        refine son rfl rfl rfl ?_
        refine sv rfl (opv_mv rfl) ?_
        refine son rfl rfl rfl ?_
        refine sv rfl (opv_mv rfl) ?_
        refine son rfl rfl rfl ?_
        refine sv rfl (opv_len_sl si26 rfl) ?_
        refine son rfl rfl rfl ?_
        refine sv rfl (opv_lss rfl rfl) ?_
        refine sv rfl (opv_pick_t rfl rfl) ?_
        refine snil ?_
        refine ccond rfl (fun hc => ?_) (fun hc => ?_)
        · replace h := ite_t hc h
          clear hc
          refine cskip ?_
          refine then_normal ?_
          exact ⟨(), _, h, ⟨rfl, rfl, rfl, trivial⟩, rfl⟩
        · replace h := ite_f hc h
          clear hc
          refine cexit ?_
          refine then_exit ?_
          refine then_exit ?_
          refine block_hit ?_
          refine then_normal ?_
          obtain rfl := Option.some.inj h
          obtain rfl : _ = x2 := hk2
          exact ⟨(), _, ho2, ⟨rfl, rfl, trivial⟩, rfl⟩
      · replace h := ite_f hc h
        clear hc
        refine soff rfl rfl rfl rfl ?_
        refine soff rfl rfl rfl rfl ?_
        refine soff rfl rfl rfl rfl ?_
        refine soff rfl rfl rfl rfl ?_
        refine sv rfl (opv_pick_f rfl rfl) ?_
        refine snil ?_
        refine ccond rfl (fun hx => Bool.noConfusion hx) (fun _ => ?_)
        refine cexit ?_
        refine then_exit ?_
        refine then_exit ?_
        refine block_hit ?_
        refine then_normal ?_
        obtain rfl := Option.some.inj h
        obtain rfl : _ = x2 := hk2
        exact ⟨(), _, ho2, ⟨rfl, rfl, trivial⟩, rfl⟩

def m36_r06_Has (a0 : GApiRange) (a1 : List UInt8) : Option Bool :=
  (m60_r06_Cmp a1 a0.Lo).bind fun v1 => if (decide (0 ≤ v1)) then (if a0.Open then (some true) else ((m60_r06_Cmp a1 a0.Hi).bind fun v2 => some (decide (v2 < 0)))) else (some false)

set_option maxRecDepth 100000 in
theorem m36_r06_Has_c {a0 : GApiRange} {a1 : List UInt8} {r : Bool} (h : m36_r06_Has a0 a1 = some r) : CallsA Try.prog 36 [.agg a0, .one (.sl a1.length (a1.flatMap eU8))] (· = .s (.one (.b r))) := by
  unfold m36_r06_Has at h
  refine callsA_of Try.func36 rfl (nt := 21) rfl (Nat.le_of_ble_eq_true rfl) ?_
  intro w0 S0
  refine cseq ?_
  refine cregion ?_
  refine sbox rfl rfl ?_
  refine sv rfl (opv_as rfl) ?_
  refine snil ?_
  refine cseq ?_
  refine cregion ?_
  refine sv rfl (opv_mv rfl) ?_
  refine sv rfl (opv_fieldAddr_lp fi28_0 rfl) ?_
  refine sv rfl (opv_load1 ti26 rfl (.lp _ _ _ rfl) rfl) ?_
  obtain ⟨v1, hv1, h⟩ := bind_eq h
  refine scall1 rfl fn60 (opnds_cons rfl (opnds_cons rfl opnds_nil)) (pubA_id rfl) (m60_r06_Cmp_c hv1) ?_
  refine sv rfl (opv_geq rfl rfl) ?_
  refine sv rfl (opv_mv rfl) ?_
  refine ssplit 10 rfl (fun hc => ?_) (fun hc => ?_)
  · replace h := ite_t hc h
    clear hc
    refine son rfl rfl rfl ?_
    refine sv rfl (opv_fieldAddr_lp fi28_2 rfl) ?_
    refine son rfl rfl rfl ?_
    refine sv rfl (opv_load1 ti4 rfl (.lp _ _ _ rfl) rfl) ?_
    refine son rfl rfl rfl ?_
    refine sv rfl (opv_mv rfl) ?_
    refine ssplit 13 rfl (fun hc => ?_) (fun hc => ?_)
    · replace h := ite_t hc h
      clear hc
      refine soff rfl rfl rfl rfl ?_
      refine soff rfl rfl rfl rfl ?_
      refine soff rfl rfl rfl rfl ?_
      refine soff rfl rfl rfl rfl ?_
      refine soff rfl rfl rfl rfl ?_
      refine son rfl rfl rfl ?_
      refine sv rfl (opv_pick_t rfl rfl) ?_
      refine sv rfl (opv_pick_t rfl rfl) ?_
      refine sv rfl (opv_as rfl) ?_
      refine snil ?_
      refine cret ?_
      obtain rfl := Option.some.inj h
      refine ⟨Or.inr rfl, _, _, _, (resVs_cons (ResV.tmp _ _ rfl) resVs_nil), (pubA_id rfl), ?_⟩
      rfl
    · replace h := ite_f hc h
      clear hc
      refine son rfl rfl rfl ?_
      refine sv rfl (opv_mv rfl) ?_
      refine son rfl rfl rfl ?_
      refine sv rfl (opv_fieldAddr_lp fi28_1 rfl) ?_
      refine son rfl rfl rfl ?_
      refine sv rfl (opv_load1 ti26 rfl (.lp _ _ _ rfl) rfl) ?_
      refine son rfl rfl rfl ?_
      obtain ⟨v2, hv2, h⟩ := bind_eq h
      refine scall1 rfl fn60 (opnds_cons rfl (opnds_cons rfl opnds_nil)) (pubA_id rfl) (m60_r06_Cmp_c hv2) ?_
      refine son rfl rfl rfl ?_
      refine sv rfl (opv_lss rfl rfl) ?_
      refine son rfl rfl rfl ?_
      refine sv rfl (opv_pick_f rfl rfl) ?_
      refine sv rfl (opv_pick_t rfl rfl) ?_
      refine sv rfl (opv_as rfl) ?_
      refine snil ?_
      refine cret ?_
      obtain rfl := Option.some.inj h
      refine ⟨Or.inr rfl, _, _, _, (resVs_cons (ResV.tmp _ _ rfl) resVs_nil), (pubA_id rfl), ?_⟩
      rfl
  · replace h := ite_f hc h
    clear hc
    refine soff rfl rfl rfl rfl ?_
    refine soff rfl rfl rfl rfl ?_
    refine soff rfl rfl rfl rfl ?_
    refine soffu rfl rfl rfl ?_
    refine soffu rfl rfl rfl ?_
    refine soffu rfl rfl rfl ?_
    refine soffu rfl rfl rfl ?_
    refine soffu rfl rfl rfl ?_
    refine soff rfl rfl rfl rfl ?_
    refine sv rfl (opv_pick_f rfl rfl) ?_
    refine sv rfl (opv_as rfl) ?_
    refine snil ?_
    refine cret ?_
    obtain rfl := Option.some.inj h
    refine ⟨Or.inr rfl, _, _, _, (resVs_cons (ResV.tmp _ _ rfl) resVs_nil), (pubA_id rfl), ?_⟩
    rfl

def m5_l08_StoreScans_k5 (a3 : Int) (v1 : Bool) (v4 : (List GApiKV)) (b5 : Int) : Option Bool :=
  if v1 then (some (decide ((v4.length : Int) = (if (if a3 < b5 then a3 else b5) > 0 then (if a3 < b5 then a3 else b5) else 0)))) else (some false)

def m5_l08_StoreScans_k10 (s6 : Int × Int) (b10 : Unit) : Option (LR (Int × Int) (Int) (Bool)) :=
  some (.cont ((wI (s6.1 + 1)), (wI (s6.2 + 1))))

def m5_l08_StoreScans_k9 (a3 : Int) (v3 : GStoreStore) (v4 : (List GApiKV)) (s6 : Int × Int) (v8 : (List UInt8) × Bool) (b9 : Unit) : Option (LR (Int × Int) (Int) (Bool)) :=
  if (decide (s6.1 < a3)) then (if (decide ((v4.length : Int) ≤ s6.1)) then (some (.ret false)) else ((idx v4 s6.1).bind fun u11 => (idx v3.Keys s6.2).bind fun u12 => if (!(u11.Key == u12)) then (some (.ret false)) else ((idx v4 s6.1).bind fun u13 => if (!(u13.Val == v8.1)) then (some (.ret false)) else (m5_l08_StoreScans_k10 s6 ())))) else (m5_l08_StoreScans_k10 s6 ())

def m5_l08_StoreScans_s6 (a1 : GApiRange) (a2 : Int) (a3 : Int) (v3 : GStoreStore) (v4 : (List GApiKV)) (s6 : Int × Int) : Option (LR (Int × Int) (Int) (Bool)) :=
  if (decide (s6.2 < (v3.Keys.length : Int))) then ((idx v3.Keys s6.2).bind fun u7 => (m14_store_Get v3 u7 a2).bind fun v8 => if (!v8.2) then (some (.cont (s6.1, (wI (s6.2 + 1))))) else ((idx v3.Keys s6.2).bind fun u14 => (m36_r06_Has (GApiRange.mk a1.Lo a1.Hi a1.Open) u14).bind fun v15 => if (!v15) then (some (.cont (s6.1, (wI (s6.2 + 1))))) else (m5_l08_StoreScans_k9 a3 v3 v4 s6 v8 ()))) else (some (.brk s6.1))

def m5_l08_StoreScans_k2 (a0 : List GL08Lot) (a1 : GApiRange) (a2 : Int) (a3 : Int) (v1 : Bool) (b2 : Unit) : Option Bool :=
  (m35_l08_grown a0).bind fun v3 => (m21_store_Scan v3 (GApiRange.mk a1.Lo a1.Hi a1.Open) a2 a3).bind fun v4 => (iter (m5_l08_StoreScans_s6 a1 a2 a3 v3 v4) fuel (0, 0)).bind fun x => match x with | .inl r => some r | .inr e16 => m5_l08_StoreScans_k5 a3 v1 v4 e16
def m5_l08_StoreScans (a0 : List GL08Lot) (a1 : GApiRange) (a2 : Int) (a3 : Int) : Option Bool :=
  (m9_l08_awake).bind fun v1 => (m34_l08_few a0).bind fun v17 => if (!v17) then (some v1) else ((m11_r06_Short (GApiRange.mk a1.Lo a1.Hi a1.Open)).bind fun v18 => if (!v18) then (some v1) else (m5_l08_StoreScans_k2 a0 a1 a2 a3 v1 ()))

set_option maxRecDepth 100000 in
theorem m5_l08_StoreScans_c {a0 : List GL08Lot} {a1 : GApiRange} {a2 : Int} {a3 : Int} {r : Bool} (h : m5_l08_StoreScans a0 a1 a2 a3 = some r) : CallsA Try.prog 5 [.one (.sl a0.length (a0.flatMap eGL08Lot)), .agg a1, .one (.i .i64 a2), .one (.i .i64 a3)] (· = .s (.one (.b r))) := by
  unfold m5_l08_StoreScans at h
  refine callsA_of Try.func5 rfl (nt := 110) rfl (Nat.le_of_ble_eq_true rfl) ?_
  intro w0 S0
  refine cseq ?_
  refine cregion ?_
  refine sbox rfl rfl ?_
  refine sv rfl (opv_as rfl) ?_
  refine snil ?_
  refine cseq ?_
  refine cregion ?_
  obtain ⟨v1, hv1, h⟩ := bind_eq h
  refine scall1 rfl fn9 opnds_nil (pubA_id rfl) (m9_l08_awake_c hv1) ?_
  refine sv rfl (opv_as rfl) ?_
  refine snil ?_
  refine cseq ?_
  refine cseq ?_
  refine cjoin3 (Unit) (fun b2 => [(0, .s (.one (.sl a0.length (a0.flatMap eGL08Lot)))), (2, .s (.one (.i .i64 a2))), (3, .s (.one (.i .i64 a3))), (5, .s (.one (.lp 0 0))), (9, .s (.one (.b v1)))]) (fun b2 => [.box a1]) (fun b2 => m5_l08_StoreScans_k2 a0 a1 a2 a3 v1 b2 = some r) (fun _ _ => inbL_of rfl) (fun _ _ => blkinb_of rfl) (fun _ _ => Nat.le_of_ble_eq_true rfl) (fun b2 h => ?_) ?_
  · unfold m5_l08_StoreScans_k2 at h
    refine cseq ?_
    refine cregion ?_
    refine sv rfl (opv_mv rfl) ?_
    obtain ⟨v3, hv3, h⟩ := bind_eq h
    refine scall1 rfl fn35 (opnds_cons rfl opnds_nil) (pubA_id rfl) (m35_l08_grown_c hv3) ?_
    refine salloc rfl zi36 ?_
    refine sstore sz36 rfl rfl rfl rfl (Nat.le_of_ble_eq_true rfl) ?_
    refine smem [.box a1, .box v3] rfl ?_
    refine snil ?_
    refine cseq ?_
    refine cregion ?_
    refine sv rfl (opv_loadN ti36 rfl (.lp _ _ _ rfl) (Nat.le_of_ble_eq_true rfl)) ?_
    refine sv rfl (opv_loadN ti28 rfl (.lp _ _ _ rfl) (Nat.le_of_ble_eq_true rfl)) ?_
    refine sv rfl (opv_mv rfl) ?_
    refine sv rfl (opv_mv rfl) ?_
    obtain ⟨v4, hv4, h⟩ := bind_eq h
    refine scall1 rfl fn21 (opnds_cons rfl (opnds_cons rfl (opnds_cons rfl (opnds_cons rfl opnds_nil)))) (pubA_id rfl) (m21_store_Scan_c hv4) ?_
    refine sv rfl (opv_as rfl) ?_
    refine snil ?_
    refine cseq ?_
    refine cregion ?_
    refine sv rfl (opv_as rfl) ?_
    refine snil ?_
    refine cseq ?_
    refine cseq ?_
    refine cregion ?_
    refine sv rfl (opv_as rfl) ?_
    refine snil ?_
    refine cjoin (Int) (fun b5 => [(3, .s (.one (.i .i64 a3))), (9, .s (.one (.b v1))), (11, .s (.one (.sl v4.length (v4.flatMap eGApiKV)))), (12, .s (.one (.i .i64 b5)))]) (fun b5 => [.box a1, .box v3]) (fun b5 => m5_l08_StoreScans_k5 a3 v1 v4 b5 = some r) (fun _ _ => inbL_of rfl) (fun _ _ => blkinb_of rfl) (fun _ _ => Nat.le_of_ble_eq_true rfl) (fun b5 h => ?_) ?_
    · unfold m5_l08_StoreScans_k5 at h
      refine cseq ?_
      refine cregion ?_
      refine sv rfl (opv_mv rfl) ?_
      refine sv rfl (opv_mv rfl) ?_
      refine ssplit 101 rfl (fun hc => ?_) (fun hc => ?_)
      · replace h := ite_t hc h
        clear hc
        refine son rfl rfl rfl ?_
        refine sv rfl (opv_mv rfl) ?_
        refine son rfl rfl rfl ?_
        refine sv rfl (opv_len_sl si49 rfl) ?_
        refine son rfl rfl rfl ?_
        refine sv rfl (opv_mv rfl) ?_
        refine son rfl rfl rfl ?_
        refine sv rfl (opv_mv rfl) ?_
        refine son rfl rfl rfl ?_
        refine sv rfl (opv_min rfl rfl) ?_
        refine son rfl rfl rfl ?_
        refine sv rfl (opv_max rfl rfl) ?_
        refine son rfl rfl rfl ?_
        refine sv rfl (opv_ieql rfl rfl) ?_
        refine sv rfl (opv_pick_t rfl rfl) ?_
        refine sv rfl (opv_as rfl) ?_
        refine snil ?_
        refine cret ?_
        obtain rfl := Option.some.inj h
        refine ⟨Or.inr rfl, _, _, _, (resVs_cons (ResV.tmp _ _ rfl) resVs_nil), (pubA_id rfl), ?_⟩
        rfl
      · replace h := ite_f hc h
        clear hc
        refine soff rfl rfl rfl rfl ?_
        refine soff rfl rfl rfl rfl ?_
        refine soff rfl rfl rfl rfl ?_
        refine soff rfl rfl rfl rfl ?_
        refine soff rfl rfl rfl rfl ?_
        refine soff rfl rfl rfl rfl ?_
        refine soff rfl rfl rfl rfl ?_
        refine sv rfl (opv_pick_f rfl rfl) ?_
        refine sv rfl (opv_as rfl) ?_
        refine snil ?_
        refine cret ?_
        obtain rfl := Option.some.inj h
        refine ⟨Or.inr rfl, _, _, _, (resVs_cons (ResV.tmp _ _ rfl) resVs_nil), (pubA_id rfl), ?_⟩
        rfl
    · skip
      refine cblock ?_
      obtain ⟨x6, hx6, ho6⟩ := bind_eq h
      refine awc_loop (G := Nat × (Int × Int)) (fun g => [(2, .s (.one (.i .i64 a2))), (3, .s (.one (.i .i64 a3))), (5, .s (.one (.lp 0 0))), (9, .s (.one (.b v1))), (10, .s (.one (.lp 1 0))), (11, .s (.one (.sl v4.length (v4.flatMap eGApiKV)))), (12, .s (.one (.i .i64 g.2.1))), (13, .s (.one (.i .i64 g.2.2)))]) (fun g => [.box a1, .box v3]) (fun g => iter (m5_l08_StoreScans_s6 a1 a2 a3 v3 v4) g.1 g.2 = some x6) (fun g => g.1) (fuel, (0, 0)) hx6 ⟨rfl, rfl, rfl, rfl, rfl, rfl, rfl, rfl, trivial⟩ [] rfl (fun _ _ => inbL_of rfl) (fun _ _ => blkinb_of rfl) (fun _ _ => Nat.le_of_ble_eq_true rfl) ?_
      clear hx6 h
      rintro ⟨n6, s6⟩ h
      obtain ⟨n6, y6, rfl, h, hk6⟩ := iter_eq h
      unfold m5_l08_StoreScans_s6 at h
      refine cseq ?_
      refine cseq ?_
      refine cregion ?_
      refine sv rfl (opv_mv rfl) ?_
      refine sv rfl (opv_fieldAddr_lp fi36_0 rfl) ?_
      refine sv rfl (opv_load1 ti22 rfl (.lp _ _ _ rfl) rfl) ?_
      refine sv rfl (opv_len_sl si22 rfl) ?_
      refine sv rfl (opv_lss rfl rfl) ?_
      refine snil ?_
      refine ccond rfl (fun hc => ?_) (fun hc => ?_)
      · replace h := ite_t hc h
        clear hc
        refine cskip ?_
        refine then_normal ?_
        refine cseq ?_
        refine cblock ?_
        refine cseq ?_
        obtain ⟨u7, hu7, h⟩ := bind_eq h
        obtain ⟨v8, hv8, h⟩ := bind_eq h
        refine cdraw_e [] [0, 0, 2, 0, 14, 30, 0, 127, 255, 511, 511, 1023, 4095] [[.box a1, .box v3]] (by kernel_rfl) mixed (by kernel_rfl) (by decide) rfl rfl rfl rfl ?_
        refine ev (sees_at 0 rfl rfl) rfl rfl (opv_loadN ti36 rfl (.lp _ _ _ rfl) (Nat.le_of_ble_eq_true rfl)) ?_
        refine ev (sees_at 0 rfl rfl) rfl rfl (opv_fieldAddr_lp fi36_0 rfl) ?_
        refine ev (sees_at 0 rfl rfl) rfl rfl (opv_load1 ti22 rfl (.lp _ _ _ rfl) rfl) ?_
        refine ev (sees_at 0 rfl rfl) rfl rfl (opv_mv rfl) ?_
        refine ev (sees_at 0 rfl rfl) rfl rfl (opv_ix (f := (eL eU8)) si22 (fun _ => rfl) rfl rfl rfl rfl hu7) ?_
        refine ev (sees_at 0 rfl rfl) rfl rfl (opv_load1 ti26 rfl (.cp _) rfl) ?_
        refine ev (sees_at 0 rfl rfl) rfl rfl (opv_mv rfl) ?_
        refine ed (sees_at 0 rfl rfl) rfl rfl (opD_call fn14 (opnds_cons rfl (opnds_cons rfl (opnds_cons rfl opnds_nil))) rfl (m14_store_Get_c hv8)) ?_
        refine ev (sees_at 0 rfl rfl) rfl rfl (opv_mvt rfl) ?_
        refine ev (sees_at 0 rfl rfl) rfl rfl (opv_extract rfl rfl) ?_
        refine ev (sees_at 0 rfl rfl) rfl rfl (opv_extract rfl rfl) ?_
        refine ev (sees_at 0 rfl rfl) rfl rfl (opv_as rfl) ?_
        refine ev (sees_at 0 rfl rfl) rfl rfl (opv_as rfl) ?_
        refine enil ?_
        refine then_normal ?_
        refine cseq ?_
        refine cseq ?_
        refine cjoin3 (Unit) (fun b9 => [(2, .s (.one (.i .i64 a2))), (3, .s (.one (.i .i64 a3))), (5, .s (.one (.lp 0 0))), (9, .s (.one (.b v1))), (10, .s (.one (.lp 1 0))), (11, .s (.one (.sl v4.length (v4.flatMap eGApiKV)))), (12, .s (.one (.i .i64 s6.1))), (13, .s (.one (.i .i64 s6.2))), (14, .s (.one (.sl v8.1.length (v8.1.flatMap eU8))))]) (fun b9 => [.box a1, .box v3]) (fun b9 => m5_l08_StoreScans_k9 a3 v3 v4 s6 v8 b9 = some y6) (fun _ _ => inbL_of rfl) (fun _ _ => blkinb_of rfl) (fun _ _ => Nat.le_of_ble_eq_true rfl) (fun b9 h => ?_) ?_
        · unfold m5_l08_StoreScans_k9 at h
          refine cseq ?_
          refine cseq ?_
          refine cjoin3 (Unit) (fun b10 => [(2, .s (.one (.i .i64 a2))), (3, .s (.one (.i .i64 a3))), (5, .s (.one (.lp 0 0))), (9, .s (.one (.b v1))), (10, .s (.one (.lp 1 0))), (11, .s (.one (.sl v4.length (v4.flatMap eGApiKV)))), (12, .s (.one (.i .i64 s6.1))), (13, .s (.one (.i .i64 s6.2)))]) (fun b10 => [.box a1, .box v3]) (fun b10 => m5_l08_StoreScans_k10 s6 b10 = some y6) (fun _ _ => inbL_of rfl) (fun _ _ => blkinb_of rfl) (fun _ _ => Nat.le_of_ble_eq_true rfl) (fun b10 h => ?_) ?_
          · unfold m5_l08_StoreScans_k10 at h
            refine cregion ?_
            refine sv rfl (opv_mv rfl) ?_
            refine sv rfl (opv_add rfl rfl) ?_
            refine sv rfl (opv_as rfl) ?_
            refine snil0 ?_
            refine block_normal ?_
            refine then_normal ?_
            refine cregion ?_
            refine sv rfl (opv_mv rfl) ?_
            refine sv rfl (opv_add rfl rfl) ?_
            refine sv rfl (opv_as rfl) ?_
            refine snil ?_
            obtain rfl := Option.some.inj h
            exact ⟨(n6, ((wI (s6.1 + 1)), (wI (s6.2 + 1)))), _, hk6, ⟨rfl, rfl, rfl, rfl, rfl, rfl, rfl, rfl, trivial⟩, rfl, Nat.lt_succ_self _⟩
          · skip
            refine cdraw mixed (by kernel_rfl) ?_
            refine dv rfl (opv_mv rfl) ?_
            refine dv rfl (opv_mv rfl) ?_
            refine dv rfl (opv_lss rfl rfl) ?_
            refine dv rfl (opv_mv rfl) ?_
            refine dsplit 66 rfl (fun hc => ?_) (fun hc => ?_)
            · replace h := ite_t hc h
              clear hc
              refine dvg rfl rfl rfl (opv_mv rfl) ?_
              refine dvg rfl rfl rfl (opv_mv rfl) ?_
              refine dvg rfl rfl rfl (opv_len_sl si49 rfl) ?_
              refine dvg rfl rfl rfl (opv_geq rfl rfl) ?_
              refine dvg rfl rfl rfl (opv_mv rfl) ?_
              refine dsplit 71 rfl (fun hc => ?_) (fun hc => ?_)
              · replace h := ite_t hc h
                clear hc
                refine doff rfl rfl rfl rfl ?_
                refine doff rfl rfl rfl rfl ?_
                refine doff rfl rfl rfl rfl ?_
                refine doff rfl rfl rfl rfl ?_
                refine doff rfl rfl rfl rfl ?_
                refine doff rfl rfl rfl rfl ?_
                refine doff rfl rfl rfl rfl ?_
                refine doff rfl rfl rfl rfl ?_
                refine doff rfl rfl rfl rfl ?_
                refine doff rfl rfl rfl rfl ?_
                refine doff rfl rfl rfl rfl ?_
                refine doff rfl rfl rfl rfl ?_
                refine doff rfl rfl rfl rfl ?_
                refine dvg rfl rfl rfl (opv_pick_t rfl rfl) ?_
                refine dvg rfl rfl rfl (opv_mv rfl) ?_
                refine doff rfl rfl rfl rfl ?_
                refine doff rfl rfl rfl rfl ?_
                refine doff rfl rfl rfl rfl ?_
                refine doff rfl rfl rfl rfl ?_
                refine doff rfl rfl rfl rfl ?_
                refine doff rfl rfl rfl rfl ?_
                refine doff rfl rfl rfl rfl ?_
                refine doff rfl rfl rfl rfl ?_
                refine doff rfl rfl rfl rfl ?_
                refine dvg rfl rfl rfl (opv_pick_t rfl rfl) ?_
                refine dv rfl (opv_pick_t rfl rfl) ?_
                refine dnil ?_
                refine then_normal ?_
                refine ccond rfl (fun _ => ?_) (fun hx => Bool.noConfusion hx)
                refine cseq ?_
                refine cregion ?_
                refine sv rfl (opv_as rfl) ?_
                refine snil ?_
                refine cret ?_
                refine then_ret ?_
                refine block_ret ?_
                refine then_ret ?_
                refine then_ret ?_
                refine block_ret ?_
                refine then_ret ?_
                obtain rfl := Option.some.inj h
                obtain rfl : Sum.inl _ = x6 := hk6
                replace ho6 : some _ = some _ := ho6
                obtain rfl := Option.some.inj ho6
                refine ⟨Or.inr rfl, _, _, _, (resVs_cons (ResV.tmp _ _ rfl) resVs_nil), (pubA_id rfl), ?_⟩
                rfl
              · replace h := ite_f hc h
                clear hc
                refine dvg rfl rfl rfl (opv_mv rfl) ?_
                refine dvg rfl rfl rfl (opv_mv rfl) ?_
                obtain ⟨u11, hu11, h⟩ := bind_eq h
                refine dvg rfl rfl rfl (opv_ix (f := eGApiKV) si49 (fun _ => rfl) rfl rfl rfl rfl hu11) ?_
                refine dvg rfl rfl rfl (opv_fieldAddr_cp fi71_0 rfl) ?_
                refine dvg rfl rfl rfl (opv_load1 ti26 rfl (.cp _) rfl) ?_
                refine dvg rfl rfl rfl (opv_bs (l := u11.Key) Try.underlying26 Try.underlying5 Try.underlying9 rfl rfl rfl) ?_
                refine dvg rfl rfl rfl (opv_fieldAddr_lp fi36_0 rfl) ?_
                refine dvg rfl rfl rfl (opv_load1 ti22 rfl (.lp _ _ _ rfl) rfl) ?_
                refine dvg rfl rfl rfl (opv_mv rfl) ?_
                obtain ⟨u12, hu12, h⟩ := bind_eq h
                refine dvg rfl rfl rfl (opv_ix (f := (eL eU8)) si22 (fun _ => rfl) rfl rfl rfl rfl hu12) ?_
                refine dvg rfl rfl rfl (opv_load1 ti26 rfl (.cp _) rfl) ?_
                refine dvg rfl rfl rfl (opv_bs (l := u12) Try.underlying26 Try.underlying5 Try.underlying9 rfl rfl rfl) ?_
                refine dvg rfl rfl rfl (opv_sneq' rfl rfl) ?_
                refine dvg rfl rfl rfl (opv_pick_f rfl rfl) ?_
                refine dvg rfl rfl rfl (opv_mv rfl) ?_
                refine dsplit 86 rfl (fun hc => ?_) (fun hc => ?_)
                · replace h := ite_t hc h
                  clear hc
                  refine doff rfl rfl rfl rfl ?_
                  refine doff rfl rfl rfl rfl ?_
                  refine doff rfl rfl rfl rfl ?_
                  refine doff rfl rfl rfl rfl ?_
                  refine doff rfl rfl rfl rfl ?_
                  refine doff rfl rfl rfl rfl ?_
                  refine doff rfl rfl rfl rfl ?_
                  refine doff rfl rfl rfl rfl ?_
                  refine doff rfl rfl rfl rfl ?_
                  refine dvg rfl rfl rfl (opv_pick_t rfl rfl) ?_
                  refine dv rfl (opv_pick_t rfl rfl) ?_
                  refine dnil ?_
                  refine then_normal ?_
                  refine ccond rfl (fun _ => ?_) (fun hx => Bool.noConfusion hx)
                  refine cseq ?_
                  refine cregion ?_
                  refine sv rfl (opv_as rfl) ?_
                  refine snil ?_
                  refine cret ?_
                  refine then_ret ?_
                  refine block_ret ?_
                  refine then_ret ?_
                  refine then_ret ?_
                  refine block_ret ?_
                  refine then_ret ?_
                  obtain rfl := Option.some.inj h
                  obtain rfl : Sum.inl _ = x6 := hk6
                  replace ho6 : some _ = some _ := ho6
                  obtain rfl := Option.some.inj ho6
                  refine ⟨Or.inr rfl, _, _, _, (resVs_cons (ResV.tmp _ _ rfl) resVs_nil), (pubA_id rfl), ?_⟩
                  rfl
                · replace h := ite_f hc h
                  clear hc
                  refine dvg rfl rfl rfl (opv_mv rfl) ?_
                  refine dvg rfl rfl rfl (opv_mv rfl) ?_
                  obtain ⟨u13, hu13, h⟩ := bind_eq h
                  refine dvg rfl rfl rfl (opv_ix (f := eGApiKV) si49 (fun _ => rfl) rfl rfl rfl rfl hu13) ?_
                  refine dvg rfl rfl rfl (opv_fieldAddr_cp fi71_1 rfl) ?_
                  refine dvg rfl rfl rfl (opv_load1 ti26 rfl (.cp _) rfl) ?_
                  refine dvg rfl rfl rfl (opv_bs (l := u13.Val) Try.underlying26 Try.underlying5 Try.underlying9 rfl rfl rfl) ?_
                  refine dvg rfl rfl rfl (opv_mv rfl) ?_
                  refine dvg rfl rfl rfl (opv_bs (l := v8.1) Try.underlying26 Try.underlying5 Try.underlying9 rfl rfl rfl) ?_
                  refine dvg rfl rfl rfl (opv_sneq' rfl rfl) ?_
                  refine dvg rfl rfl rfl (opv_pick_f rfl rfl) ?_
                  refine dv rfl (opv_pick_t rfl rfl) ?_
                  refine dnil ?_
                  refine then_normal ?_
                  refine ccond rfl (fun hc => ?_) (fun hc => ?_)
                  · replace h := ite_t hc h
                    clear hc
                    refine cseq ?_
                    refine cregion ?_
                    refine sv rfl (opv_as rfl) ?_
                    refine snil ?_
                    refine cret ?_
                    refine then_ret ?_
                    refine block_ret ?_
                    refine then_ret ?_
                    refine then_ret ?_
                    refine block_ret ?_
                    refine then_ret ?_
                    obtain rfl := Option.some.inj h
                    obtain rfl : Sum.inl _ = x6 := hk6
                    replace ho6 : some _ = some _ := ho6
                    obtain rfl := Option.some.inj ho6
                    refine ⟨Or.inr rfl, _, _, _, (resVs_cons (ResV.tmp _ _ rfl) resVs_nil), (pubA_id rfl), ?_⟩
                    rfl
                  · replace h := ite_f hc h
                    clear hc
                    refine cskip ?_
                    refine then_normal ?_
                    exact ⟨(), _, h, ⟨rfl, rfl, rfl, rfl, rfl, rfl, rfl, rfl, trivial⟩, rfl⟩
            · replace h := ite_f hc h
              clear hc
              refine doff rfl rfl rfl rfl ?_
              refine doff rfl rfl rfl rfl ?_
              refine doff rfl rfl rfl rfl ?_
              refine doff rfl rfl rfl rfl ?_
              refine doff rfl rfl rfl rfl ?_
              refine doffu rfl rfl rfl ?_
              refine doffu rfl rfl rfl ?_
              refine doffu rfl rfl rfl ?_
              refine doffu rfl rfl rfl ?_
              refine doffu rfl rfl rfl ?_
              refine doffu rfl rfl rfl ?_
              refine doffu rfl rfl rfl ?_
              refine doffu rfl rfl rfl ?_
              refine doffu rfl rfl rfl ?_
              refine doffu rfl rfl rfl ?_
              refine doffu rfl rfl rfl ?_
              refine doffu rfl rfl rfl ?_
              refine doffu rfl rfl rfl ?_
              refine doff rfl rfl rfl rfl ?_
              refine doff rfl rfl rfl rfl ?_
              refine doffu rfl rfl rfl ?_
              refine doffu rfl rfl rfl ?_
              refine doffu rfl rfl rfl ?_
              refine doffu rfl rfl rfl ?_
              refine doffu rfl rfl rfl ?_
              refine doffu rfl rfl rfl ?_
              refine doffu rfl rfl rfl ?_
              refine doffu rfl rfl rfl ?_
              refine doffu rfl rfl rfl ?_
              refine doff rfl rfl rfl rfl ?_
              refine dv rfl (opv_pick_f rfl rfl) ?_
              refine dnil ?_
              refine then_normal ?_
              refine ccond rfl (fun hx => Bool.noConfusion hx) (fun _ => ?_)
              refine cskip ?_
              refine then_normal ?_
              exact ⟨(), _, h, ⟨rfl, rfl, rfl, rfl, rfl, rfl, rfl, rfl, trivial⟩, rfl⟩
        · skip
          refine cdraw mixed (by kernel_rfl) ?_
          refine dv rfl (opv_mv rfl) ?_
          refine dv rfl (opv_not rfl) ?_
          refine dv rfl (opv_mv rfl) ?_
          refine dsplit 53 rfl (fun hc => ?_) (fun hc => ?_)
          · replace h := ite_t hc h
            clear hc
            refine doff rfl rfl rfl rfl ?_
            refine doff rfl rfl rfl rfl ?_
            refine doff rfl rfl rfl rfl ?_
            refine doff rfl rfl rfl rfl ?_
            refine doff rfl rfl rfl rfl ?_
            refine doff rfl rfl rfl rfl ?_
            refine doff rfl rfl rfl rfl ?_
            refine doff rfl rfl rfl rfl ?_
            refine dv rfl (opv_pick_t rfl rfl) ?_
            refine dnil ?_
            refine then_normal ?_
            refine ccond rfl (fun _ => ?_) (fun hx => Bool.noConfusion hx)
            refine cexit ?_
            refine then_exit ?_
            refine block_hit ?_
            refine then_normal ?_
            refine cregion ?_
            refine sv rfl (opv_mv rfl) ?_
            refine sv rfl (opv_add rfl rfl) ?_
            refine sv rfl (opv_as rfl) ?_
            refine snil ?_
            obtain rfl := Option.some.inj h
            exact ⟨(n6, (s6.1, (wI (s6.2 + 1)))), _, hk6, ⟨rfl, rfl, rfl, rfl, rfl, rfl, rfl, rfl, trivial⟩, rfl, Nat.lt_succ_self _⟩
          · replace h := ite_f hc h
            clear hc
            refine dvg rfl rfl rfl (opv_loadN ti28 rfl (.lp _ _ _ rfl) (Nat.le_of_ble_eq_true rfl)) ?_
            refine dvg rfl rfl rfl (opv_fieldAddr_lp fi36_0 rfl) ?_
            refine dvg rfl rfl rfl (opv_load1 ti22 rfl (.lp _ _ _ rfl) rfl) ?_
            refine dvg rfl rfl rfl (opv_mv rfl) ?_
            obtain ⟨u14, hu14, h⟩ := bind_eq h
            refine dvg rfl rfl rfl (opv_ix (f := (eL eU8)) si22 (fun _ => rfl) rfl rfl rfl rfl hu14) ?_
            refine dvg rfl rfl rfl (opv_load1 ti26 rfl (.cp _) rfl) ?_
            obtain ⟨v15, hv15, h⟩ := bind_eq h
            refine ddg rfl rfl rfl (opD_call fn36 (opnds_cons rfl (opnds_cons rfl opnds_nil)) rfl (m36_r06_Has_c hv15)) ?_
            refine dvg rfl rfl rfl (opv_not rfl) ?_
            refine dv rfl (opv_pick_f rfl rfl) ?_
            refine dnil ?_
            refine then_normal ?_
            refine ccond rfl (fun hc => ?_) (fun hc => ?_)
            · replace h := ite_t hc h
              clear hc
              refine cexit ?_
              refine then_exit ?_
              refine block_hit ?_
              refine then_normal ?_
              refine cregion ?_
              refine sv rfl (opv_mv rfl) ?_
              refine sv rfl (opv_add rfl rfl) ?_
              refine sv rfl (opv_as rfl) ?_
              refine snil ?_
              obtain rfl := Option.some.inj h
              exact ⟨(n6, (s6.1, (wI (s6.2 + 1)))), _, hk6, ⟨rfl, rfl, rfl, rfl, rfl, rfl, rfl, rfl, trivial⟩, rfl, Nat.lt_succ_self _⟩
            · replace h := ite_f hc h
              clear hc
              refine cskip ?_
              refine then_normal ?_
              exact ⟨(), _, h, ⟨rfl, rfl, rfl, rfl, rfl, rfl, rfl, rfl, rfl, trivial⟩, rfl⟩
      · replace h := ite_f hc h
        clear hc
        refine cexit ?_
        refine then_exit ?_
        refine then_exit ?_
        refine block_hit ?_
        refine then_normal ?_
        obtain rfl := Option.some.inj h
        obtain rfl : _ = x6 := hk6
        exact ⟨s6.1, _, ho6, ⟨rfl, rfl, rfl, rfl, trivial⟩, rfl⟩
  · skip
    refine cregion ?_
    refine sv rfl (opv_mv rfl) ?_
    obtain ⟨v17, hv17, h⟩ := bind_eq h
    refine scall1 rfl fn34 (opnds_cons rfl opnds_nil) (pubA_id rfl) (m34_l08_few_c hv17) ?_
    refine sv rfl (opv_not rfl) ?_
    refine sv rfl (opv_mv rfl) ?_
    refine ssplit 20 rfl (fun hc => ?_) (fun hc => ?_)
    · replace h := ite_t hc h
      clear hc
      refine soff rfl rfl rfl rfl ?_
      refine soff rfl rfl rfl rfl ?_
      refine soff rfl rfl rfl rfl ?_
      refine sv rfl (opv_pick_t rfl rfl) ?_
      refine snil ?_
      refine ccond rfl (fun _ => ?_) (fun hx => Bool.noConfusion hx)
      refine cseq ?_
      refine cregion ?_
      refine sv rfl (opv_mv rfl) ?_
      refine sv rfl (opv_as rfl) ?_
      refine snil ?_
      refine cret ?_
      refine then_ret ?_
      obtain rfl := Option.some.inj h
      refine ⟨Or.inr rfl, _, _, _, (resVs_cons (ResV.tmp _ _ rfl) resVs_nil), (pubA_id rfl), ?_⟩
      rfl
    · replace h := ite_f hc h
      clear hc
      refine son rfl rfl rfl ?_
      refine sv rfl (opv_loadN ti28 rfl (.lp _ _ _ rfl) (Nat.le_of_ble_eq_true rfl)) ?_
      refine son rfl rfl rfl ?_
      obtain ⟨v18, hv18, h⟩ := bind_eq h
      refine scall1 rfl fn11 (opnds_cons rfl opnds_nil) (pubA_id rfl) (m11_r06_Short_c hv18) ?_
      refine son rfl rfl rfl ?_
      refine sv rfl (opv_not rfl) ?_
      refine sv rfl (opv_pick_f rfl rfl) ?_
      refine snil ?_
      refine ccond rfl (fun hc => ?_) (fun hc => ?_)
      · replace h := ite_t hc h
        clear hc
        refine cseq ?_
        refine cregion ?_
        refine sv rfl (opv_mv rfl) ?_
        refine sv rfl (opv_as rfl) ?_
        refine snil ?_
        refine cret ?_
        refine then_ret ?_
        obtain rfl := Option.some.inj h
        refine ⟨Or.inr rfl, _, _, _, (resVs_cons (ResV.tmp _ _ rfl) resVs_nil), (pubA_id rfl), ?_⟩
        rfl
      · replace h := ite_f hc h
        clear hc
        refine cskip ?_
        refine then_normal ?_
        exact ⟨(), _, h, ⟨rfl, rfl, rfl, rfl, rfl, trivial⟩, rfl⟩

def m77_slices_Cloneo (a0 : List GChainVer) : Option (List GChainVer) :=
  if (([] : List GChainVer).length + a0.length) * 40 ≤ 140737488355328 then (some (([] : List GChainVer) ++ a0)) else none

set_option maxRecDepth 100000 in
theorem m77_slices_Cloneo_c {a0 : List GChainVer} {r : (List GChainVer)} (h : m77_slices_Cloneo a0 = some r) : CallsB Try.prog 77 [] [.one (.sl a0.length (a0.flatMap eGChainVer))] (fun y m' => y = .s (.one (.ls 0 r.length)) ∧ m' = [.arr 85 3 0 (r.flatMap eGChainVer)]) := by
  unfold m77_slices_Cloneo at h
  refine callsB_of Try.func77 rfl (nt := 8) rfl (Nat.le_of_ble_eq_true rfl) ?_
  intro w0 S0 X0 H0
  refine cseq ?_
  refine cregion ?_
  refine sv rfl (opv_as rfl) ?_
  refine snil ?_
  refine cseq ?_
  refine cseq ?_
  refine cregion ?_
  refine sv rfl (opv_mv rfl) ?_
  refine snilq rfl Try.underlying80 rfl (fun nq hnq => ?_)
  cases nq
  · skip
    refine snil ?_
    refine ccond rfl (fun hx => Bool.noConfusion hx) (fun _ => ?_)
    refine cskip ?_
    refine then_normal ?_
    refine cseq ?_
    refine cregion ?_
    refine sbuild0 rfl Try.underlying80 ei85 ?_
    refine sv rfl (opv_mv rfl) ?_
    obtain ⟨hb1, h⟩ := chk_eq h
    refine sapp (f := eGChainVer) (xs := ([] : List GChainVer)) (us := a0) rfl Try.underlying80 ei85 ni80 (fun _ => rfl) rfl rfl (.one _ _ _ _ (.id _ rfl)) rfl rfl rfl (.sl _ _ _ (flat_len (f := eGChainVer) (fun _ => rfl) _)) rfl rfl hb1 (by decide) ?_
    refine sv rfl (opv_as rfl) ?_
    refine snil ?_
    refine cret ?_
    obtain rfl := Option.some.inj h
    exact ⟨Or.inr rfl, _, [0], [.one (.ls 0 (([] : List GChainVer) ++ a0).length)], [.arr 85 3 0 ((([] : List GChainVer) ++ a0).flatMap eGChainVer)], (resVs_cons (ResV.tmp _ _ rfl) resVs_nil), rfl, rfl, ⟨by decide, rfl⟩, rfl, rfl, ⟨rfl, rfl⟩⟩
  · obtain rfl := List.eq_nil_of_length_eq_zero (hnq rfl)
    replace h : (some ([] : List GChainVer)) = some r := by first | exact h | (rw [if_pos (by decide)] at h; exact h)
    refine snil ?_
    refine ccond rfl (fun _ => ?_) (fun hx => Bool.noConfusion hx)
    refine cseq ?_
    refine cregion ?_
    refine sv rfl (opv_as rfl) ?_
    refine snil ?_
    refine sadopt_c 85 3 2 (by decide) rfl ?_
    refine cret ?_
    refine then_ret ?_
    obtain rfl := Option.some.inj h
    exact ⟨Or.inr rfl, _, [0], [.one (.ls 0 ([] : List GChainVer).length)], [.arr 85 3 0 (([] : List GChainVer).flatMap eGChainVer)], (resVs_cons (ResV.tmp _ _ rfl) resVs_nil), rfl, rfl, ⟨by decide, rfl⟩, rfl, rfl, ⟨rfl, rfl⟩⟩

def m58_chain_Vacuum_k4 (a0 : GChainChain) (b4 : Int) : Option GChainChain :=
  (cut a0.L b4 (a0.L.length : Int)).bind fun c5 => (m77_slices_Cloneo c5).bind fun v6 => some (GChainChain.mk v6)

def m58_chain_Vacuum_k2 (a0 : GChainChain) (v1 : Int) (b2 : Unit) : Option GChainChain :=
  (idx a0.L v1).bind fun u3 => if u3.Del then (m58_chain_Vacuum_k4 a0 (wI (v1 + 1))) else (m58_chain_Vacuum_k4 a0 v1)
def m58_chain_Vacuum (a0 : GChainChain) (a1 : Int) : Option GChainChain :=
  (m76_chain_seen a0 a1).bind fun v1 => if (decide (v1 < 0)) then (some (GChainChain.mk a0.L)) else ((m52_chain_Sane (GChainChain.mk a0.L)).bind fun v7 => if (!v7) then (some (GChainChain.mk a0.L)) else (m58_chain_Vacuum_k2 a0 v1 ()))

set_option maxRecDepth 100000 in
theorem m58_chain_Vacuum_c {a0 : GChainChain} {a1 : Int} {r : GChainChain} (h : m58_chain_Vacuum a0 a1 = some r) : CallsA Try.prog 58 [.agg [.sl a0.L.length (a0.L.flatMap eGChainVer)], .one (.i .i64 a1)] (· = .s (.agg [.sl r.L.length (r.L.flatMap eGChainVer)])) := by
  unfold m58_chain_Vacuum at h
  refine callsA_of Try.func58 rfl (nt := 31) rfl (Nat.le_of_ble_eq_true rfl) ?_
  intro w0 S0
  refine cseq ?_
  refine cregion ?_
  refine sbox rfl rfl ?_
  refine salloc rfl zi82 ?_
  refine snil ?_
  refine cseq ?_
  refine cregion ?_
  refine sv rfl (opv_loadN ti82 rfl (.lp _ _ _ rfl) (Nat.le_of_ble_eq_true rfl)) ?_
  refine sv rfl (opv_mv rfl) ?_
  obtain ⟨v1, hv1, h⟩ := bind_eq h
  refine scall1 rfl fn76 (opnds_cons rfl (opnds_cons rfl opnds_nil)) (pubA_id rfl) (m76_chain_seen_c hv1) ?_
  refine sv rfl (opv_as rfl) ?_
  refine snil ?_
  refine cseq ?_
  refine cseq ?_
  refine cjoin3 (Unit) (fun b2 => [(2, .s (.one (.lp 0 0))), (4, .s (.one (.lp 1 0))), (5, .s (.one (.i .i64 v1)))]) (fun b2 => [.box [.sl a0.L.length (a0.L.flatMap eGChainVer)], .box [.raw (.slice none 0 0)]]) (fun b2 => m58_chain_Vacuum_k2 a0 v1 b2 = some r) (fun _ _ => inbL_of rfl) (fun _ _ => blkinb_of rfl) (fun _ _ => Nat.le_of_ble_eq_true rfl) (fun b2 h => ?_) ?_
  · unfold m58_chain_Vacuum_k2 at h
    refine cseq ?_
    refine cseq ?_
    refine cregion ?_
    refine sv rfl (opv_fieldAddr_lp fi82_0 rfl) ?_
    refine sv rfl (opv_load1 ti80 rfl (.lp _ _ _ rfl) rfl) ?_
    refine sv rfl (opv_mv rfl) ?_
    obtain ⟨u3, hu3, h⟩ := bind_eq h
    refine sv rfl (opv_ix (f := eGChainVer) si80 (fun _ => rfl) rfl rfl rfl rfl hu3) ?_
    refine sv rfl (opv_fieldAddr_cp fi85_2 rfl) ?_
    refine sv rfl (opv_load1 ti4 rfl (.cp _) rfl) ?_
    refine snil ?_
    refine cjoin (Int) (fun b4 => [(2, .s (.one (.lp 0 0))), (4, .s (.one (.lp 1 0))), (5, .s (.one (.i .i64 b4)))]) (fun b4 => [.box [.sl a0.L.length (a0.L.flatMap eGChainVer)], .box [.raw (.slice none 0 0)]]) (fun b4 => m58_chain_Vacuum_k4 a0 b4 = some r) (fun _ _ => inbL_of rfl) (fun _ _ => blkinb_of rfl) (fun _ _ => Nat.le_of_ble_eq_true rfl) (fun b4 h => ?_) ?_
    · unfold m58_chain_Vacuum_k4 at h
      refine cseq ?_
      refine cregion ?_
      refine sv rfl (opv_fieldAddr_lp fi82_0 rfl) ?_
      refine sv rfl (opv_load1 ti80 rfl (.lp _ _ _ rfl) rfl) ?_
      refine sv rfl (opv_mv rfl) ?_
      obtain ⟨c5, hc5, h⟩ := bind_eq h
      refine sv rfl (opv_cut (f := eGChainVer) (lo := b4) (hi := (a0.L.length : Int)) si80 (fun _ => rfl) rfl rfl rfl (bound_some rfl (cut_eq hc5).1.1) (by exact rfl) hc5) ?_
      obtain ⟨v6, hv6, h⟩ := bind_eq h
      refine scallB (x' := .s (.one (.ls 2 v6.length))) (M' := [.box [.sl a0.L.length (a0.L.flatMap eGChainVer)], .box [.raw (.slice none 0 0)], .arr 85 3 0 (v6.flatMap eGChainVer)]) [] rfl fn77 (.func _) (opnds_cons rfl opnds_nil) (m77_slices_Cloneo_c hv6) rfl rfl (by decide) rfl rfl rfl ?_
      refine sv rfl (opv_build zi82 pi82 (parts_cons rfl parts_nil) (.cons _ _ _ _ _ _ _ rfl rfl (Nat.le_of_ble_eq_true rfl) (.nil _))) ?_
      refine sstore sz82 rfl rfl rfl rfl (Nat.le_of_ble_eq_true rfl) ?_
      refine smem [.box [.sl a0.L.length (a0.L.flatMap eGChainVer)], .box [.ls 2 v6.length], .arr 85 3 0 (v6.flatMap eGChainVer)] rfl ?_
      refine snil ?_
      refine cret ?_
      obtain rfl := Option.some.inj h
      refine ⟨Or.inr rfl, _, _, _, (resVs_cons (ResV.agg _ _ _ _ _ ti82 rfl (.lp _ _ _ rfl) (Nat.le_of_ble_eq_true rfl)) resVs_nil), (by (repeat' first | exact PubA.nil _ | apply PubA.cons | apply PubV.one | apply PubV.agg | exact PubL.nil | exact PubL.ls _ _ _ _ _ _ rfl (flat_len (f := eGChainVer) (fun _ => rfl) _).symm | exact PubL.id _ rfl | exact PubLs.nil _ | apply PubLs.cons)), ?_⟩
      rfl
    · skip
      refine ccond rfl (fun hc => ?_) (fun hc => ?_)
      · replace h := ite_t hc h
        clear hc
        refine cregion ?_
        refine sv rfl (opv_mv rfl) ?_
        refine sv rfl (opv_add rfl rfl) ?_
        refine sv rfl (opv_as rfl) ?_
        refine snil ?_
        exact ⟨(wI (v1 + 1)), _, h, ⟨rfl, rfl, rfl, trivial⟩, rfl⟩
      · replace h := ite_f hc h
        clear hc
        refine cskip ?_
        refine then_normal ?_
        exact ⟨v1, _, h, ⟨rfl, rfl, rfl, trivial⟩, rfl⟩
  · skip
    refine cregion ?_
    refine sv rfl (opv_mv rfl) ?_
    refine sv rfl (opv_lss rfl rfl) ?_
    refine sv rfl (opv_mv rfl) ?_
    refine ssplit 11 rfl (fun hc => ?_) (fun hc => ?_)
    · replace h := ite_t hc h
      clear hc
      refine soff rfl rfl rfl rfl ?_
      refine soff rfl rfl rfl rfl ?_
      refine soff rfl rfl rfl rfl ?_
      refine sv rfl (opv_pick_t rfl rfl) ?_
      refine snil ?_
      refine ccond rfl (fun _ => ?_) (fun hx => Bool.noConfusion hx)
      refine cseq ?_
      refine cregion ?_
      refine sv rfl (opv_loadN ti82 rfl (.lp _ _ _ rfl) (Nat.le_of_ble_eq_true rfl)) ?_
      refine sstore sz82 rfl rfl rfl rfl (Nat.le_of_ble_eq_true rfl) ?_
      refine smem [.box [.sl a0.L.length (a0.L.flatMap eGChainVer)], .box [.sl a0.L.length (a0.L.flatMap eGChainVer)]] rfl ?_
      refine snil ?_
      refine cret ?_
      refine then_ret ?_
      obtain rfl := Option.some.inj h
      refine ⟨Or.inr rfl, _, _, _, (resVs_cons (ResV.agg _ _ _ _ _ ti82 rfl (.lp _ _ _ rfl) (Nat.le_of_ble_eq_true rfl)) resVs_nil), (pubA_id rfl), ?_⟩
      rfl
    · replace h := ite_f hc h
      clear hc
      refine son rfl rfl rfl ?_
      refine sv rfl (opv_loadN ti82 rfl (.lp _ _ _ rfl) (Nat.le_of_ble_eq_true rfl)) ?_
      refine son rfl rfl rfl ?_
      obtain ⟨v7, hv7, h⟩ := bind_eq h
      refine scall1 rfl fn52 (opnds_cons rfl opnds_nil) (pubA_id rfl) (m52_chain_Sane_c hv7) ?_
      refine son rfl rfl rfl ?_
      refine sv rfl (opv_not rfl) ?_
      refine sv rfl (opv_pick_f rfl rfl) ?_
      refine snil ?_
      refine ccond rfl (fun hc => ?_) (fun hc => ?_)
      · replace h := ite_t hc h
        clear hc
        refine cseq ?_
        refine cregion ?_
        refine sv rfl (opv_loadN ti82 rfl (.lp _ _ _ rfl) (Nat.le_of_ble_eq_true rfl)) ?_
        refine sstore sz82 rfl rfl rfl rfl (Nat.le_of_ble_eq_true rfl) ?_
        refine smem [.box [.sl a0.L.length (a0.L.flatMap eGChainVer)], .box [.sl a0.L.length (a0.L.flatMap eGChainVer)]] rfl ?_
        refine snil ?_
        refine cret ?_
        refine then_ret ?_
        obtain rfl := Option.some.inj h
        refine ⟨Or.inr rfl, _, _, _, (resVs_cons (ResV.agg _ _ _ _ _ ti82 rfl (.lp _ _ _ rfl) (Nat.le_of_ble_eq_true rfl)) resVs_nil), (pubA_id rfl), ?_⟩
        rfl
      · replace h := ite_f hc h
        clear hc
        refine cskip ?_
        refine then_normal ?_
        exact ⟨(), _, h, ⟨rfl, rfl, rfl, trivial⟩, rfl⟩

def m25_store_Vacuum_k2 (a0 : GStoreStore) (b2 : (List (List UInt8)) × (List GChainChain)) : Option GStoreStore :=
  some (GStoreStore.mk b2.1 b2.2 a0.Ts)

def m25_store_Vacuum_s3 (a0 : GStoreStore) (a1 : Int) (s3 : Int × (List (List UInt8)) × (List GChainChain)) : Option (LB (Int × (List (List UInt8)) × (List GChainChain)) ((List (List UInt8)) × (List GChainChain))) :=
  if (decide (s3.1 < (a0.Chains.length : Int))) then ((idx a0.Chains s3.1).bind fun u4 => (m58_chain_Vacuum u4 (if a0.Ts < a1 then a0.Ts else a1)).bind fun v5 => if (decide (0 < (v5.L.length : Int))) then ((idx a0.Keys s3.1).bind fun u6 => if (s3.2.1.length + ([u6] : List (List UInt8)).length) * 24 ≤ 140737488355328 then (if (s3.2.2.length + [v5].length) * 24 ≤ 140737488355328 then (some (.cont ((wI (s3.1 + 1)), (s3.2.1 ++ ([u6] : List (List UInt8))), (s3.2.2 ++ [v5])))) else none) else none) else (some (.cont ((wI (s3.1 + 1)), s3.2.1, s3.2.2)))) else (some (.brk (s3.2.1, s3.2.2)))
def m25_store_Vacuum (a0 : GStoreStore) (a1 : Int) : Option GStoreStore :=
  (m23_store_Sane a0).bind fun v1 => if (!v1) then (some a0) else ((iterB (m25_store_Vacuum_s3 a0 a1) fuel (0, ([] : List (List UInt8)), ([] : List GChainChain))).bind fun e9 => m25_store_Vacuum_k2 a0 e9)

set_option maxRecDepth 100000 in
theorem m25_store_Vacuum_c {a0 : GStoreStore} {a1 : Int} {r : GStoreStore} (h : m25_store_Vacuum a0 a1 = some r) : CallsA Try.prog 25 [.agg a0, .one (.i .i64 a1)] (· = .s (.agg r)) := by
  unfold m25_store_Vacuum at h
  refine callsA_of Try.func25 rfl (nt := 52) rfl (Nat.le_of_ble_eq_true rfl) ?_
  intro w0 S0
  refine cseq ?_
  refine cregion ?_
  refine sbox rfl rfl ?_
  refine salloc rfl zi36 ?_
  refine snil ?_
  refine cseq ?_
  refine cseq ?_
  refine cregion ?_
  refine sv rfl (opv_loadN ti36 rfl (.lp _ _ _ rfl) (Nat.le_of_ble_eq_true rfl)) ?_
  obtain ⟨v1, hv1, h⟩ := bind_eq h
  refine scall1 rfl fn23 (opnds_cons rfl opnds_nil) (pubA_id rfl) (m23_store_Sane_c hv1) ?_
  refine sv rfl (opv_not rfl) ?_
  refine snil ?_
  refine ccond rfl (fun hc => ?_) (fun hc => ?_)
  · replace h := ite_t hc h
    clear hc
    refine cseq ?_
    refine cregion ?_
    refine sv rfl (opv_loadN ti36 rfl (.lp _ _ _ rfl) (Nat.le_of_ble_eq_true rfl)) ?_
    refine sstore sz36 rfl rfl rfl rfl (Nat.le_of_ble_eq_true rfl) ?_
    refine smem [.box a0, .box a0] rfl ?_
    refine snil ?_
    refine cret ?_
    refine then_ret ?_
    obtain rfl := Option.some.inj h
    refine ⟨Or.inr rfl, _, _, _, (resVs_cons (ResV.agg _ _ _ _ _ ti36 rfl (.lp _ _ _ rfl) (Nat.le_of_ble_eq_true rfl)) resVs_nil), (pubA_id rfl), ?_⟩
    rfl
  · replace h := ite_f hc h
    clear hc
    refine cskip ?_
    refine then_normal ?_
    refine cseq ?_
    refine cregion ?_
    refine sv rfl (opv_fieldAddr_lp fi36_2 rfl) ?_
    refine sv rfl (opv_load1 ti3 rfl (.lp _ _ _ rfl) rfl) ?_
    refine sv rfl (opv_build zi36 pi36 (parts_cons rfl parts_nil) (.cons _ _ _ _ _ _ _ rfl rfl (Nat.le_of_ble_eq_true rfl) (.nil _))) ?_
    refine salloc rfl zi36 ?_
    refine sstore sz36 rfl rfl rfl rfl (Nat.le_of_ble_eq_true rfl) ?_
    refine smem [.box a0, .box [.raw (.slice none 0 0), .raw (.slice none 0 0), .i .i64 0], .box [.raw (.slice none 0 0), .raw (.slice none 0 0), .i .i64 a0.Ts]] rfl ?_
    refine snil ?_
    refine cseq ?_
    refine cseq ?_
    refine cregion ?_
    refine sv rfl (opv_fieldAddr_lp fi36_1 rfl) ?_
    refine sv rfl (opv_load1 ti34 rfl (.lp _ _ _ rfl) rfl) ?_
    refine sv rfl (opv_len_sl si34 rfl) ?_
    refine sv rfl (opv_mv rfl) ?_
    refine snil ?_
    refine sadopt_box_c 26 1 2 0 (by decide) rfl rfl ?_
    refine sadopt_box_c 82 1 2 1 (by decide) rfl rfl ?_
    refine cjoin ((List (List UInt8)) × (List GChainChain)) (fun b2 => [(4, .s (.one (.lp 1 0))), (5, .s (.one (.lp 2 0)))]) (fun b2 => [.box a0, .box [.raw (.slice none 0 0), .raw (.slice none 0 0), .i .i64 0], .box [.ls 3 b2.1.length, .ls 4 b2.2.length, .i .i64 a0.Ts], .arr 26 1 0 (b2.1.flatMap (eL eU8)), .arr 82 1 0 (b2.2.flatMap eGChainChain)]) (fun b2 => m25_store_Vacuum_k2 a0 b2 = some r) (fun _ _ => inbL_of rfl) (fun _ _ => blkinb_of rfl) (fun _ _ => Nat.le_of_ble_eq_true rfl) (fun b2 h => ?_) ?_
    · unfold m25_store_Vacuum_k2 at h
      refine cseq ?_
      refine cregion ?_
      refine sv rfl (opv_loadN ti36 rfl (.lp _ _ _ rfl) (Nat.le_of_ble_eq_true rfl)) ?_
      refine sstore sz36 rfl rfl rfl rfl (Nat.le_of_ble_eq_true rfl) ?_
      refine smem [.box a0, .box [.ls 3 b2.1.length, .ls 4 b2.2.length, .i .i64 a0.Ts], .box [.ls 3 b2.1.length, .ls 4 b2.2.length, .i .i64 a0.Ts], .arr 26 1 0 (b2.1.flatMap (eL eU8)), .arr 82 1 0 (b2.2.flatMap eGChainChain)] rfl ?_
      refine snil ?_
      refine cret ?_
      obtain rfl := Option.some.inj h
      refine ⟨Or.inr rfl, _, _, _, (resVs_cons (ResV.agg _ _ _ _ _ ti36 rfl (.lp _ _ _ rfl) (Nat.le_of_ble_eq_true rfl)) resVs_nil), (by (repeat' first | exact PubA.nil _ | apply PubA.cons | apply PubV.one | apply PubV.agg | exact PubL.nil | exact PubL.ls _ _ _ _ _ _ rfl (flat_len (f := (eL eU8)) (fun _ => rfl) _).symm | exact PubL.ls _ _ _ _ _ _ rfl (flat_len (f := eGChainChain) (fun _ => rfl) _).symm | exact PubL.id _ rfl | exact PubLs.nil _ | apply PubLs.cons)), ?_⟩
      rfl
    · skip
      refine cblock ?_
      obtain ⟨x3, hx3, ho3⟩ := bind_eq h
      refine awc_loop (G := Nat × (Int × (List (List UInt8)) × (List GChainChain))) (fun g => [(1, .s (.one (.i .i64 a1))), (2, .s (.one (.lp 0 0))), (4, .s (.one (.lp 1 0))), (5, .s (.one (.lp 2 0))), (17, .s (.one (.sl a0.Chains.length (a0.Chains.flatMap eGChainChain)))), (18, .s (.one (.i .i64 (a0.Chains.length : Int)))), (19, .s (.one (.i .i64 g.2.1)))]) (fun g => [.box a0, .box [.raw (.slice none 0 0), .raw (.slice none 0 0), .i .i64 0], .box [.ls 3 g.2.2.1.length, .ls 4 g.2.2.2.length, .i .i64 a0.Ts], .arr 26 1 0 (g.2.2.1.flatMap (eL eU8)), .arr 82 1 0 (g.2.2.2.flatMap eGChainChain)]) (fun g => iterB (m25_store_Vacuum_s3 a0 a1) g.1 g.2 = some x3) (fun g => g.1) (fuel, (0, ([] : List (List UInt8)), ([] : List GChainChain))) hx3 ⟨rfl, rfl, rfl, rfl, rfl, rfl, rfl, trivial⟩ [] rfl (fun _ _ => inbL_of rfl) (fun _ _ => blkinb_of rfl) (fun _ _ => Nat.le_of_ble_eq_true rfl) ?_
      clear hx3 h
      rintro ⟨n3, s3⟩ h
      obtain ⟨n3, y3, rfl, h, hk3⟩ := iterB_eq h
      unfold m25_store_Vacuum_s3 at h
      refine cseq ?_
      refine cregion ?_
      refine sv rfl (opv_lss rfl rfl) ?_
      refine snil ?_
      refine cseq ?_
      refine ccond rfl (fun hc => ?_) (fun hc => ?_)
      · replace h := ite_t hc h
        clear hc
        refine cskip ?_
        refine then_normal ?_
        refine cseq ?_
        refine cblock ?_
        refine cseq ?_
        refine cregion ?_
        refine sv rfl (opv_mv rfl) ?_
        obtain ⟨u4, hu4, h⟩ := bind_eq h
        refine sv rfl (opv_ix (f := eGChainChain) si34 (fun _ => rfl) rfl rfl rfl rfl hu4) ?_
        refine sv rfl (opv_loadNe (ys := [.sl u4.L.length (u4.L.flatMap eGChainVer)]) ti82 rfl (.cp _) rfl rfl) ?_
        refine salloc rfl zi82 ?_
        refine sv rfl (opv_as rfl) ?_
        refine sstore sz82 rfl rfl rfl rfl (Nat.le_of_ble_eq_true rfl) ?_
        refine smem [.box a0, .box [.raw (.slice none 0 0), .raw (.slice none 0 0), .i .i64 0], .box [.ls 3 s3.2.1.length, .ls 4 s3.2.2.length, .i .i64 a0.Ts], .arr 26 1 0 (s3.2.1.flatMap (eL eU8)), .arr 82 1 0 (s3.2.2.flatMap eGChainChain), .box [.sl u4.L.length (u4.L.flatMap eGChainVer)]] rfl ?_
        refine snil ?_
        refine cseq ?_
        refine cregion ?_
        refine sv rfl (opv_loadN ti82 rfl (.lp _ _ _ rfl) (Nat.le_of_ble_eq_true rfl)) ?_
        refine sv rfl (opv_mv rfl) ?_
        refine sv rfl (opv_fieldAddr_lp fi36_2 rfl) ?_
        refine sv rfl (opv_load1 ti3 rfl (.lp _ _ _ rfl) rfl) ?_
        refine sv rfl (opv_min rfl rfl) ?_
        obtain ⟨v5, hv5, h⟩ := bind_eq h
        refine scall1 rfl fn58 (opnds_cons rfl (opnds_cons rfl opnds_nil)) (pubA_id rfl) (m58_chain_Vacuum_c hv5) ?_
        refine salloc rfl zi82 ?_
        refine sstore sz82 rfl rfl rfl rfl (Nat.le_of_ble_eq_true rfl) ?_
        refine smem [.box a0, .box [.raw (.slice none 0 0), .raw (.slice none 0 0), .i .i64 0], .box [.ls 3 s3.2.1.length, .ls 4 s3.2.2.length, .i .i64 a0.Ts], .arr 26 1 0 (s3.2.1.flatMap (eL eU8)), .arr 82 1 0 (s3.2.2.flatMap eGChainChain), .box [.sl u4.L.length (u4.L.flatMap eGChainVer)], .box [.sl v5.L.length (v5.L.flatMap eGChainVer)]] rfl ?_
        refine snil ?_
        refine cseq ?_
        refine cregion ?_
        refine sv rfl (opv_fieldAddr_lp fi82_0 rfl) ?_
        refine sv rfl (opv_load1 ti80 rfl (.lp _ _ _ rfl) rfl) ?_
        refine sv rfl (opv_len_sl si80 rfl) ?_
        refine sv rfl (opv_gtr rfl rfl) ?_
        refine snil ?_
        refine ccond rfl (fun hc => ?_) (fun hc => ?_)
        · replace h := ite_t hc h
          clear hc
          refine cseq ?_
          obtain ⟨u6, hu6, h⟩ := bind_eq h
          obtain ⟨hb7, h⟩ := chk_eq h
          refine cdraw_e [8, 10] [0, 1, 0, 4, 0, 28, 60, 124, 255, 511, 1023] [[.box a0, .box [.raw (.slice none 0 0), .raw (.slice none 0 0), .i .i64 0], .box [.ls 3 s3.2.1.length, .ls 4 s3.2.2.length, .i .i64 a0.Ts], .arr 26 1 0 (s3.2.1.flatMap (eL eU8)), .arr 82 1 0 (s3.2.2.flatMap eGChainChain), .box [.sl u4.L.length (u4.L.flatMap eGChainVer)], .box [.sl v5.L.length (v5.L.flatMap eGChainVer)]], [.box a0, .box [.raw (.slice none 0 0), .raw (.slice none 0 0), .i .i64 0], .box [.ls 3 s3.2.1.length, .ls 4 s3.2.2.length, .i .i64 a0.Ts], .arr 26 1 0 ((s3.2.1 ++ ([u6] : List (List UInt8))).flatMap (eL eU8)), .arr 82 1 0 (s3.2.2.flatMap eGChainChain), .box [.sl u4.L.length (u4.L.flatMap eGChainVer)], .box [.sl v5.L.length (v5.L.flatMap eGChainVer)]], [.box a0, .box [.raw (.slice none 0 0), .raw (.slice none 0 0), .i .i64 0], .box [.ls 3 (s3.2.1 ++ ([u6] : List (List UInt8))).length, .ls 4 s3.2.2.length, .i .i64 a0.Ts], .arr 26 1 0 ((s3.2.1 ++ ([u6] : List (List UInt8))).flatMap (eL eU8)), .arr 82 1 0 (s3.2.2.flatMap eGChainChain), .box [.sl u4.L.length (u4.L.flatMap eGChainVer)], .box [.sl v5.L.length (v5.L.flatMap eGChainVer)]]] (by kernel_rfl) mixed (by kernel_rfl) (by decide) rfl rfl rfl rfl ?_
          refine ev (sees_at 0 rfl rfl) rfl rfl (opv_fieldAddr_lp fi36_0 rfl) ?_
          refine ev (sees_at 0 rfl rfl) rfl rfl (opv_load1 ti22 rfl (.lp _ _ _ rfl) rfl) ?_
          refine ev (sees_at 0 rfl rfl) rfl rfl (opv_fieldAddr_lp fi36_0 rfl) ?_
          refine ev (sees_at 0 rfl rfl) rfl rfl (opv_load1 ti22 rfl (.lp _ _ _ rfl) rfl) ?_
          refine ev (sees_at 0 rfl rfl) rfl rfl (opv_mv rfl) ?_
          refine ev (sees_at 0 rfl rfl) rfl rfl (opv_ix (f := (eL eU8)) si22 (fun _ => rfl) rfl rfl rfl rfl hu6) ?_
          refine ev (sees_at 0 rfl rfl) rfl rfl (opv_load1 ti26 rfl (.cp _) rfl) ?_
          refine ed (sees_at 0 rfl rfl) rfl rfl (opD_bld (out := ([u6] : List (List UInt8)).flatMap (eL eU8)) Try.underlying22 ei26 (parts_cons rfl parts_nil) (.cons _ _ _ _ _ _ _ rfl rfl (Nat.le_of_ble_eq_true rfl) (.nil _)) rfl (by decide)) ?_
          refine ee (x := .s (.one (.ls 3 (s3.2.1 ++ ([u6] : List (List UInt8))).length))) 0 rfl rfl rfl rfl rfl (fun ζ => ?_) ?_
          · refine sapp (f := (eL eU8)) (xs := s3.2.1) (us := ([u6] : List (List UInt8))) rfl Try.underlying22 ei26 ni22 (fun _ => rfl) rfl rfl (.one _ _ _ _ (.id _ rfl)) rfl rfl rfl (.sl _ _ _ (flat_len (f := (eL eU8)) (fun _ => rfl) _)) rfl rfl hb7 (by decide) ?_
            exact eend
          refine ev (sees_at 1 rfl rfl) rfl rfl (opv_fieldAddr_lp fi36_0 rfl) ?_
          refine ee0 1 rfl rfl rfl rfl (fun ζ => ?_) ?_
          · refine sstore sz22 rfl rfl rfl rfl (Nat.le_of_ble_eq_true rfl) ?_
            refine smem [.box a0, .box [.raw (.slice none 0 0), .raw (.slice none 0 0), .i .i64 0], .box [.ls 3 (s3.2.1 ++ ([u6] : List (List UInt8))).length, .ls 4 s3.2.2.length, .i .i64 a0.Ts], .arr 26 1 0 ((s3.2.1 ++ ([u6] : List (List UInt8))).flatMap (eL eU8)), .arr 82 1 0 (s3.2.2.flatMap eGChainChain), .box [.sl u4.L.length (u4.L.flatMap eGChainVer)], .box [.sl v5.L.length (v5.L.flatMap eGChainVer)]] rfl ?_
            exact eend
          refine enil ?_
          refine then_normal ?_
          refine cregion ?_
          refine sv rfl (opv_fieldAddr_lp fi36_1 rfl) ?_
          refine sv rfl (opv_load1 ti34 rfl (.lp _ _ _ rfl) rfl) ?_
          refine sv rfl (opv_loadN ti82 rfl (.lp _ _ _ rfl) (Nat.le_of_ble_eq_true rfl)) ?_
          refine sbuild1 rfl Try.underlying34 ei82 rfl rfl (List.all_eq_true.1 rfl) (by decide) ?_
          refine smem [.box a0, .box [.raw (.slice none 0 0), .raw (.slice none 0 0), .i .i64 0], .box [.ls 3 (s3.2.1 ++ ([u6] : List (List UInt8))).length, .ls 4 s3.2.2.length, .i .i64 a0.Ts], .arr 26 1 0 ((s3.2.1 ++ ([u6] : List (List UInt8))).flatMap (eL eU8)), .arr 82 1 0 (s3.2.2.flatMap eGChainChain), .box [.sl u4.L.length (u4.L.flatMap eGChainVer)], .box [.sl v5.L.length (v5.L.flatMap eGChainVer)], .arr 82 1 0 ([v5].flatMap eGChainChain)] rfl ?_
          obtain ⟨hb8, h⟩ := chk_eq h
          refine sapp (f := eGChainChain) (xs := s3.2.2) (us := [v5]) rfl Try.underlying34 ei82 ni34 (fun _ => rfl) rfl rfl (.one _ _ _ _ (.ls _ _ _ _ _ _ rfl (flat_len (f := eGChainChain) (fun _ => rfl) [v5]).symm)) rfl rfl rfl (.sl _ _ _ (flat_len (f := eGChainChain) (fun _ => rfl) _)) rfl rfl hb8 (by decide) ?_
          refine sv rfl (opv_fieldAddr_lp fi36_1 rfl) ?_
          refine sstore sz34 rfl rfl rfl rfl (Nat.le_of_ble_eq_true rfl) ?_
          refine smem [.box a0, .box [.raw (.slice none 0 0), .raw (.slice none 0 0), .i .i64 0], .box [.ls 3 (s3.2.1 ++ ([u6] : List (List UInt8))).length, .ls 4 (s3.2.2 ++ [v5]).length, .i .i64 a0.Ts], .arr 26 1 0 ((s3.2.1 ++ ([u6] : List (List UInt8))).flatMap (eL eU8)), .arr 82 1 0 ((s3.2.2 ++ [v5]).flatMap eGChainChain), .box [.sl u4.L.length (u4.L.flatMap eGChainVer)], .box [.sl v5.L.length (v5.L.flatMap eGChainVer)], .arr 82 1 ([v5].flatMap eGChainChain).length ([v5].flatMap eGChainChain)] rfl ?_
          refine snil0 ?_
          refine block_normal ?_
          refine then_normal ?_
          refine cregion ?_
          refine sv rfl (opv_add rfl rfl) ?_
          refine sv rfl (opv_mv rfl) ?_
          refine snil ?_
          obtain rfl := Option.some.inj h
          exact ⟨(n3, ((wI (s3.1 + 1)), (s3.2.1 ++ ([u6] : List (List UInt8))), (s3.2.2 ++ [v5]))), _, hk3, ⟨rfl, rfl, rfl, rfl, rfl, rfl, rfl, trivial⟩, rfl, Nat.lt_succ_self _⟩
        · replace h := ite_f hc h
          clear hc
          refine cskip ?_
          refine block_normal ?_
          refine then_normal ?_
          refine cregion ?_
          refine sv rfl (opv_add rfl rfl) ?_
          refine sv rfl (opv_mv rfl) ?_
          refine snil ?_
          obtain rfl := Option.some.inj h
          exact ⟨(n3, ((wI (s3.1 + 1)), s3.2.1, s3.2.2)), _, hk3, ⟨rfl, rfl, rfl, rfl, rfl, rfl, rfl, trivial⟩, rfl, Nat.lt_succ_self _⟩
      · replace h := ite_f hc h
        clear hc
        refine cexit ?_
        refine then_exit ?_
        refine then_exit ?_
        refine block_hit ?_
        refine then_normal ?_
        obtain rfl := Option.some.inj h
        obtain rfl : _ = x3 := hk3
        exact ⟨(s3.2.1, s3.2.2), _, ho3, ⟨rfl, rfl, trivial⟩, rfl⟩

def m20_r05_KVs_k1 (b1 : Unit) : Option Bool :=
  some true

def m20_r05_KVs_s2 (a0 : List GApiKV) (a1 : List GApiKV) (s2 : Int) : Option (LR (Int) (Unit) (Bool)) :=
  if (decide (s2 < (a0.length : Int))) then ((idx a0 s2).bind fun u3 => (idx a1 s2).bind fun u4 => if (!(u3.Key == u4.Key)) then (some (.ret false)) else ((idx a0 s2).bind fun u5 => (idx a1 s2).bind fun u6 => if (!(u5.Val == u6.Val)) then (some (.ret false)) else (some (.cont (wI (s2 + 1)))))) else (some (.brk ()))
def m20_r05_KVs (a0 : List GApiKV) (a1 : List GApiKV) : Option Bool :=
  if (!decide ((a0.length : Int) = (a1.length : Int))) then (some false) else ((iter (m20_r05_KVs_s2 a0 a1) fuel 0).bind fun x => match x with | .inl r => some r | .inr e7 => m20_r05_KVs_k1 e7)

set_option maxRecDepth 100000 in
theorem m20_r05_KVs_c {a0 : List GApiKV} {a1 : List GApiKV} {r : Bool} (h : m20_r05_KVs a0 a1 = some r) : CallsA Try.prog 20 [.one (.sl a0.length (a0.flatMap eGApiKV)), .one (.sl a1.length (a1.flatMap eGApiKV))] (· = .s (.one (.b r))) := by
  unfold m20_r05_KVs at h
  refine callsA_of Try.func20 rfl (nt := 45) rfl (Nat.le_of_ble_eq_true rfl) ?_
  intro w0 S0
  refine cseq ?_
  refine cregion ?_
  refine sv rfl (opv_as rfl) ?_
  refine snil ?_
  refine cseq ?_
  refine cseq ?_
  refine cregion ?_
  refine sv rfl (opv_mv rfl) ?_
  refine sv rfl (opv_len_sl si49 rfl) ?_
  refine sv rfl (opv_mv rfl) ?_
  refine sv rfl (opv_len_sl si49 rfl) ?_
  refine sv rfl (opv_ineq rfl rfl) ?_
  refine snil ?_
  refine ccond rfl (fun hc => ?_) (fun hc => ?_)
  · replace h := ite_t hc h
    clear hc
    refine cseq ?_
    refine cregion ?_
    refine sv rfl (opv_as rfl) ?_
    refine snil ?_
    refine cret ?_
    refine then_ret ?_
    obtain rfl := Option.some.inj h
    refine ⟨Or.inr rfl, _, _, _, (resVs_cons (ResV.tmp _ _ rfl) resVs_nil), (pubA_id rfl), ?_⟩
    rfl
  · replace h := ite_f hc h
    clear hc
    refine cskip ?_
    refine then_normal ?_
    refine cseq ?_
    refine cseq ?_
    refine cregion ?_
    refine sv rfl (opv_as rfl) ?_
    refine snil ?_
    refine cjoin (Unit) (fun b1 => []) (fun b1 => []) (fun b1 => m20_r05_KVs_k1 b1 = some r) (fun _ _ => inbL_of rfl) (fun _ _ => blkinb_of rfl) (fun _ _ => Nat.le_of_ble_eq_true rfl) (fun b1 h => ?_) ?_
    · unfold m20_r05_KVs_k1 at h
      refine cseq ?_
      refine cregion ?_
      refine sv rfl (opv_as rfl) ?_
      refine snil ?_
      refine cret ?_
      obtain rfl := Option.some.inj h
      refine ⟨Or.inr rfl, _, _, _, (resVs_cons (ResV.tmp _ _ rfl) resVs_nil), (pubA_id rfl), ?_⟩
      rfl
    · skip
      refine cblock ?_
      obtain ⟨x2, hx2, ho2⟩ := bind_eq h
      refine awc_loop (G := Nat × (Int)) (fun g => [(0, .s (.one (.sl a0.length (a0.flatMap eGApiKV)))), (1, .s (.one (.sl a1.length (a1.flatMap eGApiKV)))), (5, .s (.one (.i .i64 g.2)))]) (fun g => []) (fun g => iter (m20_r05_KVs_s2 a0 a1) g.1 g.2 = some x2) (fun g => g.1) (fuel, 0) hx2 ⟨rfl, rfl, rfl, trivial⟩ [] rfl (fun _ _ => inbL_of rfl) (fun _ _ => blkinb_of rfl) (fun _ _ => Nat.le_of_ble_eq_true rfl) ?_
      clear hx2 h
      rintro ⟨n2, s2⟩ h
      obtain ⟨n2, y2, rfl, h, hk2⟩ := iter_eq h
      unfold m20_r05_KVs_s2 at h
      refine cseq ?_
      refine cseq ?_
      refine cregion ?_
      refine sv rfl (opv_mv rfl) ?_
      refine sv rfl (opv_mv rfl) ?_
      refine sv rfl (opv_len_sl si49 rfl) ?_
      refine sv rfl (opv_lss rfl rfl) ?_
      refine snil ?_
      refine ccond rfl (fun hc => ?_) (fun hc => ?_)
      · replace h := ite_t hc h
        clear hc
        refine cskip ?_
        refine then_normal ?_
        refine cseq ?_
        refine cblock ?_
        refine cseq ?_
        refine cdraw mixed (by kernel_rfl) ?_
        refine dv rfl (opv_mv rfl) ?_
        refine dv rfl (opv_mv rfl) ?_
        obtain ⟨u3, hu3, h⟩ := bind_eq h
        refine dv rfl (opv_ix (f := eGApiKV) si49 (fun _ => rfl) rfl rfl rfl rfl hu3) ?_
        refine dv rfl (opv_fieldAddr_cp fi71_0 rfl) ?_
        refine dv rfl (opv_load1 ti26 rfl (.cp _) rfl) ?_
        refine dv rfl (opv_bs (l := u3.Key) Try.underlying26 Try.underlying5 Try.underlying9 rfl rfl rfl) ?_
        refine dv rfl (opv_mv rfl) ?_
        refine dv rfl (opv_mv rfl) ?_
        obtain ⟨u4, hu4, h⟩ := bind_eq h
        refine dv rfl (opv_ix (f := eGApiKV) si49 (fun _ => rfl) rfl rfl rfl rfl hu4) ?_
        refine dv rfl (opv_fieldAddr_cp fi71_0 rfl) ?_
        refine dv rfl (opv_load1 ti26 rfl (.cp _) rfl) ?_
        refine dv rfl (opv_bs (l := u4.Key) Try.underlying26 Try.underlying5 Try.underlying9 rfl rfl rfl) ?_
        refine dv rfl (opv_sneq' rfl rfl) ?_
        refine dv rfl (opv_mv rfl) ?_
        refine dsplit 30 rfl (fun hc => ?_) (fun hc => ?_)
        · replace h := ite_t hc h
          clear hc
          refine doff rfl rfl rfl rfl ?_
          refine doff rfl rfl rfl rfl ?_
          refine doff rfl rfl rfl rfl ?_
          refine doff rfl rfl rfl rfl ?_
          refine doff rfl rfl rfl rfl ?_
          refine doff rfl rfl rfl rfl ?_
          refine doff rfl rfl rfl rfl ?_
          refine doff rfl rfl rfl rfl ?_
          refine doff rfl rfl rfl rfl ?_
          refine doff rfl rfl rfl rfl ?_
          refine doff rfl rfl rfl rfl ?_
          refine doff rfl rfl rfl rfl ?_
          refine doff rfl rfl rfl rfl ?_
          refine dv rfl (opv_pick_t rfl rfl) ?_
          refine dnil ?_
          refine then_normal ?_
          refine ccond rfl (fun _ => ?_) (fun hx => Bool.noConfusion hx)
          refine cseq ?_
          refine cregion ?_
          refine sv rfl (opv_as rfl) ?_
          refine snil ?_
          refine cret ?_
          refine block_ret ?_
          refine then_ret ?_
          refine then_ret ?_
          refine block_ret ?_
          refine then_ret ?_
          obtain rfl := Option.some.inj h
          obtain rfl : Sum.inl _ = x2 := hk2
          replace ho2 : some _ = some _ := ho2
          obtain rfl := Option.some.inj ho2
          refine ⟨Or.inr rfl, _, _, _, (resVs_cons (ResV.tmp _ _ rfl) resVs_nil), (pubA_id rfl), ?_⟩
          rfl
        · replace h := ite_f hc h
          clear hc
          refine dvg rfl rfl rfl (opv_mv rfl) ?_
          refine dvg rfl rfl rfl (opv_mv rfl) ?_
          obtain ⟨u5, hu5, h⟩ := bind_eq h
          refine dvg rfl rfl rfl (opv_ix (f := eGApiKV) si49 (fun _ => rfl) rfl rfl rfl rfl hu5) ?_
          refine dvg rfl rfl rfl (opv_fieldAddr_cp fi71_1 rfl) ?_
          refine dvg rfl rfl rfl (opv_load1 ti26 rfl (.cp _) rfl) ?_
          refine dvg rfl rfl rfl (opv_bs (l := u5.Val) Try.underlying26 Try.underlying5 Try.underlying9 rfl rfl rfl) ?_
          refine dvg rfl rfl rfl (opv_mv rfl) ?_
          refine dvg rfl rfl rfl (opv_mv rfl) ?_
          obtain ⟨u6, hu6, h⟩ := bind_eq h
          refine dvg rfl rfl rfl (opv_ix (f := eGApiKV) si49 (fun _ => rfl) rfl rfl rfl rfl hu6) ?_
          refine dvg rfl rfl rfl (opv_fieldAddr_cp fi71_1 rfl) ?_
          refine dvg rfl rfl rfl (opv_load1 ti26 rfl (.cp _) rfl) ?_
          refine dvg rfl rfl rfl (opv_bs (l := u6.Val) Try.underlying26 Try.underlying5 Try.underlying9 rfl rfl rfl) ?_
          refine dvg rfl rfl rfl (opv_sneq' rfl rfl) ?_
          refine dv rfl (opv_pick_f rfl rfl) ?_
          refine dnil ?_
          refine then_normal ?_
          refine ccond rfl (fun hc => ?_) (fun hc => ?_)
          · replace h := ite_t hc h
            clear hc
            refine cseq ?_
            refine cregion ?_
            refine sv rfl (opv_as rfl) ?_
            refine snil ?_
            refine cret ?_
            refine block_ret ?_
            refine then_ret ?_
            refine then_ret ?_
            refine block_ret ?_
            refine then_ret ?_
            obtain rfl := Option.some.inj h
            obtain rfl : Sum.inl _ = x2 := hk2
            replace ho2 : some _ = some _ := ho2
            obtain rfl := Option.some.inj ho2
            refine ⟨Or.inr rfl, _, _, _, (resVs_cons (ResV.tmp _ _ rfl) resVs_nil), (pubA_id rfl), ?_⟩
            rfl
          · replace h := ite_f hc h
            clear hc
            refine cskip ?_
            refine block_normal ?_
            refine then_normal ?_
            refine cregion ?_
            refine sv rfl (opv_mv rfl) ?_
            refine sv rfl (opv_add rfl rfl) ?_
            refine sv rfl (opv_as rfl) ?_
            refine snil ?_
            obtain rfl := Option.some.inj h
            exact ⟨(n2, (wI (s2 + 1))), _, hk2, ⟨rfl, rfl, rfl, trivial⟩, rfl, Nat.lt_succ_self _⟩
      · replace h := ite_f hc h
        clear hc
        refine cexit ?_
        refine then_exit ?_
        refine then_exit ?_
        refine block_hit ?_
        refine then_normal ?_
        obtain rfl := Option.some.inj h
        obtain rfl : _ = x2 := hk2
        exact ⟨(), _, ho2, trivial, rfl⟩

def m30_store_Changed_k2 (b2 : (List (List UInt8))) : Option (List (List UInt8)) :=
  some b2

def m30_store_Changed_s3 (a0 : GStoreStore) (a1 : GApiRange) (a2 : Int) (s3 : Int × (List (List UInt8))) : Option (LB (Int × (List (List UInt8))) ((List (List UInt8)))) :=
  if (decide (s3.1 < (a0.Keys.length : Int))) then ((idx a0.Keys s3.1).bind fun u4 => (m50_keys_Has a1 u4).bind fun v5 => if v5 then ((idx a0.Chains s3.1).bind fun u6 => (m53_chain_Last u6).bind fun v7 => if (decide (a2 < v7)) then (if (s3.2.length + [u4].length) * 24 ≤ 140737488355328 then (some (.cont ((wI (s3.1 + 1)), (s3.2 ++ [u4])))) else none) else (some (.cont ((wI (s3.1 + 1)), s3.2)))) else (some (.cont ((wI (s3.1 + 1)), s3.2)))) else (some (.brk s3.2))
def m30_store_Changed (a0 : GStoreStore) (a1 : GApiRange) (a2 : Int) : Option (List (List UInt8)) :=
  (m23_store_Sane a0).bind fun v1 => if (!v1) then (some ([] : List (List UInt8))) else ((iterB (m30_store_Changed_s3 a0 a1 a2) fuel (0, ([] : List (List UInt8)))).bind fun e9 => m30_store_Changed_k2 e9)

set_option maxRecDepth 100000 in
theorem m30_store_Changed_c {a0 : GStoreStore} {a1 : GApiRange} {a2 : Int} {r : (List (List UInt8))} (h : m30_store_Changed a0 a1 a2 = some r) : CallsA Try.prog 30 [.agg a0, .agg a1, .one (.i .i64 a2)] (· = .s (.one (.sl r.length (r.flatMap (eL eU8))))) := by
  unfold m30_store_Changed at h
  refine callsA_of Try.func30 rfl (nt := 40) rfl (Nat.le_of_ble_eq_true rfl) ?_
  intro w0 S0
  refine cseq ?_
  refine cregion ?_
  refine sbox rfl rfl ?_
  refine sbox rfl rfl ?_
  refine sv rfl (opv_as rfl) ?_
  refine snil ?_
  refine cseq ?_
  refine cseq ?_
  refine cregion ?_
  refine sv rfl (opv_loadN ti36 rfl (.lp _ _ _ rfl) (Nat.le_of_ble_eq_true rfl)) ?_
  obtain ⟨v1, hv1, h⟩ := bind_eq h
  refine scall1 rfl fn23 (opnds_cons rfl opnds_nil) (pubA_id rfl) (m23_store_Sane_c hv1) ?_
  refine sv rfl (opv_not rfl) ?_
  refine snil ?_
  refine ccond rfl (fun hc => ?_) (fun hc => ?_)
  · replace h := ite_t hc h
    clear hc
    refine cseq ?_
    refine cregion ?_
    refine sv rfl (opv_as rfl) ?_
    refine snil ?_
    refine cret ?_
    refine then_ret ?_
    obtain rfl := Option.some.inj h
    refine ⟨Or.inr rfl, _, _, _, (resVs_cons (ResV.tmp _ _ rfl) resVs_nil), (pubC rfl), ?_⟩
    rfl
  · replace h := ite_f hc h
    clear hc
    refine cskip ?_
    refine then_normal ?_
    refine cseq ?_
    refine cregion ?_
    refine sv rfl (opv_as rfl) ?_
    refine snil ?_
    refine cseq ?_
    refine cseq ?_
    refine cregion ?_
    refine sv rfl (opv_fieldAddr_lp fi36_0 rfl) ?_
    refine sv rfl (opv_load1 ti22 rfl (.lp _ _ _ rfl) rfl) ?_
    refine sv rfl (opv_len_sl si22 rfl) ?_
    refine sv rfl (opv_mv rfl) ?_
    refine snil ?_
    refine sadopt_c 26 1 7 (by decide) rfl ?_
    refine cjoin ((List (List UInt8))) (fun b2 => [(7, .s (.one (.ls 2 b2.length)))]) (fun b2 => [.box a0, .box a1, .arr 26 1 0 (b2.flatMap (eL eU8))]) (fun b2 => m30_store_Changed_k2 b2 = some r) (fun _ _ => inbL_of rfl) (fun _ _ => blkinb_of rfl) (fun _ _ => Nat.le_of_ble_eq_true rfl) (fun b2 h => ?_) ?_
    · unfold m30_store_Changed_k2 at h
      refine cseq ?_
      refine cregion ?_
      refine sv rfl (opv_mv rfl) ?_
      refine sv rfl (opv_as rfl) ?_
      refine snil ?_
      refine cret ?_
      obtain rfl := Option.some.inj h
      refine ⟨Or.inr rfl, _, _, _, (resVs_cons (ResV.tmp _ _ rfl) resVs_nil), (by (repeat' first | exact PubA.nil _ | apply PubA.cons | apply PubV.one | apply PubV.agg | exact PubL.nil | exact PubL.ls _ _ _ _ _ _ rfl (flat_len (f := (eL eU8)) (fun _ => rfl) _).symm | exact PubL.id _ rfl | exact PubLs.nil _ | apply PubLs.cons)), ?_⟩
      rfl
    · skip
      refine cblock ?_
      obtain ⟨x3, hx3, ho3⟩ := bind_eq h
      refine awc_loop (G := Nat × (Int × (List (List UInt8)))) (fun g => [(2, .s (.one (.i .i64 a2))), (3, .s (.one (.lp 0 0))), (4, .s (.one (.lp 1 0))), (7, .s (.one (.ls 2 g.2.2.length))), (14, .s (.one (.sl a0.Keys.length (a0.Keys.flatMap (eL eU8))))), (15, .s (.one (.i .i64 (a0.Keys.length : Int)))), (16, .s (.one (.i .i64 g.2.1)))]) (fun g => [.box a0, .box a1, .arr 26 1 0 (g.2.2.flatMap (eL eU8))]) (fun g => iterB (m30_store_Changed_s3 a0 a1 a2) g.1 g.2 = some x3) (fun g => g.1) (fuel, (0, ([] : List (List UInt8)))) hx3 ⟨rfl, rfl, rfl, rfl, rfl, rfl, rfl, trivial⟩ [] rfl (fun _ _ => inbL_of rfl) (fun _ _ => blkinb_of rfl) (fun _ _ => Nat.le_of_ble_eq_true rfl) ?_
      clear hx3 h
      rintro ⟨n3, s3⟩ h
      obtain ⟨n3, y3, rfl, h, hk3⟩ := iterB_eq h
      unfold m30_store_Changed_s3 at h
      refine cseq ?_
      refine cregion ?_
      refine sv rfl (opv_lss rfl rfl) ?_
      refine snil ?_
      refine cseq ?_
      refine ccond rfl (fun hc => ?_) (fun hc => ?_)
      · replace h := ite_t hc h
        clear hc
        refine cskip ?_
        refine then_normal ?_
        refine cseq ?_
        refine cblock ?_
        refine cseq ?_
        refine cregion ?_
        refine sv rfl (opv_mv rfl) ?_
        obtain ⟨u4, hu4, h⟩ := bind_eq h
        refine sv rfl (opv_ix (f := (eL eU8)) si22 (fun _ => rfl) rfl rfl rfl rfl hu4) ?_
        refine sv rfl (opv_load1 ti26 rfl (.cp _) rfl) ?_
        refine sv rfl (opv_as rfl) ?_
        refine sv rfl (opv_as rfl) ?_
        refine snil ?_
        refine cseq ?_
        refine cregion ?_
        refine sv rfl (opv_loadN ti28 rfl (.lp _ _ _ rfl) (Nat.le_of_ble_eq_true rfl)) ?_
        refine sv rfl (opv_mv rfl) ?_
        obtain ⟨v5, hv5, h⟩ := bind_eq h
        refine scall1 rfl fn50 (opnds_cons rfl (opnds_cons rfl opnds_nil)) (pubA_id rfl) (m50_keys_Has_c hv5) ?_
        refine sv rfl (opv_mv rfl) ?_
        refine ssplit 24 rfl (fun hc => ?_) (fun hc => ?_)
        · replace h := ite_t hc h
          clear hc
          refine son rfl rfl rfl ?_
          refine sv rfl (opv_fieldAddr_lp fi36_1 rfl) ?_
          refine son rfl rfl rfl ?_
          refine sv rfl (opv_load1 ti34 rfl (.lp _ _ _ rfl) rfl) ?_
          refine son rfl rfl rfl ?_
          refine sv rfl (opv_mv rfl) ?_
          refine son rfl rfl rfl ?_
          obtain ⟨u6, hu6, h⟩ := bind_eq h
          refine sv rfl (opv_ix (f := eGChainChain) si34 (fun _ => rfl) rfl rfl rfl rfl hu6) ?_
          refine son rfl rfl rfl ?_
          refine sv rfl (opv_loadNe (ys := [.sl u6.L.length (u6.L.flatMap eGChainVer)]) ti82 rfl (.cp _) rfl rfl) ?_
          refine son rfl rfl rfl ?_
          obtain ⟨v7, hv7, h⟩ := bind_eq h
          refine scall1 rfl fn53 (opnds_cons rfl opnds_nil) (pubA_id rfl) (m53_chain_Last_c hv7) ?_
          refine son rfl rfl rfl ?_
          refine sv rfl (opv_mv rfl) ?_
          refine son rfl rfl rfl ?_
          refine sv rfl (opv_gtr rfl rfl) ?_
          refine sv rfl (opv_pick_t rfl rfl) ?_
          refine snil ?_
          refine ccond rfl (fun hc => ?_) (fun hc => ?_)
          · replace h := ite_t hc h
            clear hc
            refine cregion ?_
            refine sv rfl (opv_mv rfl) ?_
            refine sv rfl (opv_mv rfl) ?_
            refine sbuild1 rfl Try.underlying22 ei26 rfl rfl (List.all_eq_true.1 rfl) (by decide) ?_
            refine smem [.box a0, .box a1, .arr 26 1 0 (s3.2.flatMap (eL eU8)), .arr 26 1 0 ([u4].flatMap (eL eU8))] rfl ?_
            obtain ⟨hb8, h⟩ := chk_eq h
            refine sapp (f := (eL eU8)) (xs := s3.2) (us := [u4]) rfl Try.underlying22 ei26 ni22 (fun _ => rfl) rfl rfl (.one _ _ _ _ (.ls _ _ _ _ _ _ rfl (flat_len (f := (eL eU8)) (fun _ => rfl) [u4]).symm)) rfl rfl rfl (.sl _ _ _ (flat_len (f := (eL eU8)) (fun _ => rfl) _)) rfl rfl hb8 (by decide) ?_
            refine sv rfl (opv_as rfl) ?_
            refine snil0 ?_
            refine block_normal ?_
            refine then_normal ?_
            refine cregion ?_
            refine sv rfl (opv_add rfl rfl) ?_
            refine sv rfl (opv_mv rfl) ?_
            refine snil ?_
            obtain rfl := Option.some.inj h
            exact ⟨(n3, ((wI (s3.1 + 1)), (s3.2 ++ [u4]))), _, hk3, ⟨rfl, rfl, rfl, rfl, rfl, rfl, rfl, trivial⟩, rfl, Nat.lt_succ_self _⟩
          · replace h := ite_f hc h
            clear hc
            refine cskip ?_
            refine block_normal ?_
            refine then_normal ?_
            refine cregion ?_
            refine sv rfl (opv_add rfl rfl) ?_
            refine sv rfl (opv_mv rfl) ?_
            refine snil ?_
            obtain rfl := Option.some.inj h
            exact ⟨(n3, ((wI (s3.1 + 1)), s3.2)), _, hk3, ⟨rfl, rfl, rfl, rfl, rfl, rfl, rfl, trivial⟩, rfl, Nat.lt_succ_self _⟩
        · replace h := ite_f hc h
          clear hc
          refine soff rfl rfl rfl rfl ?_
          refine soff rfl rfl rfl rfl ?_
          refine soff rfl rfl rfl rfl ?_
          refine soff rfl rfl rfl rfl ?_
          refine soff rfl rfl rfl rfl ?_
          refine soff rfl rfl rfl rfl ?_
          refine soff rfl rfl rfl rfl ?_
          refine soff rfl rfl rfl rfl ?_
          refine sv rfl (opv_pick_f rfl rfl) ?_
          refine snil ?_
          refine ccond rfl (fun hx => Bool.noConfusion hx) (fun _ => ?_)
          refine cskip ?_
          refine block_normal ?_
          refine then_normal ?_
          refine cregion ?_
          refine sv rfl (opv_add rfl rfl) ?_
          refine sv rfl (opv_mv rfl) ?_
          refine snil ?_
          obtain rfl := Option.some.inj h
          exact ⟨(n3, ((wI (s3.1 + 1)), s3.2)), _, hk3, ⟨rfl, rfl, rfl, rfl, rfl, rfl, rfl, trivial⟩, rfl, Nat.lt_succ_self _⟩
      · replace h := ite_f hc h
        clear hc
        refine cexit ?_
        refine then_exit ?_
        refine then_exit ?_
        refine block_hit ?_
        refine then_normal ?_
        obtain rfl := Option.some.inj h
        obtain rfl : _ = x3 := hk3
        exact ⟨s3.2, _, ho3, ⟨rfl, trivial⟩, rfl⟩

def m29_r03_Lists_k1 (b1 : Unit) : Option Bool :=
  some true

def m29_r03_Lists_s2 (a0 : List (List UInt8)) (a1 : List (List UInt8)) (s2 : Int) : Option (LR (Int) (Unit) (Bool)) :=
  if (decide (s2 < (a0.length : Int))) then ((idx a0 s2).bind fun u3 => (idx a1 s2).bind fun u4 => if (!(u3 == u4)) then (some (.ret false)) else (some (.cont (wI (s2 + 1))))) else (some (.brk ()))
def m29_r03_Lists (a0 : List (List UInt8)) (a1 : List (List UInt8)) : Option Bool :=
  if (!decide ((a0.length : Int) = (a1.length : Int))) then (some false) else ((iter (m29_r03_Lists_s2 a0 a1) fuel 0).bind fun x => match x with | .inl r => some r | .inr e5 => m29_r03_Lists_k1 e5)

set_option maxRecDepth 100000 in
theorem m29_r03_Lists_c {a0 : List (List UInt8)} {a1 : List (List UInt8)} {r : Bool} (h : m29_r03_Lists a0 a1 = some r) : CallsA Try.prog 29 [.one (.sl a0.length (a0.flatMap (eL eU8))), .one (.sl a1.length (a1.flatMap (eL eU8)))] (· = .s (.one (.b r))) := by
  unfold m29_r03_Lists at h
  refine callsA_of Try.func29 rfl (nt := 28) rfl (Nat.le_of_ble_eq_true rfl) ?_
  intro w0 S0
  refine cseq ?_
  refine cregion ?_
  refine sv rfl (opv_as rfl) ?_
  refine snil ?_
  refine cseq ?_
  refine cseq ?_
  refine cregion ?_
  refine sv rfl (opv_mv rfl) ?_
  refine sv rfl (opv_len_sl si22 rfl) ?_
  refine sv rfl (opv_mv rfl) ?_
  refine sv rfl (opv_len_sl si22 rfl) ?_
  refine sv rfl (opv_ineq rfl rfl) ?_
  refine snil ?_
  refine ccond rfl (fun hc => ?_) (fun hc => ?_)
  · replace h := ite_t hc h
    clear hc
    refine cseq ?_
    refine cregion ?_
    refine sv rfl (opv_as rfl) ?_
    refine snil ?_
    refine cret ?_
    refine then_ret ?_
    obtain rfl := Option.some.inj h
    refine ⟨Or.inr rfl, _, _, _, (resVs_cons (ResV.tmp _ _ rfl) resVs_nil), (pubA_id rfl), ?_⟩
    rfl
  · replace h := ite_f hc h
    clear hc
    refine cskip ?_
    refine then_normal ?_
    refine cseq ?_
    refine cseq ?_
    refine cregion ?_
    refine sv rfl (opv_as rfl) ?_
    refine snil ?_
    refine cjoin (Unit) (fun b1 => []) (fun b1 => []) (fun b1 => m29_r03_Lists_k1 b1 = some r) (fun _ _ => inbL_of rfl) (fun _ _ => blkinb_of rfl) (fun _ _ => Nat.le_of_ble_eq_true rfl) (fun b1 h => ?_) ?_
    · unfold m29_r03_Lists_k1 at h
      refine cseq ?_
      refine cregion ?_
      refine sv rfl (opv_as rfl) ?_
      refine snil ?_
      refine cret ?_
      obtain rfl := Option.some.inj h
      refine ⟨Or.inr rfl, _, _, _, (resVs_cons (ResV.tmp _ _ rfl) resVs_nil), (pubA_id rfl), ?_⟩
      rfl
    · skip
      refine cblock ?_
      obtain ⟨x2, hx2, ho2⟩ := bind_eq h
      refine awc_loop (G := Nat × (Int)) (fun g => [(0, .s (.one (.sl a0.length (a0.flatMap (eL eU8))))), (1, .s (.one (.sl a1.length (a1.flatMap (eL eU8))))), (5, .s (.one (.i .i64 g.2)))]) (fun g => []) (fun g => iter (m29_r03_Lists_s2 a0 a1) g.1 g.2 = some x2) (fun g => g.1) (fuel, 0) hx2 ⟨rfl, rfl, rfl, trivial⟩ [] rfl (fun _ _ => inbL_of rfl) (fun _ _ => blkinb_of rfl) (fun _ _ => Nat.le_of_ble_eq_true rfl) ?_
      clear hx2 h
      rintro ⟨n2, s2⟩ h
      obtain ⟨n2, y2, rfl, h, hk2⟩ := iter_eq h
      unfold m29_r03_Lists_s2 at h
      refine cseq ?_
      refine cseq ?_
      refine cregion ?_
      refine sv rfl (opv_mv rfl) ?_
      refine sv rfl (opv_mv rfl) ?_
      refine sv rfl (opv_len_sl si22 rfl) ?_
      refine sv rfl (opv_lss rfl rfl) ?_
      refine snil ?_
      refine ccond rfl (fun hc => ?_) (fun hc => ?_)
      · replace h := ite_t hc h
        clear hc
        refine cskip ?_
        refine then_normal ?_
        refine cseq ?_
        refine cblock ?_
        refine cseq ?_
        refine cdraw mixed (by kernel_rfl) ?_
        refine dv rfl (opv_mv rfl) ?_
        refine dv rfl (opv_mv rfl) ?_
        obtain ⟨u3, hu3, h⟩ := bind_eq h
        refine dv rfl (opv_ix (f := (eL eU8)) si22 (fun _ => rfl) rfl rfl rfl rfl hu3) ?_
        refine dv rfl (opv_load1 ti26 rfl (.cp _) rfl) ?_
        refine dv rfl (opv_bs (l := u3) Try.underlying26 Try.underlying5 Try.underlying9 rfl rfl rfl) ?_
        refine dv rfl (opv_mv rfl) ?_
        refine dv rfl (opv_mv rfl) ?_
        obtain ⟨u4, hu4, h⟩ := bind_eq h
        refine dv rfl (opv_ix (f := (eL eU8)) si22 (fun _ => rfl) rfl rfl rfl rfl hu4) ?_
        refine dv rfl (opv_load1 ti26 rfl (.cp _) rfl) ?_
        refine dv rfl (opv_bs (l := u4) Try.underlying26 Try.underlying5 Try.underlying9 rfl rfl rfl) ?_
        refine dv rfl (opv_sneq' rfl rfl) ?_
        refine dnil ?_
        refine then_normal ?_
        refine ccond rfl (fun hc => ?_) (fun hc => ?_)
        · replace h := ite_t hc h
          clear hc
          refine cseq ?_
          refine cregion ?_
          refine sv rfl (opv_as rfl) ?_
          refine snil ?_
          refine cret ?_
          refine block_ret ?_
          refine then_ret ?_
          refine then_ret ?_
          refine block_ret ?_
          refine then_ret ?_
          obtain rfl := Option.some.inj h
          obtain rfl : Sum.inl _ = x2 := hk2
          replace ho2 : some _ = some _ := ho2
          obtain rfl := Option.some.inj ho2
          refine ⟨Or.inr rfl, _, _, _, (resVs_cons (ResV.tmp _ _ rfl) resVs_nil), (pubA_id rfl), ?_⟩
          rfl
        · replace h := ite_f hc h
          clear hc
          refine cskip ?_
          refine block_normal ?_
          refine then_normal ?_
          refine cregion ?_
          refine sv rfl (opv_mv rfl) ?_
          refine sv rfl (opv_add rfl rfl) ?_
          refine sv rfl (opv_as rfl) ?_
          refine snil ?_
          obtain rfl := Option.some.inj h
          exact ⟨(n2, (wI (s2 + 1))), _, hk2, ⟨rfl, rfl, rfl, trivial⟩, rfl, Nat.lt_succ_self _⟩
      · replace h := ite_f hc h
        clear hc
        refine cexit ?_
        refine then_exit ?_
        refine then_exit ?_
        refine block_hit ?_
        refine then_normal ?_
        obtain rfl := Option.some.inj h
        obtain rfl : _ = x2 := hk2
        exact ⟨(), _, ho2, trivial, rfl⟩

def m19_l08_theirs_k1 (a0 : GStoreStore) (b1 : (List GR07Chain)) : Option GR08Store :=
  some (GR08Store.mk a0.Keys b1 a0.Ts)

def m19_l08_theirs_k3 (s2 : Int × (List GR07Chain)) (b3 : (List GR07Ver)) : Option (LB (Int × (List GR07Chain)) ((List GR07Chain))) :=
  if (s2.2.length + [(GR07Chain.mk b3)].length) * 24 ≤ 140737488355328 then (some (.cont ((wI (s2.1 + 1)), (s2.2 ++ [(GR07Chain.mk b3)])))) else none

def m19_l08_theirs_s5 (a0 : GStoreStore) (s2 : Int × (List GR07Chain)) (s5 : Int × (List GR07Ver)) : Option (LB (Int × (List GR07Ver)) ((List GR07Ver))) :=
  (idx a0.Chains s2.1).bind fun u6 => if (decide (s5.1 < (u6.L.length : Int))) then ((idx a0.Chains s2.1).bind fun u7 => (idx u7.L s5.1).bind fun u8 => if (s5.2.length + [(GR07Ver.mk u8.Ts u8.Val u8.Del)].length) * 40 ≤ 140737488355328 then (some (.cont ((wI (s5.1 + 1)), (s5.2 ++ [(GR07Ver.mk u8.Ts u8.Val u8.Del)])))) else none) else (some (.brk s5.2))

def m19_l08_theirs_s2 (a0 : GStoreStore) (s2 : Int × (List GR07Chain)) : Option (LB (Int × (List GR07Chain)) ((List GR07Chain))) :=
  if (decide (s2.1 < (a0.Chains.length : Int))) then ((iterB (m19_l08_theirs_s5 a0 s2) fuel (0, ([] : List GR07Ver))).bind fun e10 => m19_l08_theirs_k3 s2 e10) else (some (.brk s2.2))
def m19_l08_theirs (a0 : GStoreStore) : Option GR08Store :=
  (iterB (m19_l08_theirs_s2 a0) fuel (0, ([] : List GR07Chain))).bind fun e11 => m19_l08_theirs_k1 a0 e11

set_option maxRecDepth 100000 in
theorem m19_l08_theirs_c {a0 : GStoreStore} {r : GR08Store} (h : m19_l08_theirs a0 = some r) : CallsA Try.prog 19 [.agg a0] (· = .s (.agg r)) := by
  unfold m19_l08_theirs at h
  refine callsA_of Try.func19 rfl (nt := 60) rfl (Nat.le_of_ble_eq_true rfl) ?_
  intro w0 S0
  refine cseq ?_
  refine cregion ?_
  refine sbox rfl rfl ?_
  refine salloc rfl zi25 ?_
  refine snil ?_
  refine cseq ?_
  refine cregion ?_
  refine sv rfl (opv_fieldAddr_lp fi36_0 rfl) ?_
  refine sv rfl (opv_load1 ti22 rfl (.lp _ _ _ rfl) rfl) ?_
  refine sv rfl (opv_fieldAddr_lp fi36_2 rfl) ?_
  refine sv rfl (opv_load1 ti3 rfl (.lp _ _ _ rfl) rfl) ?_
  refine sv rfl (opv_build zi25 pi25 (parts_cons rfl (parts_cons rfl parts_nil)) (.cons _ _ _ _ _ _ _ rfl rfl (Nat.le_of_ble_eq_true rfl) (.cons _ _ _ _ _ _ _ rfl rfl (Nat.le_of_ble_eq_true rfl) (.nil _)))) ?_
  refine salloc rfl zi25 ?_
  refine sstore sz25 rfl rfl rfl rfl (Nat.le_of_ble_eq_true rfl) ?_
  refine smem [.box a0, .box [.raw (.slice none 0 0), .raw (.slice none 0 0), .i .i64 0], .box [.sl a0.Keys.length (a0.Keys.flatMap (eL eU8)), .raw (.slice none 0 0), .i .i64 a0.Ts]] rfl ?_
  refine snil ?_
  refine cseq ?_
  refine cseq ?_
  refine cregion ?_
  refine sv rfl (opv_as rfl) ?_
  refine snil ?_
  refine sadopt_box_c 79 1 2 1 (by decide) rfl rfl ?_
  refine cjoin ((List GR07Chain)) (fun b1 => [(2, .s (.one (.lp 1 0))), (3, .s (.one (.lp 2 0)))]) (fun b1 => [.box a0, .box [.raw (.slice none 0 0), .raw (.slice none 0 0), .i .i64 0], .box [.sl a0.Keys.length (a0.Keys.flatMap (eL eU8)), .ls 3 b1.length, .i .i64 a0.Ts], .arr 79 1 0 (b1.flatMap eGR07Chain)]) (fun b1 => m19_l08_theirs_k1 a0 b1 = some r) (fun _ _ => inbL_of rfl) (fun _ _ => blkinb_of rfl) (fun _ _ => Nat.le_of_ble_eq_true rfl) (fun b1 h => ?_) ?_
  · unfold m19_l08_theirs_k1 at h
    refine cseq ?_
    refine cregion ?_
    refine sv rfl (opv_loadN ti25 rfl (.lp _ _ _ rfl) (Nat.le_of_ble_eq_true rfl)) ?_
    refine sstore sz25 rfl rfl rfl rfl (Nat.le_of_ble_eq_true rfl) ?_
    refine smem [.box a0, .box [.sl a0.Keys.length (a0.Keys.flatMap (eL eU8)), .ls 3 b1.length, .i .i64 a0.Ts], .box [.sl a0.Keys.length (a0.Keys.flatMap (eL eU8)), .ls 3 b1.length, .i .i64 a0.Ts], .arr 79 1 0 (b1.flatMap eGR07Chain)] rfl ?_
    refine snil ?_
    refine cret ?_
    obtain rfl := Option.some.inj h
    refine ⟨Or.inr rfl, _, _, _, (resVs_cons (ResV.agg _ _ _ _ _ ti25 rfl (.lp _ _ _ rfl) (Nat.le_of_ble_eq_true rfl)) resVs_nil), (by (repeat' first | exact PubA.nil _ | apply PubA.cons | apply PubV.one | apply PubV.agg | exact PubL.nil | exact PubL.ls _ _ _ _ _ _ rfl (flat_len (f := eGR07Chain) (fun _ => rfl) _).symm | exact PubL.id _ rfl | exact PubLs.nil _ | apply PubLs.cons)), ?_⟩
    rfl
  · skip
    refine cblock ?_
    obtain ⟨x2, hx2, ho2⟩ := bind_eq h
    refine awc_loop (G := Nat × (Int × (List GR07Chain))) (fun g => [(1, .s (.one (.lp 0 0))), (2, .s (.one (.lp 1 0))), (3, .s (.one (.lp 2 0))), (4, .s (.one (.i .i64 g.2.1)))]) (fun g => [.box a0, .box [.raw (.slice none 0 0), .raw (.slice none 0 0), .i .i64 0], .box [.sl a0.Keys.length (a0.Keys.flatMap (eL eU8)), .ls 3 g.2.2.length, .i .i64 a0.Ts], .arr 79 1 0 (g.2.2.flatMap eGR07Chain)]) (fun g => iterB (m19_l08_theirs_s2 a0) g.1 g.2 = some x2) (fun g => g.1) (fuel, (0, ([] : List GR07Chain))) hx2 ⟨rfl, rfl, rfl, rfl, trivial⟩ [] rfl (fun _ _ => inbL_of rfl) (fun _ _ => blkinb_of rfl) (fun _ _ => Nat.le_of_ble_eq_true rfl) ?_
    clear hx2 h
    rintro ⟨n2, s2⟩ h
    obtain ⟨n2, y2, rfl, h, hk2⟩ := iterB_eq h
    unfold m19_l08_theirs_s2 at h
    refine cseq ?_
    refine cseq ?_
    refine cregion ?_
    refine sv rfl (opv_mv rfl) ?_
    refine sv rfl (opv_fieldAddr_lp fi36_1 rfl) ?_
    refine sv rfl (opv_load1 ti34 rfl (.lp _ _ _ rfl) rfl) ?_
    refine sv rfl (opv_len_sl si34 rfl) ?_
    refine sv rfl (opv_lss rfl rfl) ?_
    refine snil ?_
    refine ccond rfl (fun hc => ?_) (fun hc => ?_)
    · replace h := ite_t hc h
      clear hc
      refine cskip ?_
      refine then_normal ?_
      refine cseq ?_
      refine cblock ?_
      refine cseq ?_
      refine cregion ?_
      refine sv rfl (opv_build zi79 pi79 parts_nil (.nil _)) ?_
      refine salloc rfl zi79 ?_
      refine sstore sz79 rfl rfl rfl rfl (Nat.le_of_ble_eq_true rfl) ?_
      refine smem [.box a0, .box [.raw (.slice none 0 0), .raw (.slice none 0 0), .i .i64 0], .box [.sl a0.Keys.length (a0.Keys.flatMap (eL eU8)), .ls 3 s2.2.length, .i .i64 a0.Ts], .arr 79 1 0 (s2.2.flatMap eGR07Chain), .box [.raw (.slice none 0 0)]] rfl ?_
      refine snil ?_
      refine cseq ?_
      refine cseq ?_
      refine cregion ?_
      refine sv rfl (opv_as rfl) ?_
      refine snil ?_
      refine sadopt_box_c 84 3 4 0 (by decide) rfl rfl ?_
      refine cjoin ((List GR07Ver)) (fun b3 => [(1, .s (.one (.lp 0 0))), (2, .s (.one (.lp 1 0))), (3, .s (.one (.lp 2 0))), (4, .s (.one (.i .i64 s2.1))), (5, .s (.one (.lp 4 0)))]) (fun b3 => [.box a0, .box [.raw (.slice none 0 0), .raw (.slice none 0 0), .i .i64 0], .box [.sl a0.Keys.length (a0.Keys.flatMap (eL eU8)), .ls 3 s2.2.length, .i .i64 a0.Ts], .arr 79 1 0 (s2.2.flatMap eGR07Chain), .box [.ls 5 b3.length], .arr 84 3 0 (b3.flatMap eGR07Ver)]) (fun b3 => m19_l08_theirs_k3 s2 b3 = some y2) (fun _ _ => inbL_of rfl) (fun _ _ => blkinb_of rfl) (fun _ _ => Nat.le_of_ble_eq_true rfl) (fun b3 h => ?_) ?_
      · unfold m19_l08_theirs_k3 at h
        refine cregion ?_
        refine sv rfl (opv_fieldAddr_lp fi25_1 rfl) ?_
        refine sv rfl (opv_load1 ti23 rfl (.lp _ _ _ rfl) rfl) ?_
        refine sv rfl (opv_loadN ti79 rfl (.lp _ _ _ rfl) (Nat.le_of_ble_eq_true rfl)) ?_
        refine spub 55 rfl (by (repeat' first | exact PubA.nil _ | apply PubA.cons | apply PubV.one | apply PubV.agg | exact PubL.nil | exact PubL.ls _ _ _ _ _ _ rfl (flat_len (f := eGR07Chain) (fun _ => rfl) _).symm | exact PubL.ls _ _ _ _ _ _ rfl (flat_len (f := eGR07Ver) (fun _ => rfl) _).symm | exact PubL.id _ rfl | exact PubLs.nil _ | apply PubLs.cons)) ?_
        refine sbuild1 rfl Try.underlying23 ei79 rfl rfl (List.all_eq_true.1 rfl) (by decide) ?_
        refine smem [.box a0, .box [.raw (.slice none 0 0), .raw (.slice none 0 0), .i .i64 0], .box [.sl a0.Keys.length (a0.Keys.flatMap (eL eU8)), .ls 3 s2.2.length, .i .i64 a0.Ts], .arr 79 1 0 (s2.2.flatMap eGR07Chain), .box [.ls 5 b3.length], .arr 84 3 (b3.flatMap eGR07Ver).length (b3.flatMap eGR07Ver), .arr 79 1 0 ([(GR07Chain.mk b3)].flatMap eGR07Chain)] rfl ?_
        obtain ⟨hb4, h⟩ := chk_eq h
        refine sapp (f := eGR07Chain) (xs := s2.2) (us := [(GR07Chain.mk b3)]) rfl Try.underlying23 ei79 ni23 (fun _ => rfl) rfl rfl (.one _ _ _ _ (.ls _ _ _ _ _ _ rfl (flat_len (f := eGR07Chain) (fun _ => rfl) [(GR07Chain.mk b3)]).symm)) rfl rfl rfl (.sl _ _ _ (flat_len (f := eGR07Chain) (fun _ => rfl) _)) rfl rfl hb4 (by decide) ?_
        refine sv rfl (opv_fieldAddr_lp fi25_1 rfl) ?_
        refine sstore sz23 rfl rfl rfl rfl (Nat.le_of_ble_eq_true rfl) ?_
        refine smem [.box a0, .box [.raw (.slice none 0 0), .raw (.slice none 0 0), .i .i64 0], .box [.sl a0.Keys.length (a0.Keys.flatMap (eL eU8)), .ls 3 (s2.2 ++ [(GR07Chain.mk b3)]).length, .i .i64 a0.Ts], .arr 79 1 0 ((s2.2 ++ [(GR07Chain.mk b3)]).flatMap eGR07Chain), .box [.ls 5 b3.length], .arr 84 3 (b3.flatMap eGR07Ver).length (b3.flatMap eGR07Ver), .arr 79 1 ([(GR07Chain.mk b3)].flatMap eGR07Chain).length ([(GR07Chain.mk b3)].flatMap eGR07Chain)] rfl ?_
        refine snil0 ?_
        refine block_normal ?_
        refine then_normal ?_
        refine cregion ?_
        refine sv rfl (opv_mv rfl) ?_
        refine sv rfl (opv_add rfl rfl) ?_
        refine sv rfl (opv_as rfl) ?_
        refine snil ?_
        obtain rfl := Option.some.inj h
        exact ⟨(n2, ((wI (s2.1 + 1)), (s2.2 ++ [(GR07Chain.mk b3)]))), _, hk2, ⟨rfl, rfl, rfl, rfl, trivial⟩, rfl, Nat.lt_succ_self _⟩
      · skip
        refine cblock ?_
        obtain ⟨x5, hx5, ho5⟩ := bind_eq h
        refine awc_loop (G := Nat × (Int × (List GR07Ver))) (fun g => [(1, .s (.one (.lp 0 0))), (2, .s (.one (.lp 1 0))), (3, .s (.one (.lp 2 0))), (4, .s (.one (.i .i64 s2.1))), (5, .s (.one (.lp 4 0))), (6, .s (.one (.i .i64 g.2.1)))]) (fun g => [.box a0, .box [.raw (.slice none 0 0), .raw (.slice none 0 0), .i .i64 0], .box [.sl a0.Keys.length (a0.Keys.flatMap (eL eU8)), .ls 3 s2.2.length, .i .i64 a0.Ts], .arr 79 1 0 (s2.2.flatMap eGR07Chain), .box [.ls 5 g.2.2.length], .arr 84 3 0 (g.2.2.flatMap eGR07Ver)]) (fun g => iterB (m19_l08_theirs_s5 a0 s2) g.1 g.2 = some x5) (fun g => g.1) (fuel, (0, ([] : List GR07Ver))) hx5 ⟨rfl, rfl, rfl, rfl, rfl, rfl, trivial⟩ [] rfl (fun _ _ => inbL_of rfl) (fun _ _ => blkinb_of rfl) (fun _ _ => Nat.le_of_ble_eq_true rfl) ?_
        clear hx5 h
        rintro ⟨n5, s5⟩ h
        obtain ⟨n5, y5, rfl, h, hk5⟩ := iterB_eq h
        unfold m19_l08_theirs_s5 at h
        refine cseq ?_
        refine cseq ?_
        refine cregion ?_
        refine sv rfl (opv_mv rfl) ?_
        refine sv rfl (opv_fieldAddr_lp fi36_1 rfl) ?_
        refine sv rfl (opv_load1 ti34 rfl (.lp _ _ _ rfl) rfl) ?_
        refine sv rfl (opv_mv rfl) ?_
        obtain ⟨u6, hu6, h⟩ := bind_eq h
        refine sv rfl (opv_ix (f := eGChainChain) si34 (fun _ => rfl) rfl rfl rfl rfl hu6) ?_
        refine sv rfl (opv_fieldAddr_cp fi82_0 rfl) ?_
        refine sv rfl (opv_load1 ti80 rfl (.cp _) rfl) ?_
        refine sv rfl (opv_len_sl si80 rfl) ?_
        refine sv rfl (opv_lss rfl rfl) ?_
        refine snil ?_
        refine ccond rfl (fun hc => ?_) (fun hc => ?_)
        · replace h := ite_t hc h
          clear hc
          refine cskip ?_
          refine then_normal ?_
          refine cseq ?_
          refine cblock ?_
          refine cseq ?_
          refine cregion ?_
          refine sv rfl (opv_fieldAddr_lp fi36_1 rfl) ?_
          refine sv rfl (opv_load1 ti34 rfl (.lp _ _ _ rfl) rfl) ?_
          refine sv rfl (opv_mv rfl) ?_
          obtain ⟨u7, hu7, h⟩ := bind_eq h
          refine sv rfl (opv_ix (f := eGChainChain) si34 (fun _ => rfl) rfl rfl rfl rfl hu7) ?_
          refine sv rfl (opv_fieldAddr_cp fi82_0 rfl) ?_
          refine sv rfl (opv_load1 ti80 rfl (.cp _) rfl) ?_
          refine sv rfl (opv_mv rfl) ?_
          obtain ⟨u8, hu8, h⟩ := bind_eq h
          refine sv rfl (opv_ix (f := eGChainVer) si80 (fun _ => rfl) rfl rfl rfl rfl hu8) ?_
          refine sv rfl (opv_loadNe (ys := [.i .i64 u8.Ts, .sl u8.Val.length (u8.Val.flatMap eU8), .b u8.Del]) ti85 rfl (.cp _) rfl rfl) ?_
          refine salloc rfl zi85 ?_
          refine sstore sz85 rfl rfl rfl rfl (Nat.le_of_ble_eq_true rfl) ?_
          refine smem [.box a0, .box [.raw (.slice none 0 0), .raw (.slice none 0 0), .i .i64 0], .box [.sl a0.Keys.length (a0.Keys.flatMap (eL eU8)), .ls 3 s2.2.length, .i .i64 a0.Ts], .arr 79 1 0 (s2.2.flatMap eGR07Chain), .box [.ls 5 s5.2.length], .arr 84 3 0 (s5.2.flatMap eGR07Ver), .box u8] rfl ?_
          refine snil ?_
          refine cregion ?_
          refine sv rfl (opv_fieldAddr_lp fi79_0 rfl) ?_
          refine sv rfl (opv_load1 ti77 rfl (.lp _ _ _ rfl) rfl) ?_
          refine sv rfl (opv_fieldAddr_lp fi85_0 rfl) ?_
          refine sv rfl (opv_load1 ti3 rfl (.lp _ _ _ rfl) rfl) ?_
          refine sv rfl (opv_fieldAddr_lp fi85_1 rfl) ?_
          refine sv rfl (opv_load1 ti26 rfl (.lp _ _ _ rfl) rfl) ?_
          refine sv rfl (opv_fieldAddr_lp fi85_2 rfl) ?_
          refine sv rfl (opv_load1 ti4 rfl (.lp _ _ _ rfl) rfl) ?_
          refine sv rfl (opv_build zi84 pi84 (parts_cons rfl (parts_cons rfl (parts_cons rfl parts_nil))) (.cons _ _ _ _ _ _ _ rfl rfl (Nat.le_of_ble_eq_true rfl) (.cons _ _ _ _ _ _ _ rfl rfl (Nat.le_of_ble_eq_true rfl) (.cons _ _ _ _ _ _ _ rfl rfl (Nat.le_of_ble_eq_true rfl) (.nil _))))) ?_
          refine sbuild1 rfl Try.underlying77 ei84 rfl rfl (List.all_eq_true.1 rfl) (by decide) ?_
          refine smem [.box a0, .box [.raw (.slice none 0 0), .raw (.slice none 0 0), .i .i64 0], .box [.sl a0.Keys.length (a0.Keys.flatMap (eL eU8)), .ls 3 s2.2.length, .i .i64 a0.Ts], .arr 79 1 0 (s2.2.flatMap eGR07Chain), .box [.ls 5 s5.2.length], .arr 84 3 0 (s5.2.flatMap eGR07Ver), .box u8, .arr 84 3 0 ([(GR07Ver.mk u8.Ts u8.Val u8.Del)].flatMap eGR07Ver)] rfl ?_
          obtain ⟨hb9, h⟩ := chk_eq h
          refine sapp (f := eGR07Ver) (xs := s5.2) (us := [(GR07Ver.mk u8.Ts u8.Val u8.Del)]) rfl Try.underlying77 ei84 ni77 (fun _ => rfl) rfl rfl (.one _ _ _ _ (.ls _ _ _ _ _ _ rfl (flat_len (f := eGR07Ver) (fun _ => rfl) [(GR07Ver.mk u8.Ts u8.Val u8.Del)]).symm)) rfl rfl rfl (.sl _ _ _ (flat_len (f := eGR07Ver) (fun _ => rfl) _)) rfl rfl hb9 (by decide) ?_
          refine sv rfl (opv_fieldAddr_lp fi79_0 rfl) ?_
          refine sstore sz77 rfl rfl rfl rfl (Nat.le_of_ble_eq_true rfl) ?_
          refine smem [.box a0, .box [.raw (.slice none 0 0), .raw (.slice none 0 0), .i .i64 0], .box [.sl a0.Keys.length (a0.Keys.flatMap (eL eU8)), .ls 3 s2.2.length, .i .i64 a0.Ts], .arr 79 1 0 (s2.2.flatMap eGR07Chain), .box [.ls 5 (s5.2 ++ [(GR07Ver.mk u8.Ts u8.Val u8.Del)]).length], .arr 84 3 0 ((s5.2 ++ [(GR07Ver.mk u8.Ts u8.Val u8.Del)]).flatMap eGR07Ver), .box u8, .arr 84 3 ([(GR07Ver.mk u8.Ts u8.Val u8.Del)].flatMap eGR07Ver).length ([(GR07Ver.mk u8.Ts u8.Val u8.Del)].flatMap eGR07Ver)] rfl ?_
          refine snil0 ?_
          refine block_normal ?_
          refine then_normal ?_
          refine cregion ?_
          refine sv rfl (opv_mv rfl) ?_
          refine sv rfl (opv_add rfl rfl) ?_
          refine sv rfl (opv_as rfl) ?_
          refine snil ?_
          obtain rfl := Option.some.inj h
          exact ⟨(n5, ((wI (s5.1 + 1)), (s5.2 ++ [(GR07Ver.mk u8.Ts u8.Val u8.Del)]))), _, hk5, ⟨rfl, rfl, rfl, rfl, rfl, rfl, trivial⟩, rfl, Nat.lt_succ_self _⟩
        · replace h := ite_f hc h
          clear hc
          refine cexit ?_
          refine then_exit ?_
          refine then_exit ?_
          refine block_hit ?_
          refine then_normal ?_
          obtain rfl := Option.some.inj h
          obtain rfl : _ = x5 := hk5
          exact ⟨s5.2, _, ho5, ⟨rfl, rfl, rfl, rfl, rfl, trivial⟩, rfl⟩
    · replace h := ite_f hc h
      clear hc
      refine cexit ?_
      refine then_exit ?_
      refine then_exit ?_
      refine block_hit ?_
      refine then_normal ?_
      obtain rfl := Option.some.inj h
      obtain rfl : _ = x2 := hk2
      exact ⟨s2.2, _, ho2, ⟨rfl, rfl, trivial⟩, rfl⟩

def m70_r07_One (a0 : GR07Ver) (a1 : GR07Ver) : Option Bool :=
  if (decide (a0.Ts = a1.Ts)) then (if (a0.Del == a1.Del) then (some (a0.Val == a1.Val)) else (some false)) else (some false)

set_option maxRecDepth 100000 in
theorem m70_r07_One_c {a0 : GR07Ver} {a1 : GR07Ver} {r : Bool} (h : m70_r07_One a0 a1 = some r) : CallsA Try.prog 70 [.agg a0, .agg a1] (· = .s (.one (.b r))) := by
  unfold m70_r07_One at h
  refine callsA_of Try.func70 rfl (nt := 26) rfl (Nat.le_of_ble_eq_true rfl) ?_
  intro w0 S0
  refine cseq ?_
  refine cregion ?_
  refine sbox rfl rfl ?_
  refine sbox rfl rfl ?_
  refine sv rfl (opv_as rfl) ?_
  refine snil ?_
  refine cseq ?_
  refine cregion ?_
  refine sv rfl (opv_fieldAddr_lp fi84_0 rfl) ?_
  refine sv rfl (opv_load1 ti3 rfl (.lp _ _ _ rfl) rfl) ?_
  refine sv rfl (opv_fieldAddr_lp fi84_0 rfl) ?_
  refine sv rfl (opv_load1 ti3 rfl (.lp _ _ _ rfl) rfl) ?_
  refine sv rfl (opv_ieql rfl rfl) ?_
  refine sv rfl (opv_mv rfl) ?_
  refine ssplit 10 rfl (fun hc => ?_) (fun hc => ?_)
  · replace h := ite_t hc h
    clear hc
    refine son rfl rfl rfl ?_
    refine sv rfl (opv_fieldAddr_lp fi84_2 rfl) ?_
    refine son rfl rfl rfl ?_
    refine sv rfl (opv_load1 ti4 rfl (.lp _ _ _ rfl) rfl) ?_
    refine son rfl rfl rfl ?_
    refine sv rfl (opv_fieldAddr_lp fi84_2 rfl) ?_
    refine son rfl rfl rfl ?_
    refine sv rfl (opv_load1 ti4 rfl (.lp _ _ _ rfl) rfl) ?_
    refine son rfl rfl rfl ?_
    refine sv rfl (opv_beql Try.underlying4 rfl rfl) ?_
    refine sv rfl (opv_pick_t rfl rfl) ?_
    refine sv rfl (opv_mv rfl) ?_
    refine ssplit 17 rfl (fun hc => ?_) (fun hc => ?_)
    · replace h := ite_t hc h
      clear hc
      refine son rfl rfl rfl ?_
      refine sv rfl (opv_fieldAddr_lp fi84_1 rfl) ?_
      refine son rfl rfl rfl ?_
      refine sv rfl (opv_load1 ti26 rfl (.lp _ _ _ rfl) rfl) ?_
      refine son rfl rfl rfl ?_
      refine sv rfl (opv_bs (l := a0.Val) Try.underlying26 Try.underlying5 Try.underlying9 rfl rfl rfl) ?_
      refine son rfl rfl rfl ?_
      refine sv rfl (opv_fieldAddr_lp fi84_1 rfl) ?_
      refine son rfl rfl rfl ?_
      refine sv rfl (opv_load1 ti26 rfl (.lp _ _ _ rfl) rfl) ?_
      refine son rfl rfl rfl ?_
      refine sv rfl (opv_bs (l := a1.Val) Try.underlying26 Try.underlying5 Try.underlying9 rfl rfl rfl) ?_
      refine son rfl rfl rfl ?_
      refine sv rfl (opv_seql' rfl rfl) ?_
      refine sv rfl (opv_pick_t rfl rfl) ?_
      refine sv rfl (opv_as rfl) ?_
      refine snil ?_
      refine cret ?_
      obtain rfl := Option.some.inj h
      refine ⟨Or.inr rfl, _, _, _, (resVs_cons (ResV.tmp _ _ rfl) resVs_nil), (pubA_id rfl), ?_⟩
      rfl
    · replace h := ite_f hc h
      clear hc
      refine soff rfl rfl rfl rfl ?_
      refine soff rfl rfl rfl rfl ?_
      refine soff rfl rfl rfl rfl ?_
      refine soff rfl rfl rfl rfl ?_
      refine soff rfl rfl rfl rfl ?_
      refine soff rfl rfl rfl rfl ?_
      refine soff rfl rfl rfl rfl ?_
      refine sv rfl (opv_pick_f rfl rfl) ?_
      refine sv rfl (opv_as rfl) ?_
      refine snil ?_
      refine cret ?_
      obtain rfl := Option.some.inj h
      refine ⟨Or.inr rfl, _, _, _, (resVs_cons (ResV.tmp _ _ rfl) resVs_nil), (pubA_id rfl), ?_⟩
      rfl
  · replace h := ite_f hc h
    clear hc
    refine soff rfl rfl rfl rfl ?_
    refine soff rfl rfl rfl rfl ?_
    refine soff rfl rfl rfl rfl ?_
    refine soff rfl rfl rfl rfl ?_
    refine soff rfl rfl rfl rfl ?_
    refine sv rfl (opv_pick_f rfl rfl) ?_
    refine sv rfl (opv_mv rfl) ?_
    refine soff rfl rfl rfl rfl ?_
    refine soff rfl rfl rfl rfl ?_
    refine soff rfl rfl rfl rfl ?_
    refine soff rfl rfl rfl rfl ?_
    refine soff rfl rfl rfl rfl ?_
    refine soff rfl rfl rfl rfl ?_
    refine soff rfl rfl rfl rfl ?_
    refine sv rfl (opv_pick_f rfl rfl) ?_
    refine sv rfl (opv_as rfl) ?_
    refine snil ?_
    refine cret ?_
    obtain rfl := Option.some.inj h
    refine ⟨Or.inr rfl, _, _, _, (resVs_cons (ResV.tmp _ _ rfl) resVs_nil), (pubA_id rfl), ?_⟩
    rfl

def m49_r07_Same_k1 (b1 : Unit) : Option Bool :=
  some true

def m49_r07_Same_s2 (a0 : List GR07Ver) (a1 : List GR07Ver) (s2 : Int) : Option (LR (Int) (Unit) (Bool)) :=
  if (decide (s2 < (a0.length : Int))) then ((idx a0 s2).bind fun u3 => (idx a1 s2).bind fun u4 => (m70_r07_One u3 u4).bind fun v5 => if (!v5) then (some (.ret false)) else (some (.cont (wI (s2 + 1))))) else (some (.brk ()))
def m49_r07_Same (a0 : List GR07Ver) (a1 : List GR07Ver) : Option Bool :=
  if (!decide ((a0.length : Int) = (a1.length : Int))) then (some false) else ((iter (m49_r07_Same_s2 a0 a1) fuel 0).bind fun x => match x with | .inl r => some r | .inr e6 => m49_r07_Same_k1 e6)

set_option maxRecDepth 100000 in
theorem m49_r07_Same_c {a0 : List GR07Ver} {a1 : List GR07Ver} {r : Bool} (h : m49_r07_Same a0 a1 = some r) : CallsA Try.prog 49 [.one (.sl a0.length (a0.flatMap eGR07Ver)), .one (.sl a1.length (a1.flatMap eGR07Ver))] (· = .s (.one (.b r))) := by
  unfold m49_r07_Same at h
  refine callsA_of Try.func49 rfl (nt := 27) rfl (Nat.le_of_ble_eq_true rfl) ?_
  intro w0 S0
  refine cseq ?_
  refine cregion ?_
  refine sv rfl (opv_as rfl) ?_
  refine snil ?_
  refine cseq ?_
  refine cseq ?_
  refine cregion ?_
  refine sv rfl (opv_mv rfl) ?_
  refine sv rfl (opv_len_sl si77 rfl) ?_
  refine sv rfl (opv_mv rfl) ?_
  refine sv rfl (opv_len_sl si77 rfl) ?_
  refine sv rfl (opv_ineq rfl rfl) ?_
  refine snil ?_
  refine ccond rfl (fun hc => ?_) (fun hc => ?_)
  · replace h := ite_t hc h
    clear hc
    refine cseq ?_
    refine cregion ?_
    refine sv rfl (opv_as rfl) ?_
    refine snil ?_
    refine cret ?_
    refine then_ret ?_
    obtain rfl := Option.some.inj h
    refine ⟨Or.inr rfl, _, _, _, (resVs_cons (ResV.tmp _ _ rfl) resVs_nil), (pubA_id rfl), ?_⟩
    rfl
  · replace h := ite_f hc h
    clear hc
    refine cskip ?_
    refine then_normal ?_
    refine cseq ?_
    refine cseq ?_
    refine cregion ?_
    refine sv rfl (opv_as rfl) ?_
    refine snil ?_
    refine cjoin (Unit) (fun b1 => []) (fun b1 => []) (fun b1 => m49_r07_Same_k1 b1 = some r) (fun _ _ => inbL_of rfl) (fun _ _ => blkinb_of rfl) (fun _ _ => Nat.le_of_ble_eq_true rfl) (fun b1 h => ?_) ?_
    · unfold m49_r07_Same_k1 at h
      refine cseq ?_
      refine cregion ?_
      refine sv rfl (opv_as rfl) ?_
      refine snil ?_
      refine cret ?_
      obtain rfl := Option.some.inj h
      refine ⟨Or.inr rfl, _, _, _, (resVs_cons (ResV.tmp _ _ rfl) resVs_nil), (pubA_id rfl), ?_⟩
      rfl
    · skip
      refine cblock ?_
      obtain ⟨x2, hx2, ho2⟩ := bind_eq h
      refine awc_loop (G := Nat × (Int)) (fun g => [(0, .s (.one (.sl a0.length (a0.flatMap eGR07Ver)))), (1, .s (.one (.sl a1.length (a1.flatMap eGR07Ver)))), (5, .s (.one (.i .i64 g.2)))]) (fun g => []) (fun g => iter (m49_r07_Same_s2 a0 a1) g.1 g.2 = some x2) (fun g => g.1) (fuel, 0) hx2 ⟨rfl, rfl, rfl, trivial⟩ [] rfl (fun _ _ => inbL_of rfl) (fun _ _ => blkinb_of rfl) (fun _ _ => Nat.le_of_ble_eq_true rfl) ?_
      clear hx2 h
      rintro ⟨n2, s2⟩ h
      obtain ⟨n2, y2, rfl, h, hk2⟩ := iter_eq h
      unfold m49_r07_Same_s2 at h
      refine cseq ?_
      refine cseq ?_
      refine cregion ?_
      refine sv rfl (opv_mv rfl) ?_
      refine sv rfl (opv_mv rfl) ?_
      refine sv rfl (opv_len_sl si77 rfl) ?_
      refine sv rfl (opv_lss rfl rfl) ?_
      refine snil ?_
      refine ccond rfl (fun hc => ?_) (fun hc => ?_)
      · replace h := ite_t hc h
        clear hc
        refine cskip ?_
        refine then_normal ?_
        refine cseq ?_
        refine cblock ?_
        refine cseq ?_
        refine cdraw mixed (by kernel_rfl) ?_
        refine dv rfl (opv_mv rfl) ?_
        refine dv rfl (opv_mv rfl) ?_
        obtain ⟨u3, hu3, h⟩ := bind_eq h
        refine dv rfl (opv_ix (f := eGR07Ver) si77 (fun _ => rfl) rfl rfl rfl rfl hu3) ?_
        refine dv rfl (opv_loadNe (ys := [.i .i64 u3.Ts, .sl u3.Val.length (u3.Val.flatMap eU8), .b u3.Del]) ti84 rfl (.cp _) rfl rfl) ?_
        refine dv rfl (opv_mv rfl) ?_
        refine dv rfl (opv_mv rfl) ?_
        obtain ⟨u4, hu4, h⟩ := bind_eq h
        refine dv rfl (opv_ix (f := eGR07Ver) si77 (fun _ => rfl) rfl rfl rfl rfl hu4) ?_
        refine dv rfl (opv_loadNe (ys := [.i .i64 u4.Ts, .sl u4.Val.length (u4.Val.flatMap eU8), .b u4.Del]) ti84 rfl (.cp _) rfl rfl) ?_
        obtain ⟨v5, hv5, h⟩ := bind_eq h
        refine dd rfl (opD_call fn70 (opnds_cons rfl (opnds_cons rfl opnds_nil)) rfl (m70_r07_One_c hv5)) ?_
        refine dv rfl (opv_not rfl) ?_
        refine dnil ?_
        refine then_normal ?_
        refine ccond rfl (fun hc => ?_) (fun hc => ?_)
        · replace h := ite_t hc h
          clear hc
          refine cseq ?_
          refine cregion ?_
          refine sv rfl (opv_as rfl) ?_
          refine snil ?_
          refine cret ?_
          refine block_ret ?_
          refine then_ret ?_
          refine then_ret ?_
          refine block_ret ?_
          refine then_ret ?_
          obtain rfl := Option.some.inj h
          obtain rfl : Sum.inl _ = x2 := hk2
          replace ho2 : some _ = some _ := ho2
          obtain rfl := Option.some.inj ho2
          refine ⟨Or.inr rfl, _, _, _, (resVs_cons (ResV.tmp _ _ rfl) resVs_nil), (pubA_id rfl), ?_⟩
          rfl
        · replace h := ite_f hc h
          clear hc
          refine cskip ?_
          refine block_normal ?_
          refine then_normal ?_
          refine cregion ?_
          refine sv rfl (opv_mv rfl) ?_
          refine sv rfl (opv_add rfl rfl) ?_
          refine sv rfl (opv_as rfl) ?_
          refine snil ?_
          obtain rfl := Option.some.inj h
          exact ⟨(n2, (wI (s2 + 1))), _, hk2, ⟨rfl, rfl, rfl, trivial⟩, rfl, Nat.lt_succ_self _⟩
      · replace h := ite_f hc h
        clear hc
        refine cexit ?_
        refine then_exit ?_
        refine then_exit ?_
        refine block_hit ?_
        refine then_normal ?_
        obtain rfl := Option.some.inj h
        obtain rfl : _ = x2 := hk2
        exact ⟨(), _, ho2, trivial, rfl⟩

def m18_r08_Same_k3 (b3 : Unit) : Option Bool :=
  some true

def m18_r08_Same_s4 (a0 : GR08Store) (a1 : GR08Store) (s4 : Int) : Option (LR (Int) (Unit) (Bool)) :=
  if (decide (s4 < (a0.Chains.length : Int))) then ((idx a0.Chains s4).bind fun u5 => (idx a1.Chains s4).bind fun u6 => (m49_r07_Same u5.L u6.L).bind fun v7 => if (!v7) then (some (.ret false)) else (some (.cont (wI (s4 + 1))))) else (some (.brk ()))

def m18_r08_Same_k2 (a0 : GR08Store) (a1 : GR08Store) (b2 : Unit) : Option Bool :=
  (iter (m18_r08_Same_s4 a0 a1) fuel 0).bind fun x => match x with | .inl r => some r | .inr e8 => m18_r08_Same_k3 e8

def m18_r08_Same_s9 (a0 : GR08Store) (a1 : GR08Store) (s9 : Int) : Option (LR (Int) (Unit) (Bool)) :=
  if (decide (s9 < (a0.Keys.length : Int))) then ((idx a0.Keys s9).bind fun u10 => (idx a1.Keys s9).bind fun u11 => if (!(u10 == u11)) then (some (.ret false)) else (some (.cont (wI (s9 + 1))))) else (some (.brk ()))

def m18_r08_Same_k1 (a0 : GR08Store) (a1 : GR08Store) (b1 : Unit) : Option Bool :=
  (iter (m18_r08_Same_s9 a0 a1) fuel 0).bind fun x => match x with | .inl r => some r | .inr e12 => m18_r08_Same_k2 a0 a1 e12
def m18_r08_Same (a0 : GR08Store) (a1 : GR08Store) : Option Bool :=
  if (!decide ((a0.Keys.length : Int) = (a1.Keys.length : Int))) then (some false) else (if (!decide ((a0.Chains.length : Int) = (a1.Chains.length : Int))) then (some false) else (if (!decide (a0.Ts = a1.Ts)) then (some false) else (m18_r08_Same_k1 a0 a1 ())))

set_option maxRecDepth 100000 in
theorem m18_r08_Same_c {a0 : GR08Store} {a1 : GR08Store} {r : Bool} (h : m18_r08_Same a0 a1 = some r) : CallsA Try.prog 18 [.agg a0, .agg a1] (· = .s (.one (.b r))) := by
  unfold m18_r08_Same at h
  refine callsA_of Try.func18 rfl (nt := 71) rfl (Nat.le_of_ble_eq_true rfl) ?_
  intro w0 S0
  refine cseq ?_
  refine cregion ?_
  refine sbox rfl rfl ?_
  refine sbox rfl rfl ?_
  refine sv rfl (opv_as rfl) ?_
  refine snil ?_
  refine cseq ?_
  refine cseq ?_
  refine cjoin3 (Unit) (fun b1 => [(2, .s (.one (.lp 0 0))), (3, .s (.one (.lp 1 0)))]) (fun b1 => [.box a0, .box a1]) (fun b1 => m18_r08_Same_k1 a0 a1 b1 = some r) (fun _ _ => inbL_of rfl) (fun _ _ => blkinb_of rfl) (fun _ _ => Nat.le_of_ble_eq_true rfl) (fun b1 h => ?_) ?_
  · unfold m18_r08_Same_k1 at h
    refine cseq ?_
    refine cseq ?_
    refine cregion ?_
    refine sv rfl (opv_as rfl) ?_
    refine snil ?_
    refine cjoin (Unit) (fun b2 => [(2, .s (.one (.lp 0 0))), (3, .s (.one (.lp 1 0)))]) (fun b2 => [.box a0, .box a1]) (fun b2 => m18_r08_Same_k2 a0 a1 b2 = some r) (fun _ _ => inbL_of rfl) (fun _ _ => blkinb_of rfl) (fun _ _ => Nat.le_of_ble_eq_true rfl) (fun b2 h => ?_) ?_
    · unfold m18_r08_Same_k2 at h
      refine cseq ?_
      refine cseq ?_
      refine cregion ?_
      refine sv rfl (opv_as rfl) ?_
      refine snil ?_
      refine cjoin (Unit) (fun b3 => []) (fun b3 => [.box a0, .box a1]) (fun b3 => m18_r08_Same_k3 b3 = some r) (fun _ _ => inbL_of rfl) (fun _ _ => blkinb_of rfl) (fun _ _ => Nat.le_of_ble_eq_true rfl) (fun b3 h => ?_) ?_
      · unfold m18_r08_Same_k3 at h
        refine cseq ?_
        refine cregion ?_
        refine sv rfl (opv_as rfl) ?_
        refine snil ?_
        refine cret ?_
        obtain rfl := Option.some.inj h
        refine ⟨Or.inr rfl, _, _, _, (resVs_cons (ResV.tmp _ _ rfl) resVs_nil), (pubA_id rfl), ?_⟩
        rfl
      · skip
        refine cblock ?_
        obtain ⟨x4, hx4, ho4⟩ := bind_eq h
        refine awc_loop (G := Nat × (Int)) (fun g => [(2, .s (.one (.lp 0 0))), (3, .s (.one (.lp 1 0))), (6, .s (.one (.i .i64 g.2)))]) (fun g => [.box a0, .box a1]) (fun g => iter (m18_r08_Same_s4 a0 a1) g.1 g.2 = some x4) (fun g => g.1) (fuel, 0) hx4 ⟨rfl, rfl, rfl, trivial⟩ [] rfl (fun _ _ => inbL_of rfl) (fun _ _ => blkinb_of rfl) (fun _ _ => Nat.le_of_ble_eq_true rfl) ?_
        clear hx4 h
        rintro ⟨n4, s4⟩ h
        obtain ⟨n4, y4, rfl, h, hk4⟩ := iter_eq h
        unfold m18_r08_Same_s4 at h
        refine cseq ?_
        refine cseq ?_
        refine cregion ?_
        refine sv rfl (opv_mv rfl) ?_
        refine sv rfl (opv_fieldAddr_lp fi25_1 rfl) ?_
        refine sv rfl (opv_load1 ti23 rfl (.lp _ _ _ rfl) rfl) ?_
        refine sv rfl (opv_len_sl si23 rfl) ?_
        refine sv rfl (opv_lss rfl rfl) ?_
        refine snil ?_
        refine ccond rfl (fun hc => ?_) (fun hc => ?_)
        · replace h := ite_t hc h
          clear hc
          refine cskip ?_
          refine then_normal ?_
          refine cseq ?_
          refine cblock ?_
          refine cseq ?_
          refine cdraw mixed (by kernel_rfl) ?_
          refine dv rfl (opv_fieldAddr_lp fi25_1 rfl) ?_
          refine dv rfl (opv_load1 ti23 rfl (.lp _ _ _ rfl) rfl) ?_
          refine dv rfl (opv_mv rfl) ?_
          obtain ⟨u5, hu5, h⟩ := bind_eq h
          refine dv rfl (opv_ix (f := eGR07Chain) si23 (fun _ => rfl) rfl rfl rfl rfl hu5) ?_
          refine dv rfl (opv_fieldAddr_cp fi79_0 rfl) ?_
          refine dv rfl (opv_load1 ti77 rfl (.cp _) rfl) ?_
          refine dv rfl (opv_fieldAddr_lp fi25_1 rfl) ?_
          refine dv rfl (opv_load1 ti23 rfl (.lp _ _ _ rfl) rfl) ?_
          refine dv rfl (opv_mv rfl) ?_
          obtain ⟨u6, hu6, h⟩ := bind_eq h
          refine dv rfl (opv_ix (f := eGR07Chain) si23 (fun _ => rfl) rfl rfl rfl rfl hu6) ?_
          refine dv rfl (opv_fieldAddr_cp fi79_0 rfl) ?_
          refine dv rfl (opv_load1 ti77 rfl (.cp _) rfl) ?_
          obtain ⟨v7, hv7, h⟩ := bind_eq h
          refine dd rfl (opD_call fn49 (opnds_cons rfl (opnds_cons rfl opnds_nil)) rfl (m49_r07_Same_c hv7)) ?_
          refine dv rfl (opv_not rfl) ?_
          refine dnil ?_
          refine then_normal ?_
          refine ccond rfl (fun hc => ?_) (fun hc => ?_)
          · replace h := ite_t hc h
            clear hc
            refine cseq ?_
            refine cregion ?_
            refine sv rfl (opv_as rfl) ?_
            refine snil ?_
            refine cret ?_
            refine block_ret ?_
            refine then_ret ?_
            refine then_ret ?_
            refine block_ret ?_
            refine then_ret ?_
            obtain rfl := Option.some.inj h
            obtain rfl : Sum.inl _ = x4 := hk4
            replace ho4 : some _ = some _ := ho4
            obtain rfl := Option.some.inj ho4
            refine ⟨Or.inr rfl, _, _, _, (resVs_cons (ResV.tmp _ _ rfl) resVs_nil), (pubA_id rfl), ?_⟩
            rfl
          · replace h := ite_f hc h
            clear hc
            refine cskip ?_
            refine block_normal ?_
            refine then_normal ?_
            refine cregion ?_
            refine sv rfl (opv_mv rfl) ?_
            refine sv rfl (opv_add rfl rfl) ?_
            refine sv rfl (opv_as rfl) ?_
            refine snil ?_
            obtain rfl := Option.some.inj h
            exact ⟨(n4, (wI (s4 + 1))), _, hk4, ⟨rfl, rfl, rfl, trivial⟩, rfl, Nat.lt_succ_self _⟩
        · replace h := ite_f hc h
          clear hc
          refine cexit ?_
          refine then_exit ?_
          refine then_exit ?_
          refine block_hit ?_
          refine then_normal ?_
          obtain rfl := Option.some.inj h
          obtain rfl : _ = x4 := hk4
          exact ⟨(), _, ho4, trivial, rfl⟩
    · skip
      refine cblock ?_
      obtain ⟨x9, hx9, ho9⟩ := bind_eq h
      refine awc_loop (G := Nat × (Int)) (fun g => [(2, .s (.one (.lp 0 0))), (3, .s (.one (.lp 1 0))), (5, .s (.one (.i .i64 g.2)))]) (fun g => [.box a0, .box a1]) (fun g => iter (m18_r08_Same_s9 a0 a1) g.1 g.2 = some x9) (fun g => g.1) (fuel, 0) hx9 ⟨rfl, rfl, rfl, trivial⟩ [] rfl (fun _ _ => inbL_of rfl) (fun _ _ => blkinb_of rfl) (fun _ _ => Nat.le_of_ble_eq_true rfl) ?_
      clear hx9 h
      rintro ⟨n9, s9⟩ h
      obtain ⟨n9, y9, rfl, h, hk9⟩ := iter_eq h
      unfold m18_r08_Same_s9 at h
      refine cseq ?_
      refine cseq ?_
      refine cregion ?_
      refine sv rfl (opv_mv rfl) ?_
      refine sv rfl (opv_fieldAddr_lp fi25_0 rfl) ?_
      refine sv rfl (opv_load1 ti22 rfl (.lp _ _ _ rfl) rfl) ?_
      refine sv rfl (opv_len_sl si22 rfl) ?_
      refine sv rfl (opv_lss rfl rfl) ?_
      refine snil ?_
      refine ccond rfl (fun hc => ?_) (fun hc => ?_)
      · replace h := ite_t hc h
        clear hc
        refine cskip ?_
        refine then_normal ?_
        refine cseq ?_
        refine cblock ?_
        refine cseq ?_
        refine cdraw mixed (by kernel_rfl) ?_
        refine dv rfl (opv_fieldAddr_lp fi25_0 rfl) ?_
        refine dv rfl (opv_load1 ti22 rfl (.lp _ _ _ rfl) rfl) ?_
        refine dv rfl (opv_mv rfl) ?_
        obtain ⟨u10, hu10, h⟩ := bind_eq h
        refine dv rfl (opv_ix (f := (eL eU8)) si22 (fun _ => rfl) rfl rfl rfl rfl hu10) ?_
        refine dv rfl (opv_load1 ti26 rfl (.cp _) rfl) ?_
        refine dv rfl (opv_bs (l := u10) Try.underlying26 Try.underlying5 Try.underlying9 rfl rfl rfl) ?_
        refine dv rfl (opv_fieldAddr_lp fi25_0 rfl) ?_
        refine dv rfl (opv_load1 ti22 rfl (.lp _ _ _ rfl) rfl) ?_
        refine dv rfl (opv_mv rfl) ?_
        obtain ⟨u11, hu11, h⟩ := bind_eq h
        refine dv rfl (opv_ix (f := (eL eU8)) si22 (fun _ => rfl) rfl rfl rfl rfl hu11) ?_
        refine dv rfl (opv_load1 ti26 rfl (.cp _) rfl) ?_
        refine dv rfl (opv_bs (l := u11) Try.underlying26 Try.underlying5 Try.underlying9 rfl rfl rfl) ?_
        refine dv rfl (opv_sneq' rfl rfl) ?_
        refine dnil ?_
        refine then_normal ?_
        refine ccond rfl (fun hc => ?_) (fun hc => ?_)
        · replace h := ite_t hc h
          clear hc
          refine cseq ?_
          refine cregion ?_
          refine sv rfl (opv_as rfl) ?_
          refine snil ?_
          refine cret ?_
          refine block_ret ?_
          refine then_ret ?_
          refine then_ret ?_
          refine block_ret ?_
          refine then_ret ?_
          obtain rfl := Option.some.inj h
          obtain rfl : Sum.inl _ = x9 := hk9
          replace ho9 : some _ = some _ := ho9
          obtain rfl := Option.some.inj ho9
          refine ⟨Or.inr rfl, _, _, _, (resVs_cons (ResV.tmp _ _ rfl) resVs_nil), (pubA_id rfl), ?_⟩
          rfl
        · replace h := ite_f hc h
          clear hc
          refine cskip ?_
          refine block_normal ?_
          refine then_normal ?_
          refine cregion ?_
          refine sv rfl (opv_mv rfl) ?_
          refine sv rfl (opv_add rfl rfl) ?_
          refine sv rfl (opv_as rfl) ?_
          refine snil ?_
          obtain rfl := Option.some.inj h
          exact ⟨(n9, (wI (s9 + 1))), _, hk9, ⟨rfl, rfl, rfl, trivial⟩, rfl, Nat.lt_succ_self _⟩
      · replace h := ite_f hc h
        clear hc
        refine cexit ?_
        refine then_exit ?_
        refine then_exit ?_
        refine block_hit ?_
        refine then_normal ?_
        obtain rfl := Option.some.inj h
        obtain rfl : _ = x9 := hk9
        exact ⟨(), _, ho9, ⟨rfl, rfl, trivial⟩, rfl⟩
  · skip
    refine cregion ?_
    refine sv rfl (opv_fieldAddr_lp fi25_0 rfl) ?_
    refine sv rfl (opv_load1 ti22 rfl (.lp _ _ _ rfl) rfl) ?_
    refine sv rfl (opv_len_sl si22 rfl) ?_
    refine sv rfl (opv_fieldAddr_lp fi25_0 rfl) ?_
    refine sv rfl (opv_load1 ti22 rfl (.lp _ _ _ rfl) rfl) ?_
    refine sv rfl (opv_len_sl si22 rfl) ?_
    refine sv rfl (opv_ineq rfl rfl) ?_
    refine sv rfl (opv_mv rfl) ?_
    refine ssplit 14 rfl (fun hc => ?_) (fun hc => ?_)
    · replace h := ite_t hc h
      clear hc
      refine soff rfl rfl rfl rfl ?_
      refine soff rfl rfl rfl rfl ?_
      refine soff rfl rfl rfl rfl ?_
      refine soff rfl rfl rfl rfl ?_
      refine soff rfl rfl rfl rfl ?_
      refine soff rfl rfl rfl rfl ?_
      refine soff rfl rfl rfl rfl ?_
      refine sv rfl (opv_pick_t rfl rfl) ?_
      refine sv rfl (opv_mv rfl) ?_
      refine soff rfl rfl rfl rfl ?_
      refine soff rfl rfl rfl rfl ?_
      refine soff rfl rfl rfl rfl ?_
      refine soff rfl rfl rfl rfl ?_
      refine soff rfl rfl rfl rfl ?_
      refine sv rfl (opv_pick_t rfl rfl) ?_
      refine snil ?_
      refine ccond rfl (fun _ => ?_) (fun hx => Bool.noConfusion hx)
      refine cseq ?_
      refine cregion ?_
      refine sv rfl (opv_as rfl) ?_
      refine snil ?_
      refine cret ?_
      refine then_ret ?_
      obtain rfl := Option.some.inj h
      refine ⟨Or.inr rfl, _, _, _, (resVs_cons (ResV.tmp _ _ rfl) resVs_nil), (pubA_id rfl), ?_⟩
      rfl
    · replace h := ite_f hc h
      clear hc
      refine son rfl rfl rfl ?_
      refine sv rfl (opv_fieldAddr_lp fi25_1 rfl) ?_
      refine son rfl rfl rfl ?_
      refine sv rfl (opv_load1 ti23 rfl (.lp _ _ _ rfl) rfl) ?_
      refine son rfl rfl rfl ?_
      refine sv rfl (opv_len_sl si23 rfl) ?_
      refine son rfl rfl rfl ?_
      refine sv rfl (opv_fieldAddr_lp fi25_1 rfl) ?_
      refine son rfl rfl rfl ?_
      refine sv rfl (opv_load1 ti23 rfl (.lp _ _ _ rfl) rfl) ?_
      refine son rfl rfl rfl ?_
      refine sv rfl (opv_len_sl si23 rfl) ?_
      refine son rfl rfl rfl ?_
      refine sv rfl (opv_ineq rfl rfl) ?_
      refine sv rfl (opv_pick_f rfl rfl) ?_
      refine sv rfl (opv_mv rfl) ?_
      refine ssplit 23 rfl (fun hc => ?_) (fun hc => ?_)
      · replace h := ite_t hc h
        clear hc
        refine soff rfl rfl rfl rfl ?_
        refine soff rfl rfl rfl rfl ?_
        refine soff rfl rfl rfl rfl ?_
        refine soff rfl rfl rfl rfl ?_
        refine soff rfl rfl rfl rfl ?_
        refine sv rfl (opv_pick_t rfl rfl) ?_
        refine snil ?_
        refine ccond rfl (fun _ => ?_) (fun hx => Bool.noConfusion hx)
        refine cseq ?_
        refine cregion ?_
        refine sv rfl (opv_as rfl) ?_
        refine snil ?_
        refine cret ?_
        refine then_ret ?_
        obtain rfl := Option.some.inj h
        refine ⟨Or.inr rfl, _, _, _, (resVs_cons (ResV.tmp _ _ rfl) resVs_nil), (pubA_id rfl), ?_⟩
        rfl
      · replace h := ite_f hc h
        clear hc
        refine son rfl rfl rfl ?_
        refine sv rfl (opv_fieldAddr_lp fi25_2 rfl) ?_
        refine son rfl rfl rfl ?_
        refine sv rfl (opv_load1 ti3 rfl (.lp _ _ _ rfl) rfl) ?_
        refine son rfl rfl rfl ?_
        refine sv rfl (opv_fieldAddr_lp fi25_2 rfl) ?_
        refine son rfl rfl rfl ?_
        refine sv rfl (opv_load1 ti3 rfl (.lp _ _ _ rfl) rfl) ?_
        refine son rfl rfl rfl ?_
        refine sv rfl (opv_ineq rfl rfl) ?_
        refine sv rfl (opv_pick_f rfl rfl) ?_
        refine snil ?_
        refine ccond rfl (fun hc => ?_) (fun hc => ?_)
        · replace h := ite_t hc h
          clear hc
          refine cseq ?_
          refine cregion ?_
          refine sv rfl (opv_as rfl) ?_
          refine snil ?_
          refine cret ?_
          refine then_ret ?_
          obtain rfl := Option.some.inj h
          refine ⟨Or.inr rfl, _, _, _, (resVs_cons (ResV.tmp _ _ rfl) resVs_nil), (pubA_id rfl), ?_⟩
          rfl
        · replace h := ite_f hc h
          clear hc
          refine cskip ?_
          refine then_normal ?_
          exact ⟨(), _, h, ⟨rfl, rfl, trivial⟩, rfl⟩

def m6_l08_StoreVacuums_k5 (a1 : Int) (a2 : Int) (a3 : GApiRange) (v1 : Bool) (v3 : GStoreStore) (v4 : GStoreStore) (b5 : Unit) : Option Bool :=
  if v1 then ((m30_store_Changed (GStoreStore.mk v3.Keys v3.Chains v3.Ts) a3 (if a2 > a1 then a2 else a1)).bind fun v6 => (m30_store_Changed (GStoreStore.mk v4.Keys v4.Chains v4.Ts) a3 (if a2 > a1 then a2 else a1)).bind fun v7 => (m29_r03_Lists v6 v7).bind fun v8 => if v8 then ((m32_store_Latest (GStoreStore.mk v3.Keys v3.Chains v3.Ts)).bind fun v9 => (m32_store_Latest (GStoreStore.mk v4.Keys v4.Chains v4.Ts)).bind fun v10 => (m20_r05_KVs v9 v10).bind fun v11 => if v11 then ((m19_l08_theirs (GStoreStore.mk v4.Keys v4.Chains v4.Ts)).bind fun v12 => (m25_store_Vacuum (GStoreStore.mk v4.Keys v4.Chains v4.Ts) a1).bind fun v13 => (m19_l08_theirs v13).bind fun v14 => (m18_r08_Same v12 v14).bind fun v15 => some v15) else (some false)) else (some false)) else (some false)

def m6_l08_StoreVacuums_k2 (a0 : List GL08Lot) (a1 : Int) (a2 : Int) (a3 : GApiRange) (v1 : Bool) (b2 : Unit) : Option Bool :=
  (m35_l08_grown a0).bind fun v3 => (m25_store_Vacuum (GStoreStore.mk v3.Keys v3.Chains v3.Ts) a1).bind fun v4 => (m21_store_Scan (GStoreStore.mk v3.Keys v3.Chains v3.Ts) a3 (if a2 > a1 then a2 else a1) 1000).bind fun v16 => (m21_store_Scan (GStoreStore.mk v4.Keys v4.Chains v4.Ts) a3 (if a2 > a1 then a2 else a1) 1000).bind fun v17 => (m20_r05_KVs v16 v17).bind fun v18 => if (!v18) then (some false) else ((m23_store_Sane (GStoreStore.mk v4.Keys v4.Chains v4.Ts)).bind fun v19 => if (!v19) then (some false) else (if (decide ((v3.Keys.length : Int) < (v4.Keys.length : Int))) then (some false) else (if (!decide (v4.Ts = v3.Ts)) then (some false) else (m6_l08_StoreVacuums_k5 a1 a2 a3 v1 v3 v4 ()))))
def m6_l08_StoreVacuums (a0 : List GL08Lot) (a1 : Int) (a2 : Int) (a3 : GApiRange) : Option Bool :=
  (m9_l08_awake).bind fun v1 => (m34_l08_few a0).bind fun v20 => if (!v20) then (some v1) else ((m11_r06_Short a3).bind fun v21 => if (!v21) then (some v1) else (m6_l08_StoreVacuums_k2 a0 a1 a2 a3 v1 ()))

set_option maxRecDepth 100000 in
theorem m6_l08_StoreVacuums_c {a0 : List GL08Lot} {a1 : Int} {a2 : Int} {a3 : GApiRange} {r : Bool} (h : m6_l08_StoreVacuums a0 a1 a2 a3 = some r) : CallsA Try.prog 6 [.one (.sl a0.length (a0.flatMap eGL08Lot)), .one (.i .i64 a1), .one (.i .i64 a2), .agg a3] (· = .s (.one (.b r))) := by
  unfold m6_l08_StoreVacuums at h
  refine callsA_of Try.func6 rfl (nt := 90) rfl (Nat.le_of_ble_eq_true rfl) ?_
  intro w0 S0
  refine cseq ?_
  refine cregion ?_
  refine sbox rfl rfl ?_
  refine sv rfl (opv_as rfl) ?_
  refine snil ?_
  refine cseq ?_
  refine cregion ?_
  obtain ⟨v1, hv1, h⟩ := bind_eq h
  refine scall1 rfl fn9 opnds_nil (pubA_id rfl) (m9_l08_awake_c hv1) ?_
  refine sv rfl (opv_as rfl) ?_
  refine snil ?_
  refine cseq ?_
  refine cseq ?_
  refine cjoin3 (Unit) (fun b2 => [(0, .s (.one (.sl a0.length (a0.flatMap eGL08Lot)))), (1, .s (.one (.i .i64 a1))), (2, .s (.one (.i .i64 a2))), (7, .s (.one (.lp 0 0))), (9, .s (.one (.b v1)))]) (fun b2 => [.box a3]) (fun b2 => m6_l08_StoreVacuums_k2 a0 a1 a2 a3 v1 b2 = some r) (fun _ _ => inbL_of rfl) (fun _ _ => blkinb_of rfl) (fun _ _ => Nat.le_of_ble_eq_true rfl) (fun b2 h => ?_) ?_
  · unfold m6_l08_StoreVacuums_k2 at h
    refine cseq ?_
    refine cregion ?_
    refine sv rfl (opv_mv rfl) ?_
    obtain ⟨v3, hv3, h⟩ := bind_eq h
    refine scall1 rfl fn35 (opnds_cons rfl opnds_nil) (pubA_id rfl) (m35_l08_grown_c hv3) ?_
    refine salloc rfl zi36 ?_
    refine sstore sz36 rfl rfl rfl rfl (Nat.le_of_ble_eq_true rfl) ?_
    refine smem [.box a3, .box v3] rfl ?_
    refine snil ?_
    refine cseq ?_
    refine cregion ?_
    refine sv rfl (opv_loadN ti36 rfl (.lp _ _ _ rfl) (Nat.le_of_ble_eq_true rfl)) ?_
    refine sv rfl (opv_mv rfl) ?_
    obtain ⟨v4, hv4, h⟩ := bind_eq h
    refine scall1 rfl fn25 (opnds_cons rfl (opnds_cons rfl opnds_nil)) (pubA_id rfl) (m25_store_Vacuum_c hv4) ?_
    refine salloc rfl zi36 ?_
    refine sstore sz36 rfl rfl rfl rfl (Nat.le_of_ble_eq_true rfl) ?_
    refine smem [.box a3, .box v3, .box v4] rfl ?_
    refine snil ?_
    refine cseq ?_
    refine cregion ?_
    refine sv rfl (opv_mv rfl) ?_
    refine sv rfl (opv_mv rfl) ?_
    refine sv rfl (opv_max rfl rfl) ?_
    refine sv rfl (opv_as rfl) ?_
    refine snil ?_
    refine cseq ?_
    refine cseq ?_
    refine cjoin3 (Unit) (fun b5 => [(1, .s (.one (.i .i64 a1))), (7, .s (.one (.lp 0 0))), (9, .s (.one (.b v1))), (10, .s (.one (.lp 1 0))), (11, .s (.one (.lp 2 0))), (12, .s (.one (.i .i64 (if a2 > a1 then a2 else a1))))]) (fun b5 => [.box a3, .box v3, .box v4]) (fun b5 => m6_l08_StoreVacuums_k5 a1 a2 a3 v1 v3 v4 b5 = some r) (fun _ _ => inbL_of rfl) (fun _ _ => blkinb_of rfl) (fun _ _ => Nat.le_of_ble_eq_true rfl) (fun b5 h => ?_) ?_
    · unfold m6_l08_StoreVacuums_k5 at h
      refine cseq ?_
      refine cdraw mixed (by kernel_rfl) ?_
      refine dv rfl (opv_mv rfl) ?_
      refine dv rfl (opv_mv rfl) ?_
      refine dsplit 63 rfl (fun hc => ?_) (fun hc => ?_)
      · replace h := ite_t hc h
        clear hc
        refine dvg rfl rfl rfl (opv_loadN ti36 rfl (.lp _ _ _ rfl) (Nat.le_of_ble_eq_true rfl)) ?_
        refine dvg rfl rfl rfl (opv_loadN ti28 rfl (.lp _ _ _ rfl) (Nat.le_of_ble_eq_true rfl)) ?_
        refine dvg rfl rfl rfl (opv_mv rfl) ?_
        obtain ⟨v6, hv6, h⟩ := bind_eq h
        refine ddg rfl rfl rfl (opD_call fn30 (opnds_cons rfl (opnds_cons rfl (opnds_cons rfl opnds_nil))) rfl (m30_store_Changed_c hv6)) ?_
        refine dvg rfl rfl rfl (opv_loadN ti36 rfl (.lp _ _ _ rfl) (Nat.le_of_ble_eq_true rfl)) ?_
        refine dvg rfl rfl rfl (opv_loadN ti28 rfl (.lp _ _ _ rfl) (Nat.le_of_ble_eq_true rfl)) ?_
        refine dvg rfl rfl rfl (opv_mv rfl) ?_
        obtain ⟨v7, hv7, h⟩ := bind_eq h
        refine ddg rfl rfl rfl (opD_call fn30 (opnds_cons rfl (opnds_cons rfl (opnds_cons rfl opnds_nil))) rfl (m30_store_Changed_c hv7)) ?_
        obtain ⟨v8, hv8, h⟩ := bind_eq h
        refine ddg rfl rfl rfl (opD_call fn29 (opnds_cons rfl (opnds_cons rfl opnds_nil)) rfl (m29_r03_Lists_c hv8)) ?_
        refine dv rfl (opv_pick_t rfl rfl) ?_
        refine dv rfl (opv_mv rfl) ?_
        refine dsplit 74 rfl (fun hc => ?_) (fun hc => ?_)
        · replace h := ite_t hc h
          clear hc
          refine dvg rfl rfl rfl (opv_loadN ti36 rfl (.lp _ _ _ rfl) (Nat.le_of_ble_eq_true rfl)) ?_
          obtain ⟨v9, hv9, h⟩ := bind_eq h
          refine ddg rfl rfl rfl (opD_call fn32 (opnds_cons rfl opnds_nil) rfl (m32_store_Latest_c hv9)) ?_
          refine dvg rfl rfl rfl (opv_loadN ti36 rfl (.lp _ _ _ rfl) (Nat.le_of_ble_eq_true rfl)) ?_
          obtain ⟨v10, hv10, h⟩ := bind_eq h
          refine ddg rfl rfl rfl (opD_call fn32 (opnds_cons rfl opnds_nil) rfl (m32_store_Latest_c hv10)) ?_
          obtain ⟨v11, hv11, h⟩ := bind_eq h
          refine ddg rfl rfl rfl (opD_call fn20 (opnds_cons rfl (opnds_cons rfl opnds_nil)) rfl (m20_r05_KVs_c hv11)) ?_
          refine dv rfl (opv_pick_t rfl rfl) ?_
          refine dv rfl (opv_mv rfl) ?_
          refine dsplit 81 rfl (fun hc => ?_) (fun hc => ?_)
          · replace h := ite_t hc h
            clear hc
            refine dvg rfl rfl rfl (opv_loadN ti36 rfl (.lp _ _ _ rfl) (Nat.le_of_ble_eq_true rfl)) ?_
            obtain ⟨v12, hv12, h⟩ := bind_eq h
            refine ddg rfl rfl rfl (opD_call fn19 (opnds_cons rfl opnds_nil) rfl (m19_l08_theirs_c hv12)) ?_
            refine dvg rfl rfl rfl (opv_loadN ti36 rfl (.lp _ _ _ rfl) (Nat.le_of_ble_eq_true rfl)) ?_
            refine dvg rfl rfl rfl (opv_mv rfl) ?_
            obtain ⟨v13, hv13, h⟩ := bind_eq h
            refine ddg rfl rfl rfl (opD_call fn25 (opnds_cons rfl (opnds_cons rfl opnds_nil)) rfl (m25_store_Vacuum_c hv13)) ?_
            obtain ⟨v14, hv14, h⟩ := bind_eq h
            refine ddg rfl rfl rfl (opD_call fn19 (opnds_cons rfl opnds_nil) rfl (m19_l08_theirs_c hv14)) ?_
            obtain ⟨v15, hv15, h⟩ := bind_eq h
            refine ddg rfl rfl rfl (opD_call fn18 (opnds_cons rfl (opnds_cons rfl opnds_nil)) rfl (m18_r08_Same_c hv15)) ?_
            refine dv rfl (opv_pick_t rfl rfl) ?_
            refine dv rfl (opv_as rfl) ?_
            refine dnil ?_
            refine then_normal ?_
            refine cret ?_
            obtain rfl := Option.some.inj h
            refine ⟨Or.inr rfl, _, _, _, (resVs_cons (ResV.tmp _ _ rfl) resVs_nil), (pubA_id rfl), ?_⟩
            rfl
          · replace h := ite_f hc h
            clear hc
            refine doff rfl rfl rfl rfl ?_
            refine doff rfl rfl rfl rfl ?_
            refine doff rfl rfl rfl rfl ?_
            refine doff rfl rfl rfl rfl ?_
            refine doff rfl rfl rfl rfl ?_
            refine doff rfl rfl rfl rfl ?_
            refine doff rfl rfl rfl rfl ?_
            refine dv rfl (opv_pick_f rfl rfl) ?_
            refine dv rfl (opv_as rfl) ?_
            refine dnil ?_
            refine then_normal ?_
            refine cret ?_
            obtain rfl := Option.some.inj h
            refine ⟨Or.inr rfl, _, _, _, (resVs_cons (ResV.tmp _ _ rfl) resVs_nil), (pubA_id rfl), ?_⟩
            rfl
        · replace h := ite_f hc h
          clear hc
          refine doff rfl rfl rfl rfl ?_
          refine doff rfl rfl rfl rfl ?_
          refine doff rfl rfl rfl rfl ?_
          refine doff rfl rfl rfl rfl ?_
          refine doff rfl rfl rfl rfl ?_
          refine dv rfl (opv_pick_f rfl rfl) ?_
          refine dv rfl (opv_mv rfl) ?_
          refine doff rfl rfl rfl rfl ?_
          refine doff rfl rfl rfl rfl ?_
          refine doff rfl rfl rfl rfl ?_
          refine doff rfl rfl rfl rfl ?_
          refine doff rfl rfl rfl rfl ?_
          refine doff rfl rfl rfl rfl ?_
          refine doff rfl rfl rfl rfl ?_
          refine dv rfl (opv_pick_f rfl rfl) ?_
          refine dv rfl (opv_as rfl) ?_
          refine dnil ?_
          refine then_normal ?_
          refine cret ?_
          obtain rfl := Option.some.inj h
          refine ⟨Or.inr rfl, _, _, _, (resVs_cons (ResV.tmp _ _ rfl) resVs_nil), (pubA_id rfl), ?_⟩
          rfl
      · replace h := ite_f hc h
        clear hc
        refine doff rfl rfl rfl rfl ?_
        refine doff rfl rfl rfl rfl ?_
        refine doff rfl rfl rfl rfl ?_
        refine doff rfl rfl rfl rfl ?_
        refine doff rfl rfl rfl rfl ?_
        refine doff rfl rfl rfl rfl ?_
        refine doff rfl rfl rfl rfl ?_
        refine doff rfl rfl rfl rfl ?_
        refine doff rfl rfl rfl rfl ?_
        refine dv rfl (opv_pick_f rfl rfl) ?_
        refine dv rfl (opv_mv rfl) ?_
        refine doff rfl rfl rfl rfl ?_
        refine doff rfl rfl rfl rfl ?_
        refine doff rfl rfl rfl rfl ?_
        refine doff rfl rfl rfl rfl ?_
        refine doff rfl rfl rfl rfl ?_
        refine dv rfl (opv_pick_f rfl rfl) ?_
        refine dv rfl (opv_mv rfl) ?_
        refine doff rfl rfl rfl rfl ?_
        refine doff rfl rfl rfl rfl ?_
        refine doff rfl rfl rfl rfl ?_
        refine doff rfl rfl rfl rfl ?_
        refine doff rfl rfl rfl rfl ?_
        refine doff rfl rfl rfl rfl ?_
        refine doff rfl rfl rfl rfl ?_
        refine dv rfl (opv_pick_f rfl rfl) ?_
        refine dv rfl (opv_as rfl) ?_
        refine dnil ?_
        refine then_normal ?_
        refine cret ?_
        obtain rfl := Option.some.inj h
        refine ⟨Or.inr rfl, _, _, _, (resVs_cons (ResV.tmp _ _ rfl) resVs_nil), (pubA_id rfl), ?_⟩
        rfl
    · skip
      refine cdraw mixed (by kernel_rfl) ?_
      refine dv rfl (opv_loadN ti36 rfl (.lp _ _ _ rfl) (Nat.le_of_ble_eq_true rfl)) ?_
      refine dv rfl (opv_loadN ti28 rfl (.lp _ _ _ rfl) (Nat.le_of_ble_eq_true rfl)) ?_
      refine dv rfl (opv_mv rfl) ?_
      obtain ⟨v16, hv16, h⟩ := bind_eq h
      refine dd rfl (opD_call fn21 (opnds_cons rfl (opnds_cons rfl (opnds_cons rfl (opnds_cons rfl opnds_nil)))) rfl (m21_store_Scan_c hv16)) ?_
      refine dv rfl (opv_loadN ti36 rfl (.lp _ _ _ rfl) (Nat.le_of_ble_eq_true rfl)) ?_
      refine dv rfl (opv_loadN ti28 rfl (.lp _ _ _ rfl) (Nat.le_of_ble_eq_true rfl)) ?_
      refine dv rfl (opv_mv rfl) ?_
      obtain ⟨v17, hv17, h⟩ := bind_eq h
      refine dd rfl (opD_call fn21 (opnds_cons rfl (opnds_cons rfl (opnds_cons rfl (opnds_cons rfl opnds_nil)))) rfl (m21_store_Scan_c hv17)) ?_
      obtain ⟨v18, hv18, h⟩ := bind_eq h
      refine dd rfl (opD_call fn20 (opnds_cons rfl (opnds_cons rfl opnds_nil)) rfl (m20_r05_KVs_c hv18)) ?_
      refine dv rfl (opv_not rfl) ?_
      refine dv rfl (opv_mv rfl) ?_
      refine dsplit 41 rfl (fun hc => ?_) (fun hc => ?_)
      · replace h := ite_t hc h
        clear hc
        refine doff rfl rfl rfl rfl ?_
        refine doff rfl rfl rfl rfl ?_
        refine doff rfl rfl rfl rfl ?_
        refine dv rfl (opv_pick_t rfl rfl) ?_
        refine dv rfl (opv_mv rfl) ?_
        refine doff rfl rfl rfl rfl ?_
        refine doff rfl rfl rfl rfl ?_
        refine doff rfl rfl rfl rfl ?_
        refine doff rfl rfl rfl rfl ?_
        refine doff rfl rfl rfl rfl ?_
        refine doff rfl rfl rfl rfl ?_
        refine doff rfl rfl rfl rfl ?_
        refine dv rfl (opv_pick_t rfl rfl) ?_
        refine dv rfl (opv_mv rfl) ?_
        refine doff rfl rfl rfl rfl ?_
        refine doff rfl rfl rfl rfl ?_
        refine doff rfl rfl rfl rfl ?_
        refine doff rfl rfl rfl rfl ?_
        refine doff rfl rfl rfl rfl ?_
        refine dv rfl (opv_pick_t rfl rfl) ?_
        refine dnil ?_
        refine then_normal ?_
        refine ccond rfl (fun _ => ?_) (fun hx => Bool.noConfusion hx)
        refine cseq ?_
        refine cregion ?_
        refine sv rfl (opv_as rfl) ?_
        refine snil ?_
        refine cret ?_
        refine then_ret ?_
        obtain rfl := Option.some.inj h
        refine ⟨Or.inr rfl, _, _, _, (resVs_cons (ResV.tmp _ _ rfl) resVs_nil), (pubA_id rfl), ?_⟩
        rfl
      · replace h := ite_f hc h
        clear hc
        refine dvg rfl rfl rfl (opv_loadN ti36 rfl (.lp _ _ _ rfl) (Nat.le_of_ble_eq_true rfl)) ?_
        obtain ⟨v19, hv19, h⟩ := bind_eq h
        refine ddg rfl rfl rfl (opD_call fn23 (opnds_cons rfl opnds_nil) rfl (m23_store_Sane_c hv19)) ?_
        refine dvg rfl rfl rfl (opv_not rfl) ?_
        refine dv rfl (opv_pick_f rfl rfl) ?_
        refine dv rfl (opv_mv rfl) ?_
        refine dsplit 46 rfl (fun hc => ?_) (fun hc => ?_)
        · replace h := ite_t hc h
          clear hc
          refine doff rfl rfl rfl rfl ?_
          refine doff rfl rfl rfl rfl ?_
          refine doff rfl rfl rfl rfl ?_
          refine doff rfl rfl rfl rfl ?_
          refine doff rfl rfl rfl rfl ?_
          refine doff rfl rfl rfl rfl ?_
          refine doff rfl rfl rfl rfl ?_
          refine dv rfl (opv_pick_t rfl rfl) ?_
          refine dv rfl (opv_mv rfl) ?_
          refine doff rfl rfl rfl rfl ?_
          refine doff rfl rfl rfl rfl ?_
          refine doff rfl rfl rfl rfl ?_
          refine doff rfl rfl rfl rfl ?_
          refine doff rfl rfl rfl rfl ?_
          refine dv rfl (opv_pick_t rfl rfl) ?_
          refine dnil ?_
          refine then_normal ?_
          refine ccond rfl (fun _ => ?_) (fun hx => Bool.noConfusion hx)
          refine cseq ?_
          refine cregion ?_
          refine sv rfl (opv_as rfl) ?_
          refine snil ?_
          refine cret ?_
          refine then_ret ?_
          obtain rfl := Option.some.inj h
          refine ⟨Or.inr rfl, _, _, _, (resVs_cons (ResV.tmp _ _ rfl) resVs_nil), (pubA_id rfl), ?_⟩
          rfl
        · replace h := ite_f hc h
          clear hc
          refine dvg rfl rfl rfl (opv_fieldAddr_lp fi36_0 rfl) ?_
          refine dvg rfl rfl rfl (opv_load1 ti22 rfl (.lp _ _ _ rfl) rfl) ?_
          refine dvg rfl rfl rfl (opv_len_sl si22 rfl) ?_
          refine dvg rfl rfl rfl (opv_fieldAddr_lp fi36_0 rfl) ?_
          refine dvg rfl rfl rfl (opv_load1 ti22 rfl (.lp _ _ _ rfl) rfl) ?_
          refine dvg rfl rfl rfl (opv_len_sl si22 rfl) ?_
          refine dvg rfl rfl rfl (opv_gtr rfl rfl) ?_
          refine dv rfl (opv_pick_f rfl rfl) ?_
          refine dv rfl (opv_mv rfl) ?_
          refine dsplit 55 rfl (fun hc => ?_) (fun hc => ?_)
          · replace h := ite_t hc h
            clear hc
            refine doff rfl rfl rfl rfl ?_
            refine doff rfl rfl rfl rfl ?_
            refine doff rfl rfl rfl rfl ?_
            refine doff rfl rfl rfl rfl ?_
            refine doff rfl rfl rfl rfl ?_
            refine dv rfl (opv_pick_t rfl rfl) ?_
            refine dnil ?_
            refine then_normal ?_
            refine ccond rfl (fun _ => ?_) (fun hx => Bool.noConfusion hx)
            refine cseq ?_
            refine cregion ?_
            refine sv rfl (opv_as rfl) ?_
            refine snil ?_
            refine cret ?_
            refine then_ret ?_
            obtain rfl := Option.some.inj h
            refine ⟨Or.inr rfl, _, _, _, (resVs_cons (ResV.tmp _ _ rfl) resVs_nil), (pubA_id rfl), ?_⟩
            rfl
          · replace h := ite_f hc h
            clear hc
            refine dvg rfl rfl rfl (opv_fieldAddr_lp fi36_2 rfl) ?_
            refine dvg rfl rfl rfl (opv_load1 ti3 rfl (.lp _ _ _ rfl) rfl) ?_
            refine dvg rfl rfl rfl (opv_fieldAddr_lp fi36_2 rfl) ?_
            refine dvg rfl rfl rfl (opv_load1 ti3 rfl (.lp _ _ _ rfl) rfl) ?_
            refine dvg rfl rfl rfl (opv_ineq rfl rfl) ?_
            refine dv rfl (opv_pick_f rfl rfl) ?_
            refine dnil ?_
            refine then_normal ?_
            refine ccond rfl (fun hc => ?_) (fun hc => ?_)
            · replace h := ite_t hc h
              clear hc
              refine cseq ?_
              refine cregion ?_
              refine sv rfl (opv_as rfl) ?_
              refine snil ?_
              refine cret ?_
              refine then_ret ?_
              obtain rfl := Option.some.inj h
              refine ⟨Or.inr rfl, _, _, _, (resVs_cons (ResV.tmp _ _ rfl) resVs_nil), (pubA_id rfl), ?_⟩
              rfl
            · replace h := ite_f hc h
              clear hc
              refine cskip ?_
              refine then_normal ?_
              exact ⟨(), _, h, ⟨rfl, rfl, rfl, rfl, rfl, rfl, trivial⟩, rfl⟩
  · skip
    refine cregion ?_
    refine sv rfl (opv_mv rfl) ?_
    obtain ⟨v20, hv20, h⟩ := bind_eq h
    refine scall1 rfl fn34 (opnds_cons rfl opnds_nil) (pubA_id rfl) (m34_l08_few_c hv20) ?_
    refine sv rfl (opv_not rfl) ?_
    refine sv rfl (opv_mv rfl) ?_
    refine ssplit 17 rfl (fun hc => ?_) (fun hc => ?_)
    · replace h := ite_t hc h
      clear hc
      refine soff rfl rfl rfl rfl ?_
      refine soff rfl rfl rfl rfl ?_
      refine soff rfl rfl rfl rfl ?_
      refine sv rfl (opv_pick_t rfl rfl) ?_
      refine snil ?_
      refine ccond rfl (fun _ => ?_) (fun hx => Bool.noConfusion hx)
      refine cseq ?_
      refine cregion ?_
      refine sv rfl (opv_mv rfl) ?_
      refine sv rfl (opv_as rfl) ?_
      refine snil ?_
      refine cret ?_
      refine then_ret ?_
      obtain rfl := Option.some.inj h
      refine ⟨Or.inr rfl, _, _, _, (resVs_cons (ResV.tmp _ _ rfl) resVs_nil), (pubA_id rfl), ?_⟩
      rfl
    · replace h := ite_f hc h
      clear hc
      refine son rfl rfl rfl ?_
      refine sv rfl (opv_loadN ti28 rfl (.lp _ _ _ rfl) (Nat.le_of_ble_eq_true rfl)) ?_
      refine son rfl rfl rfl ?_
      obtain ⟨v21, hv21, h⟩ := bind_eq h
      refine scall1 rfl fn11 (opnds_cons rfl opnds_nil) (pubA_id rfl) (m11_r06_Short_c hv21) ?_
      refine son rfl rfl rfl ?_
      refine sv rfl (opv_not rfl) ?_
      refine sv rfl (opv_pick_f rfl rfl) ?_
      refine snil ?_
      refine ccond rfl (fun hc => ?_) (fun hc => ?_)
      · replace h := ite_t hc h
        clear hc
        refine cseq ?_
        refine cregion ?_
        refine sv rfl (opv_mv rfl) ?_
        refine sv rfl (opv_as rfl) ?_
        refine snil ?_
        refine cret ?_
        refine then_ret ?_
        obtain rfl := Option.some.inj h
        refine ⟨Or.inr rfl, _, _, _, (resVs_cons (ResV.tmp _ _ rfl) resVs_nil), (pubA_id rfl), ?_⟩
        rfl
      · replace h := ite_f hc h
        clear hc
        refine cskip ?_
        refine then_normal ?_
        exact ⟨(), _, h, ⟨rfl, rfl, rfl, rfl, rfl, trivial⟩, rfl⟩

def m21_store_Scano_k2 (b2 : (List GApiKV)) : Option (List GApiKV) :=
  some b2

def m21_store_Scano_s3 (a0 : GStoreStore) (a1 : GApiRange) (a2 : Int) (a3 : Int) (s3 : Int × (List GApiKV)) : Option (LB (Int × (List GApiKV)) ((List GApiKV))) :=
  if (decide (s3.1 < (a0.Keys.length : Int))) then ((idx a0.Keys s3.1).bind fun u4 => if (decide (a3 ≤ (s3.2.length : Int))) then (some (.brk s3.2)) else ((m50_keys_Has a1 u4).bind fun v5 => if (!v5) then (some (.cont ((wI (s3.1 + 1)), s3.2))) else ((idx a0.Chains s3.1).bind fun u6 => (m39_chain_Value u6 a2).bind fun v7 => if v7.2 then (if (s3.2.length + [(GApiKV.mk u4 v7.1)].length) * 48 ≤ 140737488355328 then (some (.cont ((wI (s3.1 + 1)), (s3.2 ++ [(GApiKV.mk u4 v7.1)])))) else none) else (some (.cont ((wI (s3.1 + 1)), s3.2)))))) else (some (.brk s3.2))
def m21_store_Scano (a0 : GStoreStore) (a1 : GApiRange) (a2 : Int) (a3 : Int) : Option (List GApiKV) :=
  (m23_store_Sane a0).bind fun v1 => if (!v1) then (some ([] : List GApiKV)) else ((iterB (m21_store_Scano_s3 a0 a1 a2 a3) fuel (0, ([] : List GApiKV))).bind fun e9 => m21_store_Scano_k2 e9)

set_option maxRecDepth 100000 in
theorem m21_store_Scano_c {a0 : GStoreStore} {a1 : GApiRange} {a2 : Int} {a3 : Int} {r : (List GApiKV)} (h : m21_store_Scano a0 a1 a2 a3 = some r) : CallsB Try.prog 21 [] [.agg a0, .agg a1, .one (.i .i64 a2), .one (.i .i64 a3)] (fun y m' => y = .s (.one (.ls 0 r.length)) ∧ m' = [.arr 71 2 0 (r.flatMap eGApiKV)]) := by
  unfold m21_store_Scano at h
  refine callsB_of Try.func21 rfl (nt := 54) rfl (Nat.le_of_ble_eq_true rfl) ?_
  intro w0 S0 X0 H0
  refine cseq ?_
  refine cregion ?_
  refine sbox rfl rfl ?_
  refine sbox rfl rfl ?_
  refine sv rfl (opv_as rfl) ?_
  refine snil ?_
  refine cscope (fun _ _ h => by rcases h with ⟨h | h, _⟩ <;> cases h) ?_
  refine cseq ?_
  refine cseq ?_
  refine cregion ?_
  refine sv rfl (opv_loadN ti36 rfl (.lp _ _ _ rfl) (Nat.le_of_ble_eq_true rfl)) ?_
  obtain ⟨v1, hv1, h⟩ := bind_eq h
  refine scall1 rfl fn23 (opnds_cons rfl opnds_nil) (pubA_id rfl) (m23_store_Sane_c hv1) ?_
  refine sv rfl (opv_not rfl) ?_
  refine snil ?_
  refine ccond rfl (fun hc => ?_) (fun hc => ?_)
  · replace h := ite_t hc h
    clear hc
    refine cseq ?_
    refine cregion ?_
    refine sv rfl (opv_as rfl) ?_
    refine snil ?_
    refine sadopt_c 71 2 8 (by decide) rfl ?_
    refine cret ?_
    refine then_ret ?_
    obtain rfl := Option.some.inj h
    exact ⟨Or.inr rfl, _, [2], [.one (.ls 0 ([] : List GApiKV).length)], [.arr 71 2 0 (([] : List GApiKV).flatMap eGApiKV)], (resVs_cons (ResV.tmp _ _ rfl) resVs_nil), rfl, rfl, ⟨by decide, rfl⟩, rfl, rfl, ⟨rfl, rfl⟩⟩
  · replace h := ite_f hc h
    clear hc
    refine cskip ?_
    refine then_normal ?_
    refine cseq ?_
    refine cregion ?_
    refine sv rfl (opv_as rfl) ?_
    refine snil ?_
    refine cseq ?_
    refine clabel ?_
    refine then_normal ?_
    refine cseq ?_
    refine cseq ?_
    refine cregion ?_
    refine sv rfl (opv_fieldAddr_lp fi36_0 rfl) ?_
    refine sv rfl (opv_load1 ti22 rfl (.lp _ _ _ rfl) rfl) ?_
    refine sv rfl (opv_len_sl si22 rfl) ?_
    refine sv rfl (opv_mv rfl) ?_
    refine snil ?_
    refine sadopt_c 71 2 9 (by decide) rfl ?_
    refine cjoin ((List GApiKV)) (fun b2 => [(9, .s (.one (.ls 2 b2.length)))]) (fun b2 => [.box a0, .box a1, .arr 71 2 0 (b2.flatMap eGApiKV)]) (fun b2 => m21_store_Scano_k2 b2 = some r) (fun _ _ => inbL_of rfl) (fun _ _ => blkinb_of rfl) (fun _ _ => Nat.le_of_ble_eq_true rfl) (fun b2 h => ?_) ?_
    · unfold m21_store_Scano_k2 at h
      refine cseq ?_
      refine cregion ?_
      refine sv rfl (opv_mv rfl) ?_
      refine sv rfl (opv_as rfl) ?_
      refine snil ?_
      refine cret ?_
      obtain rfl := Option.some.inj h
      exact ⟨Or.inr rfl, _, [2], [.one (.ls 0 b2.length)], [.arr 71 2 0 (b2.flatMap eGApiKV)], (resVs_cons (ResV.tmp _ _ rfl) resVs_nil), rfl, rfl, ⟨by decide, rfl⟩, rfl, rfl, ⟨rfl, rfl⟩⟩
    · skip
      refine cblock ?_
      obtain ⟨x3, hx3, ho3⟩ := bind_eq h
      refine awc_loop (G := Nat × (Int × (List GApiKV))) (fun g => [(2, .s (.one (.i .i64 a2))), (3, .s (.one (.i .i64 a3))), (4, .s (.one (.lp 0 0))), (5, .s (.one (.lp 1 0))), (9, .s (.one (.ls 2 g.2.2.length))), (18, .s (.one (.sl a0.Keys.length (a0.Keys.flatMap (eL eU8))))), (19, .s (.one (.i .i64 (a0.Keys.length : Int)))), (20, .s (.one (.i .i64 g.2.1)))]) (fun g => [.box a0, .box a1, .arr 71 2 0 (g.2.2.flatMap eGApiKV)]) (fun g => iterB (m21_store_Scano_s3 a0 a1 a2 a3) g.1 g.2 = some x3) (fun g => g.1) (fuel, (0, ([] : List GApiKV))) hx3 ⟨rfl, rfl, rfl, rfl, rfl, rfl, rfl, rfl, trivial⟩ [] rfl (fun _ _ => inbL_of rfl) (fun _ _ => blkinb_of rfl) (fun _ _ => Nat.le_of_ble_eq_true rfl) ?_
      clear hx3 h
      rintro ⟨n3, s3⟩ h
      obtain ⟨n3, y3, rfl, h, hk3⟩ := iterB_eq h
      unfold m21_store_Scano_s3 at h
      refine cseq ?_
      refine cregion ?_
      refine sv rfl (opv_lss rfl rfl) ?_
      refine snil ?_
      refine cseq ?_
      refine ccond rfl (fun hc => ?_) (fun hc => ?_)
      · replace h := ite_t hc h
        clear hc
        refine cskip ?_
        refine then_normal ?_
        refine cseq ?_
        refine cblock ?_
        refine cseq ?_
        refine cregion ?_
        refine sv rfl (opv_mv rfl) ?_
        obtain ⟨u4, hu4, h⟩ := bind_eq h
        refine sv rfl (opv_ix (f := (eL eU8)) si22 (fun _ => rfl) rfl rfl rfl rfl hu4) ?_
        refine sv rfl (opv_load1 ti26 rfl (.cp _) rfl) ?_
        refine sv rfl (opv_as rfl) ?_
        refine sv rfl (opv_as rfl) ?_
        refine snil ?_
        refine cseq ?_
        refine cblock ?_
        refine cseq ?_
        refine cregion ?_
        refine sv rfl (opv_mv rfl) ?_
        refine sv rfl (opv_len_ls si49 rfl rfl (flat_len (f := eGApiKV) (fun _ => rfl) _).symm) ?_
        refine sv rfl (opv_mv rfl) ?_
        refine sv rfl (opv_geq rfl rfl) ?_
        refine sv rfl (opv_as rfl) ?_
        refine snil ?_
        refine ccond rfl (fun hc => ?_) (fun hc => ?_)
        · replace h := ite_t hc h
          clear hc
          refine cexit ?_
          refine block_miss rfl ?_
          refine then_exit ?_
          refine block_miss rfl ?_
          refine then_exit ?_
          refine then_exit ?_
          refine block_hit ?_
          refine then_normal ?_
          obtain rfl := Option.some.inj h
          obtain rfl : _ = x3 := hk3
          exact ⟨s3.2, _, ho3, ⟨rfl, trivial⟩, rfl⟩
        · replace h := ite_f hc h
          clear hc
          refine cseq ?_
          refine cregion ?_
          refine sv rfl (opv_loadN ti28 rfl (.lp _ _ _ rfl) (Nat.le_of_ble_eq_true rfl)) ?_
          refine sv rfl (opv_mv rfl) ?_
          obtain ⟨v5, hv5, h⟩ := bind_eq h
          refine scall1 rfl fn50 (opnds_cons rfl (opnds_cons rfl opnds_nil)) (pubA_id rfl) (m50_keys_Has_c hv5) ?_
          refine sv rfl (opv_not rfl) ?_
          refine sv rfl (opv_as rfl) ?_
          refine snil ?_
          refine ccond rfl (fun hc => ?_) (fun hc => ?_)
          · replace h := ite_t hc h
            clear hc
            refine cexit ?_
            refine block_miss rfl ?_
            refine then_exit ?_
            refine block_hit ?_
            refine then_normal ?_
            refine cregion ?_
            refine sv rfl (opv_add rfl rfl) ?_
            refine sv rfl (opv_mv rfl) ?_
            refine snil ?_
            obtain rfl := Option.some.inj h
            exact ⟨(n3, ((wI (s3.1 + 1)), s3.2)), _, hk3, ⟨rfl, rfl, rfl, rfl, rfl, rfl, rfl, rfl, trivial⟩, rfl, Nat.lt_succ_self _⟩
          · replace h := ite_f hc h
            clear hc
            refine cskip ?_
            refine block_normal ?_
            refine then_normal ?_
            refine cseq ?_
            refine cregion ?_
            refine sv rfl (opv_fieldAddr_lp fi36_1 rfl) ?_
            refine sv rfl (opv_load1 ti34 rfl (.lp _ _ _ rfl) rfl) ?_
            refine sv rfl (opv_mv rfl) ?_
            obtain ⟨u6, hu6, h⟩ := bind_eq h
            refine sv rfl (opv_ix (f := eGChainChain) si34 (fun _ => rfl) rfl rfl rfl rfl hu6) ?_
            refine sv rfl (opv_loadNe (ys := [.sl u6.L.length (u6.L.flatMap eGChainVer)]) ti82 rfl (.cp _) rfl rfl) ?_
            refine sv rfl (opv_mv rfl) ?_
            obtain ⟨v7, hv7, h⟩ := bind_eq h
            refine scall1 rfl fn39 (opnds_cons rfl (opnds_cons rfl opnds_nil)) (pubA_id rfl) (m39_chain_Value_c hv7) ?_
            refine sv rfl (opv_mvt rfl) ?_
            refine sv rfl (opv_extract rfl rfl) ?_
            refine sv rfl (opv_extract rfl rfl) ?_
            refine sv rfl (opv_as rfl) ?_
            refine sv rfl (opv_as rfl) ?_
            refine snil ?_
            refine cseq ?_
            refine cregion ?_
            refine sv rfl (opv_mv rfl) ?_
            refine snil ?_
            refine ccond rfl (fun hc => ?_) (fun hc => ?_)
            · replace h := ite_t hc h
              clear hc
              refine cregion ?_
              refine sv rfl (opv_mv rfl) ?_
              refine sv rfl (opv_mv rfl) ?_
              refine sv rfl (opv_mv rfl) ?_
              refine sv rfl (opv_build zi71 pi71 (parts_cons rfl (parts_cons rfl parts_nil)) (.cons _ _ _ _ _ _ _ rfl rfl (Nat.le_of_ble_eq_true rfl) (.cons _ _ _ _ _ _ _ rfl rfl (Nat.le_of_ble_eq_true rfl) (.nil _)))) ?_
              refine sbuild1 rfl Try.underlying49 ei71 rfl rfl (List.all_eq_true.1 rfl) (by decide) ?_
              refine smem [.box a0, .box a1, .arr 71 2 0 (s3.2.flatMap eGApiKV), .arr 71 2 0 ([(GApiKV.mk u4 v7.1)].flatMap eGApiKV)] rfl ?_
              obtain ⟨hb8, h⟩ := chk_eq h
              refine sapp (f := eGApiKV) (xs := s3.2) (us := [(GApiKV.mk u4 v7.1)]) rfl Try.underlying49 ei71 ni49 (fun _ => rfl) rfl rfl (.one _ _ _ _ (.ls _ _ _ _ _ _ rfl (flat_len (f := eGApiKV) (fun _ => rfl) [(GApiKV.mk u4 v7.1)]).symm)) rfl rfl rfl (.sl _ _ _ (flat_len (f := eGApiKV) (fun _ => rfl) _)) rfl rfl hb8 (by decide) ?_
              refine sv rfl (opv_as rfl) ?_
              refine snil0 ?_
              refine block_normal ?_
              refine then_normal ?_
              refine cregion ?_
              refine sv rfl (opv_add rfl rfl) ?_
              refine sv rfl (opv_mv rfl) ?_
              refine snil ?_
              obtain rfl := Option.some.inj h
              exact ⟨(n3, ((wI (s3.1 + 1)), (s3.2 ++ [(GApiKV.mk u4 v7.1)]))), _, hk3, ⟨rfl, rfl, rfl, rfl, rfl, rfl, rfl, rfl, trivial⟩, rfl, Nat.lt_succ_self _⟩
            · replace h := ite_f hc h
              clear hc
              refine cskip ?_
              refine block_normal ?_
              refine then_normal ?_
              refine cregion ?_
              refine sv rfl (opv_add rfl rfl) ?_
              refine sv rfl (opv_mv rfl) ?_
              refine snil ?_
              obtain rfl := Option.some.inj h
              exact ⟨(n3, ((wI (s3.1 + 1)), s3.2)), _, hk3, ⟨rfl, rfl, rfl, rfl, rfl, rfl, rfl, rfl, trivial⟩, rfl, Nat.lt_succ_self _⟩
      · replace h := ite_f hc h
        clear hc
        refine cexit ?_
        refine then_exit ?_
        refine then_exit ?_
        refine block_hit ?_
        refine then_normal ?_
        obtain rfl := Option.some.inj h
        obtain rfl : _ = x3 := hk3
        exact ⟨s3.2, _, ho3, ⟨rfl, trivial⟩, rfl⟩

def m7_l08_StoreRanges_k2 (a0 : List GL08Lot) (a1 : GApiRange) (a2 : List UInt8) (a3 : Int) (v1 : Bool) (b2 : Unit) : Option Bool :=
  (m35_l08_grown a0).bind fun v3 => (m21_store_Scan v3 a1 a3 1000).bind fun v4 => (m36_r06_Has a1 a2).bind fun v5 => if (!v5) then (some v1) else ((m21_store_Scano v3 (GApiRange.mk a1.Lo a2 false) a3 1000).bind fun v6 => (m21_store_Scan (GStoreStore.mk v3.Keys v3.Chains v3.Ts) (GApiRange.mk a2 a1.Hi a1.Open) a3 1000).bind fun v7 => if (v6.length + v7.length) * 48 ≤ 140737488355328 then (if v1 then ((m20_r05_KVs (v6 ++ v7) v4).bind fun v9 => some v9) else (some false)) else none)
def m7_l08_StoreRanges (a0 : List GL08Lot) (a1 : GApiRange) (a2 : List UInt8) (a3 : Int) : Option Bool :=
  (m9_l08_awake).bind fun v1 => (m34_l08_few a0).bind fun v10 => if (!v10) then (some v1) else ((m11_r06_Short a1).bind fun v11 => if (!v11) then (some v1) else (if (decide (50 < (a2.length : Int))) then (some v1) else (m7_l08_StoreRanges_k2 a0 a1 a2 a3 v1 ())))

set_option maxRecDepth 100000 in
theorem m7_l08_StoreRanges_c {a0 : List GL08Lot} {a1 : GApiRange} {a2 : List UInt8} {a3 : Int} {r : Bool} (h : m7_l08_StoreRanges a0 a1 a2 a3 = some r) : CallsA Try.prog 7 [.one (.sl a0.length (a0.flatMap eGL08Lot)), .agg a1, .one (.sl a2.length (a2.flatMap eU8)), .one (.i .i64 a3)] (· = .s (.one (.b r))) := by
  unfold m7_l08_StoreRanges at h
  refine callsA_of Try.func7 rfl (nt := 65) rfl (Nat.le_of_ble_eq_true rfl) ?_
  intro w0 S0
  refine cseq ?_
  refine cregion ?_
  refine sbox rfl rfl ?_
  refine sv rfl (opv_as rfl) ?_
  refine snil ?_
  refine cseq ?_
  refine cregion ?_
  obtain ⟨v1, hv1, h⟩ := bind_eq h
  refine scall1 rfl fn9 opnds_nil (pubA_id rfl) (m9_l08_awake_c hv1) ?_
  refine sv rfl (opv_as rfl) ?_
  refine snil ?_
  refine cseq ?_
  refine cseq ?_
  refine cjoin3 (Unit) (fun b2 => [(0, .s (.one (.sl a0.length (a0.flatMap eGL08Lot)))), (2, .s (.one (.sl a2.length (a2.flatMap eU8)))), (3, .s (.one (.i .i64 a3))), (5, .s (.one (.lp 0 0))), (9, .s (.one (.b v1)))]) (fun b2 => [.box a1]) (fun b2 => m7_l08_StoreRanges_k2 a0 a1 a2 a3 v1 b2 = some r) (fun _ _ => inbL_of rfl) (fun _ _ => blkinb_of rfl) (fun _ _ => Nat.le_of_ble_eq_true rfl) (fun b2 h => ?_) ?_
  · unfold m7_l08_StoreRanges_k2 at h
    refine cseq ?_
    refine cregion ?_
    refine sv rfl (opv_mv rfl) ?_
    obtain ⟨v3, hv3, h⟩ := bind_eq h
    refine scall1 rfl fn35 (opnds_cons rfl opnds_nil) (pubA_id rfl) (m35_l08_grown_c hv3) ?_
    refine salloc rfl zi36 ?_
    refine sstore sz36 rfl rfl rfl rfl (Nat.le_of_ble_eq_true rfl) ?_
    refine smem [.box a1, .box v3] rfl ?_
    refine snil ?_
    refine cseq ?_
    refine cregion ?_
    refine sv rfl (opv_loadN ti36 rfl (.lp _ _ _ rfl) (Nat.le_of_ble_eq_true rfl)) ?_
    refine sv rfl (opv_loadN ti28 rfl (.lp _ _ _ rfl) (Nat.le_of_ble_eq_true rfl)) ?_
    refine sv rfl (opv_mv rfl) ?_
    obtain ⟨v4, hv4, h⟩ := bind_eq h
    refine scall1 rfl fn21 (opnds_cons rfl (opnds_cons rfl (opnds_cons rfl (opnds_cons rfl opnds_nil)))) (pubA_id rfl) (m21_store_Scan_c hv4) ?_
    refine sv rfl (opv_as rfl) ?_
    refine snil ?_
    refine cseq ?_
    refine cseq ?_
    refine cregion ?_
    refine sv rfl (opv_loadN ti28 rfl (.lp _ _ _ rfl) (Nat.le_of_ble_eq_true rfl)) ?_
    refine sv rfl (opv_mv rfl) ?_
    obtain ⟨v5, hv5, h⟩ := bind_eq h
    refine scall1 rfl fn36 (opnds_cons rfl (opnds_cons rfl opnds_nil)) (pubA_id rfl) (m36_r06_Has_c hv5) ?_
    refine sv rfl (opv_not rfl) ?_
    refine snil ?_
    refine ccond rfl (fun hc => ?_) (fun hc => ?_)
    · replace h := ite_t hc h
      clear hc
      refine cseq ?_
      refine cregion ?_
      refine sv rfl (opv_mv rfl) ?_
      refine sv rfl (opv_as rfl) ?_
      refine snil ?_
      refine cret ?_
      refine then_ret ?_
      obtain rfl := Option.some.inj h
      refine ⟨Or.inr rfl, _, _, _, (resVs_cons (ResV.tmp _ _ rfl) resVs_nil), (pubA_id rfl), ?_⟩
      rfl
    · replace h := ite_f hc h
      clear hc
      refine cskip ?_
      refine then_normal ?_
      refine cseq ?_
      refine cregion ?_
      refine sv rfl (opv_loadN ti36 rfl (.lp _ _ _ rfl) (Nat.le_of_ble_eq_true rfl)) ?_
      refine sv rfl (opv_fieldAddr_lp fi28_0 rfl) ?_
      refine sv rfl (opv_load1 ti26 rfl (.lp _ _ _ rfl) rfl) ?_
      refine sv rfl (opv_mv rfl) ?_
      refine sv rfl (opv_build zi28 pi28 (parts_cons rfl (parts_cons rfl parts_nil)) (.cons _ _ _ _ _ _ _ rfl rfl (Nat.le_of_ble_eq_true rfl) (.cons _ _ _ _ _ _ _ rfl rfl (Nat.le_of_ble_eq_true rfl) (.nil _)))) ?_
      refine sv rfl (opv_mv rfl) ?_
      obtain ⟨v6, hv6, h⟩ := bind_eq h
      refine scallB (x' := .s (.one (.ls 2 v6.length))) (M' := [.box a1, .box v3, .arr 71 2 0 (v6.flatMap eGApiKV)]) [] rfl fn21 (.func _) (opnds_cons rfl (opnds_cons rfl (opnds_cons rfl (opnds_cons rfl opnds_nil)))) (m21_store_Scano_c hv6) rfl rfl (by decide) rfl rfl rfl ?_
      refine sv rfl (opv_as rfl) ?_
      refine snil ?_
      refine cseq ?_
      refine cregion ?_
      refine sv rfl (opv_loadN ti36 rfl (.lp _ _ _ rfl) (Nat.le_of_ble_eq_true rfl)) ?_
      refine sv rfl (opv_mv rfl) ?_
      refine sv rfl (opv_fieldAddr_lp fi28_1 rfl) ?_
      refine sv rfl (opv_load1 ti26 rfl (.lp _ _ _ rfl) rfl) ?_
      refine sv rfl (opv_fieldAddr_lp fi28_2 rfl) ?_
      refine sv rfl (opv_load1 ti4 rfl (.lp _ _ _ rfl) rfl) ?_
      refine sv rfl (opv_build zi28 pi28 (parts_cons rfl (parts_cons rfl (parts_cons rfl parts_nil))) (.cons _ _ _ _ _ _ _ rfl rfl (Nat.le_of_ble_eq_true rfl) (.cons _ _ _ _ _ _ _ rfl rfl (Nat.le_of_ble_eq_true rfl) (.cons _ _ _ _ _ _ _ rfl rfl (Nat.le_of_ble_eq_true rfl) (.nil _))))) ?_
      refine sv rfl (opv_mv rfl) ?_
      obtain ⟨v7, hv7, h⟩ := bind_eq h
      refine scall1 rfl fn21 (opnds_cons rfl (opnds_cons rfl (opnds_cons rfl (opnds_cons rfl opnds_nil)))) (pubA_id rfl) (m21_store_Scan_c hv7) ?_
      refine sv rfl (opv_as rfl) ?_
      refine snil ?_
      refine cseq ?_
      refine cregion ?_
      refine sv rfl (opv_mv rfl) ?_
      refine sv rfl (opv_mv rfl) ?_
      obtain ⟨hb8, h⟩ := chk_eq h
      refine sapp (f := eGApiKV) (xs := v6) (us := v7) rfl Try.underlying49 ei71 ni49 (fun _ => rfl) rfl rfl (.one _ _ _ _ (.id _ rfl)) rfl rfl rfl (.sl _ _ _ (flat_len (f := eGApiKV) (fun _ => rfl) _)) rfl rfl hb8 (by decide) ?_
      refine sv rfl (opv_as rfl) ?_
      refine snil ?_
      refine cseq ?_
      refine cregion ?_
      refine sv rfl (opv_mv rfl) ?_
      refine sv rfl (opv_mv rfl) ?_
      refine ssplit 60 rfl (fun hc => ?_) (fun hc => ?_)
      · replace h := ite_t hc h
        clear hc
        refine son rfl rfl rfl ?_
        refine sv rfl (opv_mv rfl) ?_
        refine son rfl rfl rfl ?_
        refine sv rfl (opv_mv rfl) ?_
        refine son rfl rfl rfl ?_
        refine spub 61 rfl (by (repeat' first | exact PubA.nil _ | apply PubA.cons | apply PubV.one | apply PubV.agg | exact PubL.nil | exact PubL.ls _ _ _ _ _ _ rfl (flat_len (f := eGApiKV) (fun _ => rfl) _).symm | exact PubL.id _ rfl | exact PubLs.nil _ | apply PubLs.cons)) ?_
        obtain ⟨v9, hv9, h⟩ := bind_eq h
        refine scall1 rfl fn20 (opnds_cons rfl (opnds_cons rfl opnds_nil)) (pubA_id rfl) (m20_r05_KVs_c hv9) ?_
        refine sv rfl (opv_pick_t rfl rfl) ?_
        refine sv rfl (opv_as rfl) ?_
        refine snil ?_
        refine cret ?_
        obtain rfl := Option.some.inj h
        refine ⟨Or.inr rfl, _, _, _, (resVs_cons (ResV.tmp _ _ rfl) resVs_nil), (pubA_id rfl), ?_⟩
        rfl
      · replace h := ite_f hc h
        clear hc
        refine soff rfl rfl rfl rfl ?_
        refine soff rfl rfl rfl rfl ?_
        refine soff rfl rfl rfl rfl ?_
        refine sv rfl (opv_pick_f rfl rfl) ?_
        refine sv rfl (opv_as rfl) ?_
        refine snil ?_
        refine cret ?_
        obtain rfl := Option.some.inj h
        refine ⟨Or.inr rfl, _, _, _, (resVs_cons (ResV.tmp _ _ rfl) resVs_nil), (pubA_id rfl), ?_⟩
        rfl
  · skip
    refine cregion ?_
    refine sv rfl (opv_mv rfl) ?_
    obtain ⟨v10, hv10, h⟩ := bind_eq h
    refine scall1 rfl fn34 (opnds_cons rfl opnds_nil) (pubA_id rfl) (m34_l08_few_c hv10) ?_
    refine sv rfl (opv_not rfl) ?_
    refine sv rfl (opv_mv rfl) ?_
    refine ssplit 18 rfl (fun hc => ?_) (fun hc => ?_)
    · replace h := ite_t hc h
      clear hc
      refine soff rfl rfl rfl rfl ?_
      refine soff rfl rfl rfl rfl ?_
      refine soff rfl rfl rfl rfl ?_
      refine sv rfl (opv_pick_t rfl rfl) ?_
      refine sv rfl (opv_mv rfl) ?_
      refine soff rfl rfl rfl rfl ?_
      refine soff rfl rfl rfl rfl ?_
      refine soff rfl rfl rfl rfl ?_
      refine sv rfl (opv_pick_t rfl rfl) ?_
      refine snil ?_
      refine ccond rfl (fun _ => ?_) (fun hx => Bool.noConfusion hx)
      refine cseq ?_
      refine cregion ?_
      refine sv rfl (opv_mv rfl) ?_
      refine sv rfl (opv_as rfl) ?_
      refine snil ?_
      refine cret ?_
      refine then_ret ?_
      obtain rfl := Option.some.inj h
      refine ⟨Or.inr rfl, _, _, _, (resVs_cons (ResV.tmp _ _ rfl) resVs_nil), (pubA_id rfl), ?_⟩
      rfl
    · replace h := ite_f hc h
      clear hc
      refine son rfl rfl rfl ?_
      refine sv rfl (opv_loadN ti28 rfl (.lp _ _ _ rfl) (Nat.le_of_ble_eq_true rfl)) ?_
      refine son rfl rfl rfl ?_
      obtain ⟨v11, hv11, h⟩ := bind_eq h
      refine scall1 rfl fn11 (opnds_cons rfl opnds_nil) (pubA_id rfl) (m11_r06_Short_c hv11) ?_
      refine son rfl rfl rfl ?_
      refine sv rfl (opv_not rfl) ?_
      refine sv rfl (opv_pick_f rfl rfl) ?_
      refine sv rfl (opv_mv rfl) ?_
      refine ssplit 23 rfl (fun hc => ?_) (fun hc => ?_)
      · replace h := ite_t hc h
        clear hc
        refine soff rfl rfl rfl rfl ?_
        refine soff rfl rfl rfl rfl ?_
        refine soff rfl rfl rfl rfl ?_
        refine sv rfl (opv_pick_t rfl rfl) ?_
        refine snil ?_
        refine ccond rfl (fun _ => ?_) (fun hx => Bool.noConfusion hx)
        refine cseq ?_
        refine cregion ?_
        refine sv rfl (opv_mv rfl) ?_
        refine sv rfl (opv_as rfl) ?_
        refine snil ?_
        refine cret ?_
        refine then_ret ?_
        obtain rfl := Option.some.inj h
        refine ⟨Or.inr rfl, _, _, _, (resVs_cons (ResV.tmp _ _ rfl) resVs_nil), (pubA_id rfl), ?_⟩
        rfl
      · replace h := ite_f hc h
        clear hc
        refine son rfl rfl rfl ?_
        refine sv rfl (opv_mv rfl) ?_
        refine son rfl rfl rfl ?_
        refine sv rfl (opv_len_sl si26 rfl) ?_
        refine son rfl rfl rfl ?_
        refine sv rfl (opv_gtr rfl rfl) ?_
        refine sv rfl (opv_pick_f rfl rfl) ?_
        refine snil ?_
        refine ccond rfl (fun hc => ?_) (fun hc => ?_)
        · replace h := ite_t hc h
          clear hc
          refine cseq ?_
          refine cregion ?_
          refine sv rfl (opv_mv rfl) ?_
          refine sv rfl (opv_as rfl) ?_
          refine snil ?_
          refine cret ?_
          refine then_ret ?_
          obtain rfl := Option.some.inj h
          refine ⟨Or.inr rfl, _, _, _, (resVs_cons (ResV.tmp _ _ rfl) resVs_nil), (pubA_id rfl), ?_⟩
          rfl
        · replace h := ite_f hc h
          clear hc
          refine cskip ?_
          refine then_normal ?_
          exact ⟨(), _, h, ⟨rfl, rfl, rfl, rfl, rfl, trivial⟩, rfl⟩

def m27_store_Wrote (a0 : GStoreStore) (a1 : List UInt8) (a2 : Int) : Option Bool :=
  (m38_keys_Find a0.Keys a1).bind fun v1 => if v1.2 then ((m23_store_Sane a0).bind fun v2 => if v2 then ((idx a0.Chains v1.1).bind fun u3 => (m53_chain_Last u3).bind fun v4 => some (decide (a2 < v4))) else (some false)) else (some false)

set_option maxRecDepth 100000 in
theorem m27_store_Wrote_c {a0 : GStoreStore} {a1 : List UInt8} {a2 : Int} {r : Bool} (h : m27_store_Wrote a0 a1 a2 = some r) : CallsA Try.prog 27 [.agg a0, .one (.sl a1.length (a1.flatMap eU8)), .one (.i .i64 a2)] (· = .s (.one (.b r))) := by
  unfold m27_store_Wrote at h
  refine callsA_of Try.func27 rfl (nt := 31) rfl (Nat.le_of_ble_eq_true rfl) ?_
  intro w0 S0
  refine cseq ?_
  refine cregion ?_
  refine sbox rfl rfl ?_
  refine sv rfl (opv_as rfl) ?_
  refine snil ?_
  refine cseq ?_
  refine cregion ?_
  refine sv rfl (opv_fieldAddr_lp fi36_0 rfl) ?_
  refine sv rfl (opv_load1 ti22 rfl (.lp _ _ _ rfl) rfl) ?_
  refine sv rfl (opv_mv rfl) ?_
  obtain ⟨v1, hv1, h⟩ := bind_eq h
  refine scall1 rfl fn38 (opnds_cons rfl (opnds_cons rfl opnds_nil)) (pubA_id rfl) (m38_keys_Find_c hv1) ?_
  refine sv rfl (opv_mvt rfl) ?_
  refine sv rfl (opv_extract rfl rfl) ?_
  refine sv rfl (opv_extract rfl rfl) ?_
  refine sv rfl (opv_as rfl) ?_
  refine sv rfl (opv_as rfl) ?_
  refine snil ?_
  refine cseq ?_
  refine cregion ?_
  refine sv rfl (opv_mv rfl) ?_
  refine sv rfl (opv_mv rfl) ?_
  refine ssplit 17 rfl (fun hc => ?_) (fun hc => ?_)
  · replace h := ite_t hc h
    clear hc
    refine son rfl rfl rfl ?_
    refine sv rfl (opv_loadN ti36 rfl (.lp _ _ _ rfl) (Nat.le_of_ble_eq_true rfl)) ?_
    refine son rfl rfl rfl ?_
    obtain ⟨v2, hv2, h⟩ := bind_eq h
    refine scall1 rfl fn23 (opnds_cons rfl opnds_nil) (pubA_id rfl) (m23_store_Sane_c hv2) ?_
    refine sv rfl (opv_pick_t rfl rfl) ?_
    refine sv rfl (opv_mv rfl) ?_
    refine ssplit 21 rfl (fun hc => ?_) (fun hc => ?_)
    · replace h := ite_t hc h
      clear hc
      refine son rfl rfl rfl ?_
      refine sv rfl (opv_fieldAddr_lp fi36_1 rfl) ?_
      refine son rfl rfl rfl ?_
      refine sv rfl (opv_load1 ti34 rfl (.lp _ _ _ rfl) rfl) ?_
      refine son rfl rfl rfl ?_
      refine sv rfl (opv_mv rfl) ?_
      refine son rfl rfl rfl ?_
      obtain ⟨u3, hu3, h⟩ := bind_eq h
      refine sv rfl (opv_ix (f := eGChainChain) si34 (fun _ => rfl) rfl rfl rfl rfl hu3) ?_
      refine son rfl rfl rfl ?_
      refine sv rfl (opv_loadNe (ys := [.sl u3.L.length (u3.L.flatMap eGChainVer)]) ti82 rfl (.cp _) rfl rfl) ?_
      refine son rfl rfl rfl ?_
      obtain ⟨v4, hv4, h⟩ := bind_eq h
      refine scall1 rfl fn53 (opnds_cons rfl opnds_nil) (pubA_id rfl) (m53_chain_Last_c hv4) ?_
      refine son rfl rfl rfl ?_
      refine sv rfl (opv_mv rfl) ?_
      refine son rfl rfl rfl ?_
      refine sv rfl (opv_gtr rfl rfl) ?_
      refine sv rfl (opv_pick_t rfl rfl) ?_
      refine sv rfl (opv_as rfl) ?_
      refine snil ?_
      refine cret ?_
      obtain rfl := Option.some.inj h
      refine ⟨Or.inr rfl, _, _, _, (resVs_cons (ResV.tmp _ _ rfl) resVs_nil), (pubA_id rfl), ?_⟩
      rfl
    · replace h := ite_f hc h
      clear hc
      refine soff rfl rfl rfl rfl ?_
      refine soff rfl rfl rfl rfl ?_
      refine soff rfl rfl rfl rfl ?_
      refine soff rfl rfl rfl rfl ?_
      refine soff rfl rfl rfl rfl ?_
      refine soff rfl rfl rfl rfl ?_
      refine soff rfl rfl rfl rfl ?_
      refine soff rfl rfl rfl rfl ?_
      refine sv rfl (opv_pick_f rfl rfl) ?_
      refine sv rfl (opv_as rfl) ?_
      refine snil ?_
      refine cret ?_
      obtain rfl := Option.some.inj h
      refine ⟨Or.inr rfl, _, _, _, (resVs_cons (ResV.tmp _ _ rfl) resVs_nil), (pubA_id rfl), ?_⟩
      rfl
  · replace h := ite_f hc h
    clear hc
    refine soff rfl rfl rfl rfl ?_
    refine soff rfl rfl rfl rfl ?_
    refine sv rfl (opv_pick_f rfl rfl) ?_
    refine sv rfl (opv_mv rfl) ?_
    refine soff rfl rfl rfl rfl ?_
    refine soff rfl rfl rfl rfl ?_
    refine soff rfl rfl rfl rfl ?_
    refine soff rfl rfl rfl rfl ?_
    refine soff rfl rfl rfl rfl ?_
    refine soff rfl rfl rfl rfl ?_
    refine soff rfl rfl rfl rfl ?_
    refine soff rfl rfl rfl rfl ?_
    refine sv rfl (opv_pick_f rfl rfl) ?_
    refine sv rfl (opv_as rfl) ?_
    refine snil ?_
    refine cret ?_
    obtain rfl := Option.some.inj h
    refine ⟨Or.inr rfl, _, _, _, (resVs_cons (ResV.tmp _ _ rfl) resVs_nil), (pubA_id rfl), ?_⟩
    rfl

def m8_l08_StoreStill_k10 (a1 : List GApiWrite) (a2 : Int) (v1 : Bool) (v3 : GStoreStore) (v4 : GR08Store) (b10 : Int) : Option Bool :=
  if v1 then ((m19_l08_theirs v3).bind fun v11 => (m18_r08_Same v11 (GR08Store.mk v4.Keys v4.Chains v4.Ts)).bind fun v12 => if v12 then (if (decide (b10 = (a1.length : Int))) then (some (decide (v4.Ts < a2))) else (some false)) else (some false)) else (some false)

def m8_l08_StoreStill_s13 (a1 : List GApiWrite) (a2 : Int) (v5 : GStoreStore × Int) (s13 : Int × Int) : Option (LB (Int × Int) (Int)) :=
  if (decide (s13.2 < (a1.length : Int))) then ((idx a1 s13.2).bind fun u14 => (m27_store_Wrote v5.1 u14.Key (wI (a2 - 1))).bind fun v15 => if v15 then ((idx a1 s13.2).bind fun u16 => (m27_store_Wrote v5.1 u16.Key a2).bind fun v17 => if (!v17) then (some (.cont ((wI (s13.1 + 1)), (wI (s13.2 + 1))))) else (some (.cont (s13.1, (wI (s13.2 + 1)))))) else (some (.cont (s13.1, (wI (s13.2 + 1)))))) else (some (.brk s13.1))

def m8_l08_StoreStill_k2 (a0 : List GL08Lot) (a1 : List GApiWrite) (a2 : Int) (v1 : Bool) (b2 : Unit) : Option Bool :=
  (m35_l08_grown a0).bind fun v3 => (m19_l08_theirs v3).bind fun v4 => (m16_store_Install v3 a2 a1).bind fun v5 => if (!decide (v5.2 = 0)) then (if v1 then ((m19_l08_theirs v5.1).bind fun v6 => (m18_r08_Same v6 (GR08Store.mk ([] : List (List UInt8)) ([] : List GR07Chain) 0)).bind fun v7 => if v7 then ((m19_l08_theirs v3).bind fun v8 => (m18_r08_Same v8 v4).bind fun v9 => some v9) else (some false)) else (some false)) else ((iterB (m8_l08_StoreStill_s13 a1 a2 v5) fuel (0, 0)).bind fun e18 => m8_l08_StoreStill_k10 a1 a2 v1 v3 v4 e18)
end Go.Proofs.Ytbojepclnfnmcaa.Abs
