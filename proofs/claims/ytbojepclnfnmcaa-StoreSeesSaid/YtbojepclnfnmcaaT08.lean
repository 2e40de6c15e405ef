/-
  t
-/
import Derived.Test.YtbojepclnfnmcaaT08a
namespace Go.Proofs.Ytbojepclnfnmcaa.Abs
open Go.RowKit Go.Proofs
def m9_l08_awake  : Option Bool :=
  (m16_store_Install (GStoreStore.mk ([] : List (List UInt8)) ([] : List GChainChain) 0) 3 [(GApiWrite.mk [(UInt8.ofBitVec (97#8))] [(UInt8.ofBitVec (118#8))] false)]).bind fun v1 => (m14_store_Get (GStoreStore.mk v1.1.Keys v1.1.Chains v1.1.Ts) [(UInt8.ofBitVec (97#8))] 2).bind fun v2 => (m14_store_Get (GStoreStore.mk v1.1.Keys v1.1.Chains v1.1.Ts) [(UInt8.ofBitVec (97#8))] 3).bind fun v3 => if (decide (v1.2 = 0)) then (if (!v2.2) then (if v3.2 then (if (v3.1 == ([118] : List UInt8)) then (if (decide (v1.1.Ts = 3)) then ((m32_store_Latest (GStoreStore.mk v1.1.Keys v1.1.Chains v1.1.Ts)).bind fun v4 => some (decide ((v4.length : Int) = 1))) else (some false)) else (some false)) else (some false)) else (some false)) else (some false)

set_option maxRecDepth 100000 in
theorem m9_l08_awake_c  {r : Bool} (h : m9_l08_awake = some r) : CallsA Try.prog 9 [] (· = .s (.one (.b r))) := by
  unfold m9_l08_awake at h
  refine callsA_of Try.func9 rfl (nt := 57) rfl (Nat.le_of_ble_eq_true rfl) ?_
  intro w0 S0
  refine cseq ?_
  refine cregion ?_
  refine sv rfl (opv_as rfl) ?_
  refine snil ?_
  refine cseq ?_
  refine cregion ?_
  refine sv rfl (opv_build zi36 pi36 parts_nil (.nil _)) ?_
  refine sbuild1 rfl Try.underlying26 ei5 rfl rfl (List.all_eq_true.1 rfl) (by decide) ?_
  refine smem [.arr 5 1 0 ([(UInt8.ofBitVec (97#8))].flatMap eU8)] rfl ?_
  refine sconv_id rfl Try.underlying26 Try.underlying5 rfl rfl (flat_len (f := eU8) (fun _ => rfl) [(UInt8.ofBitVec (97#8))]).symm (by decide) ?_
  refine sbuild1 rfl Try.underlying26 ei5 rfl rfl (List.all_eq_true.1 rfl) (by decide) ?_
  refine smem [.dead, .arr 5 1 0 ([(UInt8.ofBitVec (118#8))].flatMap eU8)] rfl ?_
  refine sconv_id rfl Try.underlying26 Try.underlying5 rfl rfl (flat_len (f := eU8) (fun _ => rfl) [(UInt8.ofBitVec (118#8))]).symm (by decide) ?_
  refine sv rfl (opv_build zi67 pi67 (parts_cons rfl (parts_cons rfl parts_nil)) (.cons _ _ _ _ _ _ _ rfl rfl (Nat.le_of_ble_eq_true rfl) (.cons _ _ _ _ _ _ _ rfl rfl (Nat.le_of_ble_eq_true rfl) (.nil _)))) ?_
  refine sbuild1 rfl Try.underlying29 ei67 rfl rfl (List.all_eq_true.1 rfl) (by decide) ?_
  refine smem [.dead, .dead, .arr 67 3 0 ([(GApiWrite.mk [(UInt8.ofBitVec (97#8))] [(UInt8.ofBitVec (118#8))] false)].flatMap eGApiWrite)] rfl ?_
  refine spub 14 rfl (by (repeat' first | exact PubA.nil _ | apply PubA.cons | apply PubV.one | apply PubV.agg | exact PubL.nil | exact PubL.ls _ _ _ _ _ _ rfl (flat_len (f := eGApiWrite) (fun _ => rfl) ([(GApiWrite.mk [(UInt8.ofBitVec (97#8))] [(UInt8.ofBitVec (118#8))] false)] : List GApiWrite)).symm | exact PubL.ls _ _ _ _ _ _ rfl (flat_len (f := eGApiWrite) (fun _ => rfl) _).symm | exact PubL.id _ rfl | exact PubLs.nil _ | apply PubLs.cons)) ?_
  obtain ⟨v1, hv1, h⟩ := bind_eq h
  refine scall1 rfl fn16 (opnds_cons rfl (opnds_cons rfl (opnds_cons rfl opnds_nil))) (pubC rfl) (m16_store_Install_c hv1) ?_
  refine sv rfl (opv_mvt rfl) ?_
  refine sv rfl (opv_extract rfl rfl) ?_
  refine sv rfl (opv_extract rfl rfl) ?_
  refine salloc rfl zi36 ?_
  refine sstore sz36 rfl rfl rfl rfl (Nat.le_of_ble_eq_true rfl) ?_
  refine smem [.dead, .dead, .arr 67 3 ([(GApiWrite.mk [(UInt8.ofBitVec (97#8))] [(UInt8.ofBitVec (118#8))] false)].flatMap eGApiWrite).length ([(GApiWrite.mk [(UInt8.ofBitVec (97#8))] [(UInt8.ofBitVec (118#8))] false)].flatMap eGApiWrite), .box v1.1] rfl ?_
  refine sv rfl (opv_as rfl) ?_
  refine snil ?_
  refine cseq ?_
  refine cregion ?_
  refine sv rfl (opv_loadN ti36 rfl (.lp _ _ _ rfl) (Nat.le_of_ble_eq_true rfl)) ?_
  refine sbuild1 rfl Try.underlying26 ei5 rfl rfl (List.all_eq_true.1 rfl) (by decide) ?_
  refine smem [.dead, .dead, .arr 67 3 ([(GApiWrite.mk [(UInt8.ofBitVec (97#8))] [(UInt8.ofBitVec (118#8))] false)].flatMap eGApiWrite).length ([(GApiWrite.mk [(UInt8.ofBitVec (97#8))] [(UInt8.ofBitVec (118#8))] false)].flatMap eGApiWrite), .box v1.1, .arr 5 1 0 ([(UInt8.ofBitVec (97#8))].flatMap eU8)] rfl ?_
  refine sconv_id rfl Try.underlying26 Try.underlying5 rfl rfl (flat_len (f := eU8) (fun _ => rfl) [(UInt8.ofBitVec (97#8))]).symm (by decide) ?_
  obtain ⟨v2, hv2, h⟩ := bind_eq h
  refine scall1 rfl fn14 (opnds_cons rfl (opnds_cons rfl (opnds_cons rfl opnds_nil))) (pubA_id rfl) (m14_store_Get_c hv2) ?_
  refine sv rfl (opv_mvt rfl) ?_
  refine sv rfl (opv_extract rfl rfl) ?_
  refine sv rfl (opv_extract rfl rfl) ?_
  refine sv rfl (opv_as rfl) ?_
  refine sv rfl (opv_as rfl) ?_
  refine snil ?_
  refine cseq ?_
  refine cregion ?_
  refine sv rfl (opv_loadN ti36 rfl (.lp _ _ _ rfl) (Nat.le_of_ble_eq_true rfl)) ?_
  refine sbuild1 rfl Try.underlying26 ei5 rfl rfl (List.all_eq_true.1 rfl) (by decide) ?_
  refine smem [.dead, .dead, .arr 67 3 ([(GApiWrite.mk [(UInt8.ofBitVec (97#8))] [(UInt8.ofBitVec (118#8))] false)].flatMap eGApiWrite).length ([(GApiWrite.mk [(UInt8.ofBitVec (97#8))] [(UInt8.ofBitVec (118#8))] false)].flatMap eGApiWrite), .box v1.1, .dead, .arr 5 1 0 ([(UInt8.ofBitVec (97#8))].flatMap eU8)] rfl ?_
  refine sconv_id rfl Try.underlying26 Try.underlying5 rfl rfl (flat_len (f := eU8) (fun _ => rfl) [(UInt8.ofBitVec (97#8))]).symm (by decide) ?_
  obtain ⟨v3, hv3, h⟩ := bind_eq h
  refine scall1 rfl fn14 (opnds_cons rfl (opnds_cons rfl (opnds_cons rfl opnds_nil))) (pubA_id rfl) (m14_store_Get_c hv3) ?_
  refine sv rfl (opv_mvt rfl) ?_
  refine sv rfl (opv_extract rfl rfl) ?_
  refine sv rfl (opv_extract rfl rfl) ?_
  refine sv rfl (opv_as rfl) ?_
  refine sv rfl (opv_as rfl) ?_
  refine snil ?_
  refine cseq ?_
  refine cregion ?_
  refine sv rfl (opv_mv rfl) ?_
  refine sv rfl (opv_ieql rfl rfl) ?_
  refine sv rfl (opv_mv rfl) ?_
  refine ssplit 34 rfl (fun hc => ?_) (fun hc => ?_)
  · replace h := ite_t hc h
    clear hc
    refine son rfl rfl rfl ?_
    refine sv rfl (opv_mv rfl) ?_
    refine son rfl rfl rfl ?_
    refine sv rfl (opv_not rfl) ?_
    refine sv rfl (opv_pick_t rfl rfl) ?_
    refine sv rfl (opv_mv rfl) ?_
    refine ssplit 38 rfl (fun hc => ?_) (fun hc => ?_)
    · replace h := ite_t hc h
      clear hc
      refine son rfl rfl rfl ?_
      refine sv rfl (opv_mv rfl) ?_
      refine sv rfl (opv_pick_t rfl rfl) ?_
      refine sv rfl (opv_mv rfl) ?_
      refine ssplit 41 rfl (fun hc => ?_) (fun hc => ?_)
      · replace h := ite_t hc h
        clear hc
        refine son rfl rfl rfl ?_
        refine sv rfl (opv_mv rfl) ?_
        refine son rfl rfl rfl ?_
        refine sv rfl (opv_bs (l := v3.1) Try.underlying26 Try.underlying5 Try.underlying9 rfl rfl rfl) ?_
        refine son rfl rfl rfl ?_
        refine sv rfl (opv_seql' rfl rfl) ?_
        refine sv rfl (opv_pick_t rfl rfl) ?_
        refine sv rfl (opv_mv rfl) ?_
        refine ssplit 46 rfl (fun hc => ?_) (fun hc => ?_)
        · replace h := ite_t hc h
          clear hc
          refine son rfl rfl rfl ?_
          refine sv rfl (opv_fieldAddr_lp fi36_2 rfl) ?_
          refine son rfl rfl rfl ?_
          refine sv rfl (opv_load1 ti3 rfl (.lp _ _ _ rfl) rfl) ?_
          refine son rfl rfl rfl ?_
          refine sv rfl (opv_ieql rfl rfl) ?_
          refine sv rfl (opv_pick_t rfl rfl) ?_
          refine sv rfl (opv_mv rfl) ?_
          refine ssplit 51 rfl (fun hc => ?_) (fun hc => ?_)
          · replace h := ite_t hc h
            clear hc
            refine son rfl rfl rfl ?_
            refine sv rfl (opv_loadN ti36 rfl (.lp _ _ _ rfl) (Nat.le_of_ble_eq_true rfl)) ?_
            refine son rfl rfl rfl ?_
            obtain ⟨v4, hv4, h⟩ := bind_eq h
            refine scall1 rfl fn32 (opnds_cons rfl opnds_nil) (pubA_id rfl) (m32_store_Latest_c hv4) ?_
            refine son rfl rfl rfl ?_
            refine sv rfl (opv_len_sl si49 rfl) ?_
            refine son rfl rfl rfl ?_
            refine sv rfl (opv_ieql rfl rfl) ?_
            refine sv rfl (opv_pick_t rfl rfl) ?_
            refine sv rfl (opv_as rfl) ?_
            refine snil ?_
            refine cret ?_
            obtain rfl := Option.some.inj h
            refine ⟨Or.inr rfl, _, _, _, (resVs_cons (ResV.tmp _ _ rfl) resVs_nil), (pubA_id rfl), ?_⟩
            rfl
          · replace h := ite_f hc h
            clear hc
            refine soff rfl rfl rfl rfl ?_
            refine soff rfl rfl rfl rfl ?_
            refine soff rfl rfl rfl rfl ?_
            refine soff rfl rfl rfl rfl ?_
            refine sv rfl (opv_pick_f rfl rfl) ?_
            refine sv rfl (opv_as rfl) ?_
            refine snil ?_
            refine cret ?_
            obtain rfl := Option.some.inj h
            refine ⟨Or.inr rfl, _, _, _, (resVs_cons (ResV.tmp _ _ rfl) resVs_nil), (pubA_id rfl), ?_⟩
            rfl
        · replace h := ite_f hc h
          clear hc
          refine soff rfl rfl rfl rfl ?_
          refine soff rfl rfl rfl rfl ?_
          refine soff rfl rfl rfl rfl ?_
          refine sv rfl (opv_pick_f rfl rfl) ?_
          refine sv rfl (opv_mv rfl) ?_
          refine soff rfl rfl rfl rfl ?_
          refine soff rfl rfl rfl rfl ?_
          refine soff rfl rfl rfl rfl ?_
          refine soff rfl rfl rfl rfl ?_
          refine sv rfl (opv_pick_f rfl rfl) ?_
          refine sv rfl (opv_as rfl) ?_
          refine snil ?_
          refine cret ?_
          obtain rfl := Option.some.inj h
          refine ⟨Or.inr rfl, _, _, _, (resVs_cons (ResV.tmp _ _ rfl) resVs_nil), (pubA_id rfl), ?_⟩
          rfl
      · replace h := ite_f hc h
        clear hc
        refine soff rfl rfl rfl rfl ?_
        refine soff rfl rfl rfl rfl ?_
        refine soff rfl rfl rfl rfl ?_
        refine sv rfl (opv_pick_f rfl rfl) ?_
        refine sv rfl (opv_mv rfl) ?_
        refine soff rfl rfl rfl rfl ?_
        refine soff rfl rfl rfl rfl ?_
        refine soff rfl rfl rfl rfl ?_
        refine sv rfl (opv_pick_f rfl rfl) ?_
        refine sv rfl (opv_mv rfl) ?_
        refine soff rfl rfl rfl rfl ?_
        refine soff rfl rfl rfl rfl ?_
        refine soff rfl rfl rfl rfl ?_
        refine soff rfl rfl rfl rfl ?_
        refine sv rfl (opv_pick_f rfl rfl) ?_
        refine sv rfl (opv_as rfl) ?_
        refine snil ?_
        refine cret ?_
        obtain rfl := Option.some.inj h
        refine ⟨Or.inr rfl, _, _, _, (resVs_cons (ResV.tmp _ _ rfl) resVs_nil), (pubA_id rfl), ?_⟩
        rfl
    · replace h := ite_f hc h
      clear hc
      refine soff rfl rfl rfl rfl ?_
      refine sv rfl (opv_pick_f rfl rfl) ?_
      refine sv rfl (opv_mv rfl) ?_
      refine soff rfl rfl rfl rfl ?_
      refine soff rfl rfl rfl rfl ?_
      refine soff rfl rfl rfl rfl ?_
      refine sv rfl (opv_pick_f rfl rfl) ?_
      refine sv rfl (opv_mv rfl) ?_
      refine soff rfl rfl rfl rfl ?_
      refine soff rfl rfl rfl rfl ?_
      refine soff rfl rfl rfl rfl ?_
      refine sv rfl (opv_pick_f rfl rfl) ?_
      refine sv rfl (opv_mv rfl) ?_
      refine soff rfl rfl rfl rfl ?_
      refine soff rfl rfl rfl rfl ?_
      refine soff rfl rfl rfl rfl ?_
      refine soff rfl rfl rfl rfl ?_
      refine sv rfl (opv_pick_f rfl rfl) ?_
      refine sv rfl (opv_as rfl) ?_
      refine snil ?_
      refine cret ?_
      obtain rfl := Option.some.inj h
      refine ⟨Or.inr rfl, _, _, _, (resVs_cons (ResV.tmp _ _ rfl) resVs_nil), (pubA_id rfl), ?_⟩
      rfl
  · replace h := ite_f hc h
    clear hc
    refine soff rfl rfl rfl rfl ?_
    refine soff rfl rfl rfl rfl ?_
    refine sv rfl (opv_pick_f rfl rfl) ?_
    refine sv rfl (opv_mv rfl) ?_
    refine soff rfl rfl rfl rfl ?_
    refine sv rfl (opv_pick_f rfl rfl) ?_
    refine sv rfl (opv_mv rfl) ?_
    refine soff rfl rfl rfl rfl ?_
    refine soff rfl rfl rfl rfl ?_
    refine soff rfl rfl rfl rfl ?_
    refine sv rfl (opv_pick_f rfl rfl) ?_
    refine sv rfl (opv_mv rfl) ?_
    refine soff rfl rfl rfl rfl ?_
    refine soff rfl rfl rfl rfl ?_
    refine soff rfl rfl rfl rfl ?_
    refine sv rfl (opv_pick_f rfl rfl) ?_
    refine sv rfl (opv_mv rfl) ?_
    refine soff rfl rfl rfl rfl ?_
    refine soff rfl rfl rfl rfl ?_
    refine soff rfl rfl rfl rfl ?_
    refine soff rfl rfl rfl rfl ?_
    refine sv rfl (opv_pick_f rfl rfl) ?_
    refine sv rfl (opv_as rfl) ?_
    refine snil ?_
    refine cret ?_
    obtain rfl := Option.some.inj h
    refine ⟨Or.inr rfl, _, _, _, (resVs_cons (ResV.tmp _ _ rfl) resVs_nil), (pubA_id rfl), ?_⟩
    rfl

def m12_r08_FewWrites_k1 (b1 : Unit) : Option Bool :=
  some true

def m12_r08_FewWrites_s2 (a0 : List GApiWrite) (s2 : Int) : Option (LR (Int) (Unit) (Bool)) :=
  if (decide (s2 < (a0.length : Int))) then ((idx a0 s2).bind fun u3 => if (decide (50 < (u3.Key.length : Int))) then (some (.ret false)) else ((idx a0 s2).bind fun u4 => if (decide (100 < (u4.Val.length : Int))) then (some (.ret false)) else (some (.cont (wI (s2 + 1)))))) else (some (.brk ()))
def m12_r08_FewWrites (a0 : List GApiWrite) : Option Bool :=
  if (decide (140 < (a0.length : Int))) then (some false) else ((iter (m12_r08_FewWrites_s2 a0) fuel 0).bind fun x => match x with | .inl r => some r | .inr e5 => m12_r08_FewWrites_k1 e5)

set_option maxRecDepth 100000 in
theorem m12_r08_FewWrites_c {a0 : List GApiWrite} {r : Bool} (h : m12_r08_FewWrites a0 = some r) : CallsA Try.prog 12 [.one (.sl a0.length (a0.flatMap eGApiWrite))] (· = .s (.one (.b r))) := by
  unfold m12_r08_FewWrites at h
  refine callsA_of Try.func12 rfl (nt := 29) rfl (Nat.le_of_ble_eq_true rfl) ?_
  intro w0 S0
  refine cseq ?_
  refine cregion ?_
  refine sv rfl (opv_as rfl) ?_
  refine snil ?_
  refine cseq ?_
  refine cseq ?_
  refine cregion ?_
  refine sv rfl (opv_mv rfl) ?_
  refine sv rfl (opv_len_sl si29 rfl) ?_
  refine sv rfl (opv_gtr rfl rfl) ?_
  refine snil ?_
  refine ccond rfl (fun hc => ?_) (fun hc => ?_)
  · replace h := ite_t hc h
    clear hc
    refine cseq ?_
    refine cregion ?_
    refine sv rfl (opv_as rfl) ?_
    refine snil ?_
    refine cret ?_
    refine then_ret ?_
    obtain rfl := Option.some.inj h
    refine ⟨Or.inr rfl, _, _, _, (resVs_cons (ResV.tmp _ _ rfl) resVs_nil), (pubA_id rfl), ?_⟩
    rfl
  · replace h := ite_f hc h
    clear hc
    refine cskip ?_
    refine then_normal ?_
    refine cseq ?_
    refine cseq ?_
    refine cregion ?_
    refine sv rfl (opv_as rfl) ?_
    refine snil ?_
    refine cjoin (Unit) (fun b1 => []) (fun b1 => []) (fun b1 => m12_r08_FewWrites_k1 b1 = some r) (fun _ _ => inbL_of rfl) (fun _ _ => blkinb_of rfl) (fun _ _ => Nat.le_of_ble_eq_true rfl) (fun b1 h => ?_) ?_
    · unfold m12_r08_FewWrites_k1 at h
      refine cseq ?_
      refine cregion ?_
      refine sv rfl (opv_as rfl) ?_
      refine snil ?_
      refine cret ?_
      obtain rfl := Option.some.inj h
      refine ⟨Or.inr rfl, _, _, _, (resVs_cons (ResV.tmp _ _ rfl) resVs_nil), (pubA_id rfl), ?_⟩
      rfl
    · skip
      refine cblock ?_
      obtain ⟨x2, hx2, ho2⟩ := bind_eq h
      refine awc_loop (G := Nat × (Int)) (fun g => [(0, .s (.one (.sl a0.length (a0.flatMap eGApiWrite)))), (3, .s (.one (.i .i64 g.2)))]) (fun g => []) (fun g => iter (m12_r08_FewWrites_s2 a0) g.1 g.2 = some x2) (fun g => g.1) (fuel, 0) hx2 ⟨rfl, rfl, trivial⟩ [] rfl (fun _ _ => inbL_of rfl) (fun _ _ => blkinb_of rfl) (fun _ _ => Nat.le_of_ble_eq_true rfl) ?_
      clear hx2 h
      rintro ⟨n2, s2⟩ h
      obtain ⟨n2, y2, rfl, h, hk2⟩ := iter_eq h
      unfold m12_r08_FewWrites_s2 at h
      refine cseq ?_
      refine cseq ?_
      refine cregion ?_
      refine sv rfl (opv_mv rfl) ?_
      refine sv rfl (opv_mv rfl) ?_
      refine sv rfl (opv_len_sl si29 rfl) ?_
      refine sv rfl (opv_lss rfl rfl) ?_
      refine snil ?_
      refine ccond rfl (fun hc => ?_) (fun hc => ?_)
      · replace h := ite_t hc h
        clear hc
        refine cskip ?_
        refine then_normal ?_
        refine cseq ?_
        refine cblock ?_
        refine cseq ?_
        refine cregion ?_
        refine sv rfl (opv_mv rfl) ?_
        refine sv rfl (opv_mv rfl) ?_
        obtain ⟨u3, hu3, h⟩ := bind_eq h
        refine sv rfl (opv_ix (f := eGApiWrite) si29 (fun _ => rfl) rfl rfl rfl rfl hu3) ?_
        refine sv rfl (opv_fieldAddr_cp fi67_0 rfl) ?_
        refine sv rfl (opv_load1 ti26 rfl (.cp _) rfl) ?_
        refine sv rfl (opv_len_sl si26 rfl) ?_
        refine sv rfl (opv_gtr rfl rfl) ?_
        refine sv rfl (opv_mv rfl) ?_
        refine ssplit 20 rfl (fun hc => ?_) (fun hc => ?_)
        · replace h := ite_t hc h
          clear hc
          refine soff rfl rfl rfl rfl ?_
          refine soff rfl rfl rfl rfl ?_
          refine soff rfl rfl rfl rfl ?_
          refine soff rfl rfl rfl rfl ?_
          refine soff rfl rfl rfl rfl ?_
          refine soff rfl rfl rfl rfl ?_
          refine soff rfl rfl rfl rfl ?_
          refine sv rfl (opv_pick_t rfl rfl) ?_
          refine snil ?_
          refine ccond rfl (fun _ => ?_) (fun hx => Bool.noConfusion hx)
          refine cseq ?_
          refine cregion ?_
          refine sv rfl (opv_as rfl) ?_
          refine snil ?_
          refine cret ?_
          refine block_ret ?_
          refine then_ret ?_
          refine then_ret ?_
          refine block_ret ?_
          refine then_ret ?_
          obtain rfl := Option.some.inj h
          obtain rfl : Sum.inl _ = x2 := hk2
          replace ho2 : some _ = some _ := ho2
          obtain rfl := Option.some.inj ho2
          refine ⟨Or.inr rfl, _, _, _, (resVs_cons (ResV.tmp _ _ rfl) resVs_nil), (pubA_id rfl), ?_⟩
          rfl
        · replace h := ite_f hc h
          clear hc
          refine son rfl rfl rfl ?_
          refine sv rfl (opv_mv rfl) ?_
          refine son rfl rfl rfl ?_
          refine sv rfl (opv_mv rfl) ?_
          refine son rfl rfl rfl ?_
          obtain ⟨u4, hu4, h⟩ := bind_eq h
          refine sv rfl (opv_ix (f := eGApiWrite) si29 (fun _ => rfl) rfl rfl rfl rfl hu4) ?_
          refine son rfl rfl rfl ?_
          refine sv rfl (opv_fieldAddr_cp fi67_1 rfl) ?_
          refine son rfl rfl rfl ?_
          refine sv rfl (opv_load1 ti26 rfl (.cp _) rfl) ?_
          refine son rfl rfl rfl ?_
          refine sv rfl (opv_len_sl si26 rfl) ?_
          refine son rfl rfl rfl ?_
          refine sv rfl (opv_gtr rfl rfl) ?_
          refine sv rfl (opv_pick_f rfl rfl) ?_
          refine snil ?_
          refine ccond rfl (fun hc => ?_) (fun hc => ?_)
          · replace h := ite_t hc h
            clear hc
            refine cseq ?_
            refine cregion ?_
            refine sv rfl (opv_as rfl) ?_
            refine snil ?_
            refine cret ?_
            refine block_ret ?_
            refine then_ret ?_
            refine then_ret ?_
            refine block_ret ?_
            refine then_ret ?_
            obtain rfl := Option.some.inj h
            obtain rfl : Sum.inl _ = x2 := hk2
            replace ho2 : some _ = some _ := ho2
            obtain rfl := Option.some.inj ho2
            refine ⟨Or.inr rfl, _, _, _, (resVs_cons (ResV.tmp _ _ rfl) resVs_nil), (pubA_id rfl), ?_⟩
            rfl
          · replace h := ite_f hc h
            clear hc
            refine cskip ?_
            refine block_normal ?_
            refine then_normal ?_
            refine cregion ?_
            refine sv rfl (opv_mv rfl) ?_
            refine sv rfl (opv_add rfl rfl) ?_
            refine sv rfl (opv_as rfl) ?_
            refine snil ?_
            obtain rfl := Option.some.inj h
            exact ⟨(n2, (wI (s2 + 1))), _, hk2, ⟨rfl, rfl, trivial⟩, rfl, Nat.lt_succ_self _⟩
      · replace h := ite_f hc h
        clear hc
        refine cexit ?_
        refine then_exit ?_
        refine then_exit ?_
        refine block_hit ?_
        refine then_normal ?_
        obtain rfl := Option.some.inj h
        obtain rfl : _ = x2 := hk2
        exact ⟨(), _, ho2, trivial, rfl⟩

def m34_l08_few_k1 (b1 : Unit) : Option Bool :=
  some true

def m34_l08_few_s2 (a0 : List GL08Lot) (s2 : Int) : Option (LR (Int) (Unit) (Bool)) :=
  if (decide (s2 < (a0.length : Int))) then ((idx a0 s2).bind fun u3 => (m12_r08_FewWrites u3.L).bind fun v4 => if (!v4) then (some (.ret false)) else ((idx a0 s2).bind fun u5 => if (decide (20 < (u5.L.length : Int))) then (some (.ret false)) else (some (.cont (wI (s2 + 1)))))) else (some (.brk ()))
def m34_l08_few (a0 : List GL08Lot) : Option Bool :=
  if (decide (30 < (a0.length : Int))) then (some false) else ((iter (m34_l08_few_s2 a0) fuel 0).bind fun x => match x with | .inl r => some r | .inr e6 => m34_l08_few_k1 e6)

set_option maxRecDepth 100000 in
theorem m34_l08_few_c {a0 : List GL08Lot} {r : Bool} (h : m34_l08_few a0 = some r) : CallsA Try.prog 34 [.one (.sl a0.length (a0.flatMap eGL08Lot))] (· = .s (.one (.b r))) := by
  unfold m34_l08_few at h
  refine callsA_of Try.func34 rfl (nt := 29) rfl (Nat.le_of_ble_eq_true rfl) ?_
  intro w0 S0
  refine cseq ?_
  refine cregion ?_
  refine sv rfl (opv_as rfl) ?_
  refine snil ?_
  refine cseq ?_
  refine cseq ?_
  refine cregion ?_
  refine sv rfl (opv_mv rfl) ?_
  refine sv rfl (opv_len_sl si63 rfl) ?_
  refine sv rfl (opv_gtr rfl rfl) ?_
  refine snil ?_
  refine ccond rfl (fun hc => ?_) (fun hc => ?_)
  · replace h := ite_t hc h
    clear hc
    refine cseq ?_
    refine cregion ?_
    refine sv rfl (opv_as rfl) ?_
    refine snil ?_
    refine cret ?_
    refine then_ret ?_
    obtain rfl := Option.some.inj h
    refine ⟨Or.inr rfl, _, _, _, (resVs_cons (ResV.tmp _ _ rfl) resVs_nil), (pubA_id rfl), ?_⟩
    rfl
  · replace h := ite_f hc h
    clear hc
    refine cskip ?_
    refine then_normal ?_
    refine cseq ?_
    refine cseq ?_
    refine cregion ?_
    refine sv rfl (opv_as rfl) ?_
    refine snil ?_
    refine cjoin (Unit) (fun b1 => []) (fun b1 => []) (fun b1 => m34_l08_few_k1 b1 = some r) (fun _ _ => inbL_of rfl) (fun _ _ => blkinb_of rfl) (fun _ _ => Nat.le_of_ble_eq_true rfl) (fun b1 h => ?_) ?_
    · unfold m34_l08_few_k1 at h
      refine cseq ?_
      refine cregion ?_
      refine sv rfl (opv_as rfl) ?_
      refine snil ?_
      refine cret ?_
      obtain rfl := Option.some.inj h
      refine ⟨Or.inr rfl, _, _, _, (resVs_cons (ResV.tmp _ _ rfl) resVs_nil), (pubA_id rfl), ?_⟩
      rfl
    · skip
      refine cblock ?_
      obtain ⟨x2, hx2, ho2⟩ := bind_eq h
      refine awc_loop (G := Nat × (Int)) (fun g => [(0, .s (.one (.sl a0.length (a0.flatMap eGL08Lot)))), (3, .s (.one (.i .i64 g.2)))]) (fun g => []) (fun g => iter (m34_l08_few_s2 a0) g.1 g.2 = some x2) (fun g => g.1) (fuel, 0) hx2 ⟨rfl, rfl, trivial⟩ [] rfl (fun _ _ => inbL_of rfl) (fun _ _ => blkinb_of rfl) (fun _ _ => Nat.le_of_ble_eq_true rfl) ?_
      clear hx2 h
      rintro ⟨n2, s2⟩ h
      obtain ⟨n2, y2, rfl, h, hk2⟩ := iter_eq h
      unfold m34_l08_few_s2 at h
      refine cseq ?_
      refine cseq ?_
      refine cregion ?_
      refine sv rfl (opv_mv rfl) ?_
      refine sv rfl (opv_mv rfl) ?_
      refine sv rfl (opv_len_sl si63 rfl) ?_
      refine sv rfl (opv_lss rfl rfl) ?_
      refine snil ?_
      refine ccond rfl (fun hc => ?_) (fun hc => ?_)
      · replace h := ite_t hc h
        clear hc
        refine cskip ?_
        refine then_normal ?_
        refine cseq ?_
        refine cblock ?_
        refine cseq ?_
        refine cregion ?_
        refine sv rfl (opv_mv rfl) ?_
        refine sv rfl (opv_mv rfl) ?_
        obtain ⟨u3, hu3, h⟩ := bind_eq h
        refine sv rfl (opv_ix (f := eGL08Lot) si63 (fun _ => rfl) rfl rfl rfl rfl hu3) ?_
        refine sv rfl (opv_fieldAddr_cp fi106_1 rfl) ?_
        refine sv rfl (opv_load1 ti29 rfl (.cp _) rfl) ?_
        obtain ⟨v4, hv4, h⟩ := bind_eq h
        refine scall1 rfl fn12 (opnds_cons rfl opnds_nil) (pubA_id rfl) (m12_r08_FewWrites_c hv4) ?_
        refine sv rfl (opv_not rfl) ?_
        refine sv rfl (opv_mv rfl) ?_
        refine ssplit 20 rfl (fun hc => ?_) (fun hc => ?_)
        · replace h := ite_t hc h
          clear hc
          refine soff rfl rfl rfl rfl ?_
          refine soff rfl rfl rfl rfl ?_
          refine soff rfl rfl rfl rfl ?_
          refine soff rfl rfl rfl rfl ?_
          refine soff rfl rfl rfl rfl ?_
          refine soff rfl rfl rfl rfl ?_
          refine soff rfl rfl rfl rfl ?_
          refine sv rfl (opv_pick_t rfl rfl) ?_
          refine snil ?_
          refine ccond rfl (fun _ => ?_) (fun hx => Bool.noConfusion hx)
          refine cseq ?_
          refine cregion ?_
          refine sv rfl (opv_as rfl) ?_
          refine snil ?_
          refine cret ?_
          refine block_ret ?_
          refine then_ret ?_
          refine then_ret ?_
          refine block_ret ?_
          refine then_ret ?_
          obtain rfl := Option.some.inj h
          obtain rfl : Sum.inl _ = x2 := hk2
          replace ho2 : some _ = some _ := ho2
          obtain rfl := Option.some.inj ho2
          refine ⟨Or.inr rfl, _, _, _, (resVs_cons (ResV.tmp _ _ rfl) resVs_nil), (pubA_id rfl), ?_⟩
          rfl
        · replace h := ite_f hc h
          clear hc
          refine son rfl rfl rfl ?_
          refine sv rfl (opv_mv rfl) ?_
          refine son rfl rfl rfl ?_
          refine sv rfl (opv_mv rfl) ?_
          refine son rfl rfl rfl ?_
          obtain ⟨u5, hu5, h⟩ := bind_eq h
          refine sv rfl (opv_ix (f := eGL08Lot) si63 (fun _ => rfl) rfl rfl rfl rfl hu5) ?_
          refine son rfl rfl rfl ?_
          refine sv rfl (opv_fieldAddr_cp fi106_1 rfl) ?_
          refine son rfl rfl rfl ?_
          refine sv rfl (opv_load1 ti29 rfl (.cp _) rfl) ?_
          refine son rfl rfl rfl ?_
          refine sv rfl (opv_len_sl si29 rfl) ?_
          refine son rfl rfl rfl ?_
          refine sv rfl (opv_gtr rfl rfl) ?_
          refine sv rfl (opv_pick_f rfl rfl) ?_
          refine snil ?_
          refine ccond rfl (fun hc => ?_) (fun hc => ?_)
          · replace h := ite_t hc h
            clear hc
            refine cseq ?_
            refine cregion ?_
            refine sv rfl (opv_as rfl) ?_
            refine snil ?_
            refine cret ?_
            refine block_ret ?_
            refine then_ret ?_
            refine then_ret ?_
            refine block_ret ?_
            refine then_ret ?_
            obtain rfl := Option.some.inj h
            obtain rfl : Sum.inl _ = x2 := hk2
            replace ho2 : some _ = some _ := ho2
            obtain rfl := Option.some.inj ho2
            refine ⟨Or.inr rfl, _, _, _, (resVs_cons (ResV.tmp _ _ rfl) resVs_nil), (pubA_id rfl), ?_⟩
            rfl
          · replace h := ite_f hc h
            clear hc
            refine cskip ?_
            refine block_normal ?_
            refine then_normal ?_
            refine cregion ?_
            refine sv rfl (opv_mv rfl) ?_
            refine sv rfl (opv_add rfl rfl) ?_
            refine sv rfl (opv_as rfl) ?_
            refine snil ?_
            obtain rfl := Option.some.inj h
            exact ⟨(n2, (wI (s2 + 1))), _, hk2, ⟨rfl, rfl, trivial⟩, rfl, Nat.lt_succ_self _⟩
      · replace h := ite_f hc h
        clear hc
        refine cexit ?_
        refine then_exit ?_
        refine then_exit ?_
        refine block_hit ?_
        refine then_normal ?_
        obtain rfl := Option.some.inj h
        obtain rfl : _ = x2 := hk2
        exact ⟨(), _, ho2, trivial, rfl⟩

def m35_l08_grown_k1 (b1 : (List (List UInt8)) × (List GChainChain) × Int) : Option GStoreStore :=
  some (GStoreStore.mk b1.1 b1.2.1 b1.2.2)

def m35_l08_grown_s2 (a0 : List GL08Lot) (s2 : Int × (List (List UInt8)) × (List GChainChain) × Int) : Option (LB (Int × (List (List UInt8)) × (List GChainChain) × Int) ((List (List UInt8)) × (List GChainChain) × Int)) :=
  if (decide (s2.1 < (a0.length : Int))) then ((idx a0 s2.1).bind fun u3 => (idx a0 s2.1).bind fun u4 => (m16_store_Install (GStoreStore.mk s2.2.1 s2.2.2.1 s2.2.2.2) (wI ((wI (s2.2.2.2 + 1)) + (wI ((BitVec.ofInt 64 u3.More &&& BitVec.ofInt 64 3).toNat : Int)))) u4.L).bind fun v5 => if (decide (v5.2 = 0)) then (some (.cont ((wI (s2.1 + 1)), v5.1.Keys, v5.1.Chains, v5.1.Ts))) else (some (.cont ((wI (s2.1 + 1)), s2.2.1, s2.2.2.1, s2.2.2.2)))) else (some (.brk (s2.2.1, s2.2.2.1, s2.2.2.2)))
def m35_l08_grown (a0 : List GL08Lot) : Option GStoreStore :=
  (iterB (m35_l08_grown_s2 a0) fuel (0, ([] : List (List UInt8)), ([] : List GChainChain), 0)).bind fun e6 => m35_l08_grown_k1 e6

set_option maxRecDepth 100000 in
theorem m35_l08_grown_c {a0 : List GL08Lot} {r : GStoreStore} (h : m35_l08_grown a0 = some r) : CallsA Try.prog 35 [.one (.sl a0.length (a0.flatMap eGL08Lot))] (· = .s (.agg r)) := by
  unfold m35_l08_grown at h
  refine callsA_of Try.func35 rfl (nt := 38) rfl (Nat.le_of_ble_eq_true rfl) ?_
  intro w0 S0
  refine cseq ?_
  refine cregion ?_
  refine salloc rfl zi36 ?_
  refine snil ?_
  refine cseq ?_
  refine cregion ?_
  refine sv rfl (opv_build zi36 pi36 parts_nil (.nil _)) ?_
  refine salloc rfl zi36 ?_
  refine sstore sz36 rfl rfl rfl rfl (Nat.le_of_ble_eq_true rfl) ?_
  refine smem [.box [.raw (.slice none 0 0), .raw (.slice none 0 0), .i .i64 0], .box [.raw (.slice none 0 0), .raw (.slice none 0 0), .i .i64 0]] rfl ?_
  refine snil ?_
  refine cseq ?_
  refine cseq ?_
  refine cregion ?_
  refine sv rfl (opv_as rfl) ?_
  refine snil ?_
  refine cjoin ((List (List UInt8)) × (List GChainChain) × Int) (fun b1 => [(2, .s (.one (.lp 0 0))), (3, .s (.one (.lp 1 0)))]) (fun b1 => [.box [.raw (.slice none 0 0), .raw (.slice none 0 0), .i .i64 0], .box [.sl b1.1.length (b1.1.flatMap (eL eU8)), .sl b1.2.1.length (b1.2.1.flatMap eGChainChain), .i .i64 b1.2.2]]) (fun b1 => m35_l08_grown_k1 b1 = some r) (fun _ _ => inbL_of rfl) (fun _ _ => blkinb_of rfl) (fun _ _ => Nat.le_of_ble_eq_true rfl) (fun b1 h => ?_) ?_
  · unfold m35_l08_grown_k1 at h
    refine cseq ?_
    refine cregion ?_
    refine sv rfl (opv_loadN ti36 rfl (.lp _ _ _ rfl) (Nat.le_of_ble_eq_true rfl)) ?_
    refine sstore sz36 rfl rfl rfl rfl (Nat.le_of_ble_eq_true rfl) ?_
    refine smem [.box [.sl b1.1.length (b1.1.flatMap (eL eU8)), .sl b1.2.1.length (b1.2.1.flatMap eGChainChain), .i .i64 b1.2.2], .box [.sl b1.1.length (b1.1.flatMap (eL eU8)), .sl b1.2.1.length (b1.2.1.flatMap eGChainChain), .i .i64 b1.2.2]] rfl ?_
    refine snil ?_
    refine cret ?_
    obtain rfl := Option.some.inj h
    refine ⟨Or.inr rfl, _, _, _, (resVs_cons (ResV.agg _ _ _ _ _ ti36 rfl (.lp _ _ _ rfl) (Nat.le_of_ble_eq_true rfl)) resVs_nil), (pubA_id rfl), ?_⟩
    rfl
  · skip
    refine cblock ?_
    refine cpubbox 1 0 rfl rfl PubL.nil rfl ?_
    refine cpubbox 1 1 rfl rfl PubL.nil rfl ?_
    obtain ⟨x2, hx2, ho2⟩ := bind_eq h
    refine awc_loop (G := Nat × (Int × (List (List UInt8)) × (List GChainChain) × Int)) (fun g => [(0, .s (.one (.sl a0.length (a0.flatMap eGL08Lot)))), (2, .s (.one (.lp 0 0))), (3, .s (.one (.lp 1 0))), (4, .s (.one (.i .i64 g.2.1)))]) (fun g => [.box [.raw (.slice none 0 0), .raw (.slice none 0 0), .i .i64 0], .box [.sl g.2.2.1.length (g.2.2.1.flatMap (eL eU8)), .sl g.2.2.2.1.length (g.2.2.2.1.flatMap eGChainChain), .i .i64 g.2.2.2.2]]) (fun g => iterB (m35_l08_grown_s2 a0) g.1 g.2 = some x2) (fun g => g.1) (fuel, (0, ([] : List (List UInt8)), ([] : List GChainChain), 0)) hx2 ⟨rfl, rfl, rfl, rfl, trivial⟩ [] rfl (fun _ _ => inbL_of rfl) (fun _ _ => blkinb_of rfl) (fun _ _ => Nat.le_of_ble_eq_true rfl) ?_
    clear hx2 h
    rintro ⟨n2, s2⟩ h
    obtain ⟨n2, y2, rfl, h, hk2⟩ := iterB_eq h
    unfold m35_l08_grown_s2 at h
    refine cseq ?_
    refine cseq ?_
    refine cregion ?_
    refine sv rfl (opv_mv rfl) ?_
    refine sv rfl (opv_mv rfl) ?_
    refine sv rfl (opv_len_sl si63 rfl) ?_
    refine sv rfl (opv_lss rfl rfl) ?_
    refine snil ?_
    refine ccond rfl (fun hc => ?_) (fun hc => ?_)
    · replace h := ite_t hc h
      clear hc
      refine cskip ?_
      refine then_normal ?_
      refine cseq ?_
      refine cblock ?_
      refine cseq ?_
      refine chole ?_
      obtain ⟨u3, hu3, h⟩ := bind_eq h
      obtain ⟨u4, hu4, h⟩ := bind_eq h
      obtain ⟨v5, hv5, h⟩ := bind_eq h
      refine cdraw_e [20, 21] [0, 0, 2, 6, 0, 0, 48, 112, 240, 496, 1022, 0, 0, 6144, 14336, 30720, 65535, 131071, 262143, 262143, 0, 1572863, 4194303] [[.box [.raw (.slice none 0 0), .raw (.slice none 0 0), .i .i64 0], .box [.sl s2.2.1.length (s2.2.1.flatMap (eL eU8)), .sl s2.2.2.1.length (s2.2.2.1.flatMap eGChainChain), .i .i64 s2.2.2.2], .hole], [.box [.raw (.slice none 0 0), .raw (.slice none 0 0), .i .i64 0], .box [.sl s2.2.1.length (s2.2.1.flatMap (eL eU8)), .sl s2.2.2.1.length (s2.2.2.1.flatMap eGChainChain), .i .i64 s2.2.2.2], .box [.raw (.slice none 0 0), .raw (.slice none 0 0), .i .i64 0]], [.box [.raw (.slice none 0 0), .raw (.slice none 0 0), .i .i64 0], .box [.sl s2.2.1.length (s2.2.1.flatMap (eL eU8)), .sl s2.2.2.1.length (s2.2.2.1.flatMap eGChainChain), .i .i64 s2.2.2.2], .box v5.1]] (by kernel_rfl) mixed (by kernel_rfl) (by decide) rfl rfl rfl rfl ?_
      refine ev (sees_all (md := [.box [.raw (.slice none 0 0), .raw (.slice none 0 0), .i .i64 0], .box [.sl s2.2.1.length (s2.2.1.flatMap (eL eU8)), .sl s2.2.2.1.length (s2.2.2.1.flatMap eGChainChain), .i .i64 s2.2.2.2], .dead]) ⟨⟨rfl, ⟨rfl, ⟨trivial, trivial⟩⟩⟩, ⟨⟨rfl, ⟨rfl, ⟨trivial, trivial⟩⟩⟩, ⟨⟨rfl, ⟨rfl, ⟨trivial, trivial⟩⟩⟩, trivial⟩⟩⟩) rfl rfl (opv_loadN ti36 rfl (.lp _ _ _ rfl) (Nat.le_of_ble_eq_true rfl)) ?_
      refine ev (sees_all (md := [.box [.raw (.slice none 0 0), .raw (.slice none 0 0), .i .i64 0], .box [.sl s2.2.1.length (s2.2.1.flatMap (eL eU8)), .sl s2.2.2.1.length (s2.2.2.1.flatMap eGChainChain), .i .i64 s2.2.2.2], .dead]) ⟨⟨rfl, ⟨rfl, ⟨trivial, trivial⟩⟩⟩, ⟨⟨rfl, ⟨rfl, ⟨trivial, trivial⟩⟩⟩, ⟨⟨rfl, ⟨rfl, ⟨trivial, trivial⟩⟩⟩, trivial⟩⟩⟩) rfl rfl (opv_fieldAddr_lp fi36_2 rfl) ?_
      refine ev (sees_all (md := [.box [.raw (.slice none 0 0), .raw (.slice none 0 0), .i .i64 0], .box [.sl s2.2.1.length (s2.2.1.flatMap (eL eU8)), .sl s2.2.2.1.length (s2.2.2.1.flatMap eGChainChain), .i .i64 s2.2.2.2], .dead]) ⟨⟨rfl, ⟨rfl, ⟨trivial, trivial⟩⟩⟩, ⟨⟨rfl, ⟨rfl, ⟨trivial, trivial⟩⟩⟩, ⟨⟨rfl, ⟨rfl, ⟨trivial, trivial⟩⟩⟩, trivial⟩⟩⟩) rfl rfl (opv_load1 ti3 rfl (.lp _ _ _ rfl) rfl) ?_
      refine ev (sees_all (md := [.box [.raw (.slice none 0 0), .raw (.slice none 0 0), .i .i64 0], .box [.sl s2.2.1.length (s2.2.1.flatMap (eL eU8)), .sl s2.2.2.1.length (s2.2.2.1.flatMap eGChainChain), .i .i64 s2.2.2.2], .dead]) ⟨⟨rfl, ⟨rfl, ⟨trivial, trivial⟩⟩⟩, ⟨⟨rfl, ⟨rfl, ⟨trivial, trivial⟩⟩⟩, ⟨⟨rfl, ⟨rfl, ⟨trivial, trivial⟩⟩⟩, trivial⟩⟩⟩) rfl rfl (opv_add rfl rfl) ?_
      refine emv rfl rfl (fun _ => opv_mv rfl) ?_
      refine emv rfl rfl (fun _ => opv_mv rfl) ?_
      refine ev (sees_all (md := [.box [.raw (.slice none 0 0), .raw (.slice none 0 0), .i .i64 0], .box [.sl s2.2.1.length (s2.2.1.flatMap (eL eU8)), .sl s2.2.2.1.length (s2.2.2.1.flatMap eGChainChain), .i .i64 s2.2.2.2], .dead]) ⟨⟨rfl, ⟨rfl, ⟨trivial, trivial⟩⟩⟩, ⟨⟨rfl, ⟨rfl, ⟨trivial, trivial⟩⟩⟩, ⟨⟨rfl, ⟨rfl, ⟨trivial, trivial⟩⟩⟩, trivial⟩⟩⟩) rfl rfl (opv_ix (f := eGL08Lot) si63 (fun _ => rfl) rfl rfl rfl rfl hu3) ?_
      refine ev (sees_all (md := [.box [.raw (.slice none 0 0), .raw (.slice none 0 0), .i .i64 0], .box [.sl s2.2.1.length (s2.2.1.flatMap (eL eU8)), .sl s2.2.2.1.length (s2.2.2.1.flatMap eGChainChain), .i .i64 s2.2.2.2], .dead]) ⟨⟨rfl, ⟨rfl, ⟨trivial, trivial⟩⟩⟩, ⟨⟨rfl, ⟨rfl, ⟨trivial, trivial⟩⟩⟩, ⟨⟨rfl, ⟨rfl, ⟨trivial, trivial⟩⟩⟩, trivial⟩⟩⟩) rfl rfl (opv_fieldAddr_cp fi106_0 rfl) ?_
      refine ev (sees_all (md := [.box [.raw (.slice none 0 0), .raw (.slice none 0 0), .i .i64 0], .box [.sl s2.2.1.length (s2.2.1.flatMap (eL eU8)), .sl s2.2.2.1.length (s2.2.2.1.flatMap eGChainChain), .i .i64 s2.2.2.2], .dead]) ⟨⟨rfl, ⟨rfl, ⟨trivial, trivial⟩⟩⟩, ⟨⟨rfl, ⟨rfl, ⟨trivial, trivial⟩⟩⟩, ⟨⟨rfl, ⟨rfl, ⟨trivial, trivial⟩⟩⟩, trivial⟩⟩⟩) rfl rfl (opv_load1 ti3 rfl (.cp _) rfl) ?_
      refine ev (sees_all (md := [.box [.raw (.slice none 0 0), .raw (.slice none 0 0), .i .i64 0], .box [.sl s2.2.1.length (s2.2.1.flatMap (eL eU8)), .sl s2.2.2.1.length (s2.2.2.1.flatMap eGChainChain), .i .i64 s2.2.2.2], .dead]) ⟨⟨rfl, ⟨rfl, ⟨trivial, trivial⟩⟩⟩, ⟨⟨rfl, ⟨rfl, ⟨trivial, trivial⟩⟩⟩, ⟨⟨rfl, ⟨rfl, ⟨trivial, trivial⟩⟩⟩, trivial⟩⟩⟩) rfl rfl (opv_and rfl rfl) ?_
      refine ev (sees_all (md := [.box [.raw (.slice none 0 0), .raw (.slice none 0 0), .i .i64 0], .box [.sl s2.2.1.length (s2.2.1.flatMap (eL eU8)), .sl s2.2.2.1.length (s2.2.2.1.flatMap eGChainChain), .i .i64 s2.2.2.2], .dead]) ⟨⟨rfl, ⟨rfl, ⟨trivial, trivial⟩⟩⟩, ⟨⟨rfl, ⟨rfl, ⟨trivial, trivial⟩⟩⟩, ⟨⟨rfl, ⟨rfl, ⟨trivial, trivial⟩⟩⟩, trivial⟩⟩⟩) rfl rfl (opv_add rfl rfl) ?_
      refine emv rfl rfl (fun _ => opv_mv rfl) ?_
      refine emv rfl rfl (fun _ => opv_mv rfl) ?_
      refine ev (sees_all (md := [.box [.raw (.slice none 0 0), .raw (.slice none 0 0), .i .i64 0], .box [.sl s2.2.1.length (s2.2.1.flatMap (eL eU8)), .sl s2.2.2.1.length (s2.2.2.1.flatMap eGChainChain), .i .i64 s2.2.2.2], .dead]) ⟨⟨rfl, ⟨rfl, ⟨trivial, trivial⟩⟩⟩, ⟨⟨rfl, ⟨rfl, ⟨trivial, trivial⟩⟩⟩, ⟨⟨rfl, ⟨rfl, ⟨trivial, trivial⟩⟩⟩, trivial⟩⟩⟩) rfl rfl (opv_ix (f := eGL08Lot) si63 (fun _ => rfl) rfl rfl rfl rfl hu4) ?_
      refine ev (sees_all (md := [.box [.raw (.slice none 0 0), .raw (.slice none 0 0), .i .i64 0], .box [.sl s2.2.1.length (s2.2.1.flatMap (eL eU8)), .sl s2.2.2.1.length (s2.2.2.1.flatMap eGChainChain), .i .i64 s2.2.2.2], .dead]) ⟨⟨rfl, ⟨rfl, ⟨trivial, trivial⟩⟩⟩, ⟨⟨rfl, ⟨rfl, ⟨trivial, trivial⟩⟩⟩, ⟨⟨rfl, ⟨rfl, ⟨trivial, trivial⟩⟩⟩, trivial⟩⟩⟩) rfl rfl (opv_fieldAddr_cp fi106_1 rfl) ?_
      refine ev (sees_all (md := [.box [.raw (.slice none 0 0), .raw (.slice none 0 0), .i .i64 0], .box [.sl s2.2.1.length (s2.2.1.flatMap (eL eU8)), .sl s2.2.2.1.length (s2.2.2.1.flatMap eGChainChain), .i .i64 s2.2.2.2], .dead]) ⟨⟨rfl, ⟨rfl, ⟨trivial, trivial⟩⟩⟩, ⟨⟨rfl, ⟨rfl, ⟨trivial, trivial⟩⟩⟩, ⟨⟨rfl, ⟨rfl, ⟨trivial, trivial⟩⟩⟩, trivial⟩⟩⟩) rfl rfl (opv_load1 ti29 rfl (.cp _) rfl) ?_
      refine ed (sees_all (md := [.box [.raw (.slice none 0 0), .raw (.slice none 0 0), .i .i64 0], .box [.sl s2.2.1.length (s2.2.1.flatMap (eL eU8)), .sl s2.2.2.1.length (s2.2.2.1.flatMap eGChainChain), .i .i64 s2.2.2.2], .dead]) ⟨⟨rfl, ⟨rfl, ⟨trivial, trivial⟩⟩⟩, ⟨⟨rfl, ⟨rfl, ⟨trivial, trivial⟩⟩⟩, ⟨⟨rfl, ⟨rfl, ⟨trivial, trivial⟩⟩⟩, trivial⟩⟩⟩) rfl rfl (opD_call fn16 (opnds_cons rfl (opnds_cons rfl (opnds_cons rfl opnds_nil))) rfl (m16_store_Install_c hv5)) ?_
      refine emv rfl rfl (fun _ => opv_mvt rfl) ?_
      refine ev (sees_all (md := [.box [.raw (.slice none 0 0), .raw (.slice none 0 0), .i .i64 0], .box [.sl s2.2.1.length (s2.2.1.flatMap (eL eU8)), .sl s2.2.2.1.length (s2.2.2.1.flatMap eGChainChain), .i .i64 s2.2.2.2], .dead]) ⟨⟨rfl, ⟨rfl, ⟨trivial, trivial⟩⟩⟩, ⟨⟨rfl, ⟨rfl, ⟨trivial, trivial⟩⟩⟩, ⟨⟨rfl, ⟨rfl, ⟨trivial, trivial⟩⟩⟩, trivial⟩⟩⟩) rfl rfl (opv_extract rfl rfl) ?_
      refine ev (sees_all (md := [.box [.raw (.slice none 0 0), .raw (.slice none 0 0), .i .i64 0], .box [.sl s2.2.1.length (s2.2.1.flatMap (eL eU8)), .sl s2.2.2.1.length (s2.2.2.1.flatMap eGChainChain), .i .i64 s2.2.2.2], .dead]) ⟨⟨rfl, ⟨rfl, ⟨trivial, trivial⟩⟩⟩, ⟨⟨rfl, ⟨rfl, ⟨trivial, trivial⟩⟩⟩, ⟨⟨rfl, ⟨rfl, ⟨trivial, trivial⟩⟩⟩, trivial⟩⟩⟩) rfl rfl (opv_extract rfl rfl) ?_
      refine ee (x := .s (.one (.lp 2 0))) 0 rfl rfl rfl rfl rfl (fun ζ => ?_) ?_
      · refine salloc_at 2 rfl zi36 rfl ?_
        exact eend
      refine ee0 1 rfl rfl rfl rfl (fun ζ => ?_) ?_
      · refine sstore sz36 rfl rfl rfl rfl (Nat.le_of_ble_eq_true rfl) ?_
        refine smem [.box [.raw (.slice none 0 0), .raw (.slice none 0 0), .i .i64 0], .box [.sl s2.2.1.length (s2.2.1.flatMap (eL eU8)), .sl s2.2.2.1.length (s2.2.2.1.flatMap eGChainChain), .i .i64 s2.2.2.2], .box v5.1] rfl ?_
        exact eend
      refine ev (sees_at 2 rfl rfl) rfl rfl (opv_as rfl) ?_
      refine enil ?_
      refine then_normal ?_
      refine cseq ?_
      refine cregion ?_
      refine sv rfl (opv_mv rfl) ?_
      refine sv rfl (opv_ieql rfl rfl) ?_
      refine snil ?_
      refine ccond rfl (fun hc => ?_) (fun hc => ?_)
      · replace h := ite_t hc h
        clear hc
        refine cregion ?_
        refine sv rfl (opv_loadN ti36 rfl (.lp _ _ _ rfl) (Nat.le_of_ble_eq_true rfl)) ?_
        refine sstore sz36 rfl rfl rfl rfl (Nat.le_of_ble_eq_true rfl) ?_
        refine smem [.box [.raw (.slice none 0 0), .raw (.slice none 0 0), .i .i64 0], .box v5.1, .box v5.1] rfl ?_
        refine snil0 ?_
        refine block_normal ?_
        refine then_normal ?_
        refine cregion ?_
        refine sv rfl (opv_mv rfl) ?_
        refine sv rfl (opv_add rfl rfl) ?_
        refine sv rfl (opv_as rfl) ?_
        refine snil ?_
        obtain rfl := Option.some.inj h
        exact ⟨(n2, ((wI (s2.1 + 1)), v5.1.Keys, v5.1.Chains, v5.1.Ts)), _, hk2, ⟨rfl, rfl, rfl, rfl, trivial⟩, rfl, Nat.lt_succ_self _⟩
      · replace h := ite_f hc h
        clear hc
        refine cskip ?_
        refine block_normal ?_
        refine then_normal ?_
        refine cregion ?_
        refine sv rfl (opv_mv rfl) ?_
        refine sv rfl (opv_add rfl rfl) ?_
        refine sv rfl (opv_as rfl) ?_
        refine snil ?_
        obtain rfl := Option.some.inj h
        exact ⟨(n2, ((wI (s2.1 + 1)), s2.2.1, s2.2.2.1, s2.2.2.2)), _, hk2, ⟨rfl, rfl, rfl, rfl, trivial⟩, rfl, Nat.lt_succ_self _⟩
    · replace h := ite_f hc h
      clear hc
      refine cexit ?_
      refine then_exit ?_
      refine then_exit ?_
      refine block_hit ?_
      refine then_normal ?_
      obtain rfl := Option.some.inj h
      obtain rfl : _ = x2 := hk2
      exact ⟨(s2.2.1, s2.2.2.1, s2.2.2.2), _, ho2, ⟨rfl, rfl, trivial⟩, rfl⟩

def m4_l08_StoreSees_k9 (a3 : List UInt8) (v1 : Bool) (v3 : GStoreStore) (v4 : GStoreStore × Int) (b9 : (List UInt8) × Bool) : Option Bool :=
  (m14_store_Get v4.1 a3 (wI (v3.Ts + 1))).bind fun v10 => if v1 then (if (b9.1 == v10.1) then (if (b9.2 == v10.2) then ((m23_store_Sane v4.1).bind fun v11 => if v11 then (some (decide (v4.1.Ts = (wI (v3.Ts + 1))))) else (some false)) else (some false)) else (some false)) else (some false)

def m4_l08_StoreSees_s12 (a1 : List GApiWrite) (a3 : List UInt8) (s12 : (List UInt8) × Bool × Int) : Option (LB ((List UInt8) × Bool × Int) ((List UInt8) × Bool)) :=
  if (decide (s12.2.2 < (a1.length : Int))) then ((idx a1 s12.2.2).bind fun u13 => if (u13.Key == a3) then ((idx a1 s12.2.2).bind fun u14 => (idx a1 s12.2.2).bind fun u15 => some (.cont (u14.Val, (!u15.Del), (wI (s12.2.2 + 1))))) else (some (.cont (s12.1, s12.2.1, (wI (s12.2.2 + 1)))))) else (some (.brk (s12.1, s12.2.1)))

def m4_l08_StoreSees_k7 (a1 : List GApiWrite) (a3 : List UInt8) (v1 : Bool) (v3 : GStoreStore) (v4 : GStoreStore × Int) (b7 : Unit) : Option Bool :=
  (m14_store_Get v3 a3 (wI (v3.Ts + 1))).bind fun v8 => (iterB (m4_l08_StoreSees_s12 a1 a3) fuel (v8.1, v8.2, 0)).bind fun e16 => m4_l08_StoreSees_k9 a3 v1 v3 v4 e16

def m4_l08_StoreSees_k2 (a0 : List GL08Lot) (a1 : List GApiWrite) (a2 : Int) (a3 : List UInt8) (v1 : Bool) (b2 : Unit) : Option Bool :=
  (m35_l08_grown a0).bind fun v3 => (m16_store_Install v3 (wI (v3.Ts + 1)) a1).bind fun v4 => if (!decide (v4.2 = 0)) then (if v1 then (if (decide (v4.2 = 1)) then (some true) else (some (decide (v4.2 = 8)))) else (some false)) else ((m14_store_Get v3 a3 (if v3.Ts < a2 then v3.Ts else a2)).bind fun v5 => (m14_store_Get v4.1 a3 (if v3.Ts < a2 then v3.Ts else a2)).bind fun v6 => if (!(v5.1 == v6.1)) then (some false) else (if (!(v5.2 == v6.2)) then (some false) else (m4_l08_StoreSees_k7 a1 a3 v1 v3 v4 ())))
def m4_l08_StoreSees (a0 : List GL08Lot) (a1 : List GApiWrite) (a2 : Int) (a3 : List UInt8) : Option Bool :=
  (m9_l08_awake).bind fun v1 => (m34_l08_few a0).bind fun v17 => if (!v17) then (some v1) else ((m12_r08_FewWrites a1).bind fun v18 => if (!v18) then (some v1) else (if (decide (50 < (a3.length : Int))) then (some v1) else (m4_l08_StoreSees_k2 a0 a1 a2 a3 v1 ())))

set_option maxRecDepth 100000 in
theorem m4_l08_StoreSees_c {a0 : List GL08Lot} {a1 : List GApiWrite} {a2 : Int} {a3 : List UInt8} {r : Bool} (h : m4_l08_StoreSees a0 a1 a2 a3 = some r) : CallsA Try.prog 4 [.one (.sl a0.length (a0.flatMap eGL08Lot)), .one (.sl a1.length (a1.flatMap eGApiWrite)), .one (.i .i64 a2), .one (.sl a3.length (a3.flatMap eU8))] (· = .s (.one (.b r))) := by
  unfold m4_l08_StoreSees at h
  refine callsA_of Try.func4 rfl (nt := 149) rfl (Nat.le_of_ble_eq_true rfl) ?_
  intro w0 S0
  refine cseq ?_
  refine cregion ?_
  refine sv rfl (opv_as rfl) ?_
  refine snil ?_
  refine cseq ?_
  refine cregion ?_
  obtain ⟨v1, hv1, h⟩ := bind_eq h
  refine scall1 rfl fn9 opnds_nil (pubA_id rfl) (m9_l08_awake_c hv1) ?_
  refine sv rfl (opv_as rfl) ?_
  refine snil ?_
  refine cseq ?_
  refine cseq ?_
  refine cjoin3 (Unit) (fun b2 => [(0, .s (.one (.sl a0.length (a0.flatMap eGL08Lot)))), (1, .s (.one (.sl a1.length (a1.flatMap eGApiWrite)))), (2, .s (.one (.i .i64 a2))), (3, .s (.one (.sl a3.length (a3.flatMap eU8)))), (9, .s (.one (.b v1)))]) (fun b2 => []) (fun b2 => m4_l08_StoreSees_k2 a0 a1 a2 a3 v1 b2 = some r) (fun _ _ => inbL_of rfl) (fun _ _ => blkinb_of rfl) (fun _ _ => Nat.le_of_ble_eq_true rfl) (fun b2 h => ?_) ?_
  · unfold m4_l08_StoreSees_k2 at h
    refine cseq ?_
    refine cregion ?_
    refine sv rfl (opv_mv rfl) ?_
    obtain ⟨v3, hv3, h⟩ := bind_eq h
    refine scall1 rfl fn35 (opnds_cons rfl opnds_nil) (pubA_id rfl) (m35_l08_grown_c hv3) ?_
    refine salloc rfl zi36 ?_
    refine sstore sz36 rfl rfl rfl rfl (Nat.le_of_ble_eq_true rfl) ?_
    refine smem [.box v3] rfl ?_
    refine snil ?_
    refine cseq ?_
    refine cregion ?_
    refine sv rfl (opv_fieldAddr_lp fi36_2 rfl) ?_
    refine sv rfl (opv_load1 ti3 rfl (.lp _ _ _ rfl) rfl) ?_
    refine sv rfl (opv_add rfl rfl) ?_
    refine sv rfl (opv_as rfl) ?_
    refine snil ?_
    refine cseq ?_
    refine cregion ?_
    refine sv rfl (opv_loadN ti36 rfl (.lp _ _ _ rfl) (Nat.le_of_ble_eq_true rfl)) ?_
    refine sv rfl (opv_mv rfl) ?_
    refine sv rfl (opv_mv rfl) ?_
    obtain ⟨v4, hv4, h⟩ := bind_eq h
    refine scall1 rfl fn16 (opnds_cons rfl (opnds_cons rfl (opnds_cons rfl opnds_nil))) (pubA_id rfl) (m16_store_Install_c hv4) ?_
    refine sv rfl (opv_mvt rfl) ?_
    refine sv rfl (opv_extract rfl rfl) ?_
    refine sv rfl (opv_extract rfl rfl) ?_
    refine salloc rfl zi36 ?_
    refine sstore sz36 rfl rfl rfl rfl (Nat.le_of_ble_eq_true rfl) ?_
    refine smem [.box v3, .box v4.1] rfl ?_
    refine sv rfl (opv_as rfl) ?_
    refine snil ?_
    refine cseq ?_
    refine cseq ?_
    refine cregion ?_
    refine sv rfl (opv_mv rfl) ?_
    refine sv rfl (opv_ineq rfl rfl) ?_
    refine snil ?_
    refine ccond rfl (fun hc => ?_) (fun hc => ?_)
    · replace h := ite_t hc h
      clear hc
      refine cseq ?_
      refine cregion ?_
      refine sv rfl (opv_mv rfl) ?_
      refine sv rfl (opv_mv rfl) ?_
      refine ssplit 50 rfl (fun hc => ?_) (fun hc => ?_)
      · replace h := ite_t hc h
        clear hc
        refine son rfl rfl rfl ?_
        refine sv rfl (opv_mv rfl) ?_
        refine son rfl rfl rfl ?_
        refine sv rfl (opv_ieql rfl rfl) ?_
        refine son rfl rfl rfl ?_
        refine sv rfl (opv_mv rfl) ?_
        refine ssplit 53 rfl (fun hc => ?_) (fun hc => ?_)
        · replace h := ite_t hc h
          clear hc
          refine soff rfl rfl rfl rfl ?_
          refine soff rfl rfl rfl rfl ?_
          refine son rfl rfl rfl ?_
          refine sv rfl (opv_pick_t rfl rfl) ?_
          refine sv rfl (opv_pick_t rfl rfl) ?_
          refine sv rfl (opv_as rfl) ?_
          refine snil ?_
          refine cret ?_
          refine then_ret ?_
          obtain rfl := Option.some.inj h
          refine ⟨Or.inr rfl, _, _, _, (resVs_cons (ResV.tmp _ _ rfl) resVs_nil), (pubA_id rfl), ?_⟩
          rfl
        · replace h := ite_f hc h
          clear hc
          refine son rfl rfl rfl ?_
          refine sv rfl (opv_mv rfl) ?_
          refine son rfl rfl rfl ?_
          refine sv rfl (opv_ieql rfl rfl) ?_
          refine son rfl rfl rfl ?_
          refine sv rfl (opv_pick_f rfl rfl) ?_
          refine sv rfl (opv_pick_t rfl rfl) ?_
          refine sv rfl (opv_as rfl) ?_
          refine snil ?_
          refine cret ?_
          refine then_ret ?_
          obtain rfl := Option.some.inj h
          refine ⟨Or.inr rfl, _, _, _, (resVs_cons (ResV.tmp _ _ rfl) resVs_nil), (pubA_id rfl), ?_⟩
          rfl
      · replace h := ite_f hc h
        clear hc
        refine soff rfl rfl rfl rfl ?_
        refine soff rfl rfl rfl rfl ?_
        refine soff rfl rfl rfl rfl ?_
        refine soffu rfl rfl rfl ?_
        refine soffu rfl rfl rfl ?_
        refine soff rfl rfl rfl rfl ?_
        refine sv rfl (opv_pick_f rfl rfl) ?_
        refine sv rfl (opv_as rfl) ?_
        refine snil ?_
        refine cret ?_
        refine then_ret ?_
        obtain rfl := Option.some.inj h
        refine ⟨Or.inr rfl, _, _, _, (resVs_cons (ResV.tmp _ _ rfl) resVs_nil), (pubA_id rfl), ?_⟩
        rfl
    · replace h := ite_f hc h
      clear hc
      refine cskip ?_
      refine then_normal ?_
      refine cseq ?_
      refine cregion ?_
      refine sv rfl (opv_mv rfl) ?_
      refine sv rfl (opv_fieldAddr_lp fi36_2 rfl) ?_
      refine sv rfl (opv_load1 ti3 rfl (.lp _ _ _ rfl) rfl) ?_
      refine sv rfl (opv_min rfl rfl) ?_
      refine sv rfl (opv_as rfl) ?_
      refine snil ?_
      refine cseq ?_
      refine cregion ?_
      refine sv rfl (opv_loadN ti36 rfl (.lp _ _ _ rfl) (Nat.le_of_ble_eq_true rfl)) ?_
      refine sv rfl (opv_mv rfl) ?_
      refine sv rfl (opv_mv rfl) ?_
      obtain ⟨v5, hv5, h⟩ := bind_eq h
      refine scall1 rfl fn14 (opnds_cons rfl (opnds_cons rfl (opnds_cons rfl opnds_nil))) (pubA_id rfl) (m14_store_Get_c hv5) ?_
      refine sv rfl (opv_mvt rfl) ?_
      refine sv rfl (opv_extract rfl rfl) ?_
      refine sv rfl (opv_extract rfl rfl) ?_
      refine sv rfl (opv_as rfl) ?_
      refine sv rfl (opv_as rfl) ?_
      refine snil ?_
      refine cseq ?_
      refine cregion ?_
      refine sv rfl (opv_loadN ti36 rfl (.lp _ _ _ rfl) (Nat.le_of_ble_eq_true rfl)) ?_
      refine sv rfl (opv_mv rfl) ?_
      refine sv rfl (opv_mv rfl) ?_
      obtain ⟨v6, hv6, h⟩ := bind_eq h
      refine scall1 rfl fn14 (opnds_cons rfl (opnds_cons rfl (opnds_cons rfl opnds_nil))) (pubA_id rfl) (m14_store_Get_c hv6) ?_
      refine sv rfl (opv_mvt rfl) ?_
      refine sv rfl (opv_extract rfl rfl) ?_
      refine sv rfl (opv_extract rfl rfl) ?_
      refine sv rfl (opv_as rfl) ?_
      refine sv rfl (opv_as rfl) ?_
      refine snil ?_
      refine cseq ?_
      refine cseq ?_
      refine cjoin3 (Unit) (fun b7 => [(1, .s (.one (.sl a1.length (a1.flatMap eGApiWrite)))), (3, .s (.one (.sl a3.length (a3.flatMap eU8)))), (9, .s (.one (.b v1))), (10, .s (.one (.lp 0 0))), (11, .s (.one (.i .i64 (wI (v3.Ts + 1))))), (12, .s (.one (.lp 1 0)))]) (fun b7 => [.box v3, .box v4.1]) (fun b7 => m4_l08_StoreSees_k7 a1 a3 v1 v3 v4 b7 = some r) (fun _ _ => inbL_of rfl) (fun _ _ => blkinb_of rfl) (fun _ _ => Nat.le_of_ble_eq_true rfl) (fun b7 h => ?_) ?_
      · unfold m4_l08_StoreSees_k7 at h
        refine cseq ?_
        refine cregion ?_
        refine sv rfl (opv_loadN ti36 rfl (.lp _ _ _ rfl) (Nat.le_of_ble_eq_true rfl)) ?_
        refine sv rfl (opv_mv rfl) ?_
        refine sv rfl (opv_mv rfl) ?_
        obtain ⟨v8, hv8, h⟩ := bind_eq h
        refine scall1 rfl fn14 (opnds_cons rfl (opnds_cons rfl (opnds_cons rfl opnds_nil))) (pubA_id rfl) (m14_store_Get_c hv8) ?_
        refine sv rfl (opv_mvt rfl) ?_
        refine sv rfl (opv_extract rfl rfl) ?_
        refine sv rfl (opv_extract rfl rfl) ?_
        refine sv rfl (opv_as rfl) ?_
        refine sv rfl (opv_as rfl) ?_
        refine snil ?_
        refine cseq ?_
        refine cseq ?_
        refine cregion ?_
        refine sv rfl (opv_as rfl) ?_
        refine snil ?_
        refine cjoin ((List UInt8) × Bool) (fun b9 => [(3, .s (.one (.sl a3.length (a3.flatMap eU8)))), (9, .s (.one (.b v1))), (11, .s (.one (.i .i64 (wI (v3.Ts + 1))))), (12, .s (.one (.lp 1 0))), (15, .s (.one (.sl b9.1.length (b9.1.flatMap eU8)))), (16, .s (.one (.b b9.2)))]) (fun b9 => [.box v3, .box v4.1]) (fun b9 => m4_l08_StoreSees_k9 a3 v1 v3 v4 b9 = some r) (fun _ _ => inbL_of rfl) (fun _ _ => blkinb_of rfl) (fun _ _ => Nat.le_of_ble_eq_true rfl) (fun b9 h => ?_) ?_
        · unfold m4_l08_StoreSees_k9 at h
          refine cseq ?_
          refine cregion ?_
          refine sv rfl (opv_loadN ti36 rfl (.lp _ _ _ rfl) (Nat.le_of_ble_eq_true rfl)) ?_
          refine sv rfl (opv_mv rfl) ?_
          refine sv rfl (opv_mv rfl) ?_
          obtain ⟨v10, hv10, h⟩ := bind_eq h
          refine scall1 rfl fn14 (opnds_cons rfl (opnds_cons rfl (opnds_cons rfl opnds_nil))) (pubA_id rfl) (m14_store_Get_c hv10) ?_
          refine sv rfl (opv_mvt rfl) ?_
          refine sv rfl (opv_extract rfl rfl) ?_
          refine sv rfl (opv_extract rfl rfl) ?_
          refine sv rfl (opv_as rfl) ?_
          refine sv rfl (opv_as rfl) ?_
          refine snil ?_
          refine cseq ?_
          refine cregion ?_
          refine sv rfl (opv_mv rfl) ?_
          refine sv rfl (opv_mv rfl) ?_
          refine ssplit 127 rfl (fun hc => ?_) (fun hc => ?_)
          · replace h := ite_t hc h
            clear hc
            refine son rfl rfl rfl ?_
            refine sv rfl (opv_mv rfl) ?_
            refine son rfl rfl rfl ?_
            refine sv rfl (opv_bs (l := b9.1) Try.underlying26 Try.underlying5 Try.underlying9 rfl rfl rfl) ?_
            refine son rfl rfl rfl ?_
            refine sv rfl (opv_mv rfl) ?_
            refine son rfl rfl rfl ?_
            refine sv rfl (opv_bs (l := v10.1) Try.underlying26 Try.underlying5 Try.underlying9 rfl rfl rfl) ?_
            refine son rfl rfl rfl ?_
            refine sv rfl (opv_seql' rfl rfl) ?_
            refine sv rfl (opv_pick_t rfl rfl) ?_
            refine sv rfl (opv_mv rfl) ?_
            refine ssplit 134 rfl (fun hc => ?_) (fun hc => ?_)
            · replace h := ite_t hc h
              clear hc
              refine son rfl rfl rfl ?_
              refine sv rfl (opv_mv rfl) ?_
              refine son rfl rfl rfl ?_
              refine sv rfl (opv_mv rfl) ?_
              refine son rfl rfl rfl ?_
              refine sv rfl (opv_beql Try.underlying4 rfl rfl) ?_
              refine sv rfl (opv_pick_t rfl rfl) ?_
              refine sv rfl (opv_mv rfl) ?_
              refine ssplit 139 rfl (fun hc => ?_) (fun hc => ?_)
              · replace h := ite_t hc h
                clear hc
                refine son rfl rfl rfl ?_
                refine sv rfl (opv_loadN ti36 rfl (.lp _ _ _ rfl) (Nat.le_of_ble_eq_true rfl)) ?_
                refine son rfl rfl rfl ?_
                obtain ⟨v11, hv11, h⟩ := bind_eq h
                refine scall1 rfl fn23 (opnds_cons rfl opnds_nil) (pubA_id rfl) (m23_store_Sane_c hv11) ?_
                refine sv rfl (opv_pick_t rfl rfl) ?_
                refine sv rfl (opv_mv rfl) ?_
                refine ssplit 143 rfl (fun hc => ?_) (fun hc => ?_)
                · replace h := ite_t hc h
                  clear hc
                  refine son rfl rfl rfl ?_
                  refine sv rfl (opv_fieldAddr_lp fi36_2 rfl) ?_
                  refine son rfl rfl rfl ?_
                  refine sv rfl (opv_load1 ti3 rfl (.lp _ _ _ rfl) rfl) ?_
                  refine son rfl rfl rfl ?_
                  refine sv rfl (opv_mv rfl) ?_
                  refine son rfl rfl rfl ?_
                  refine sv rfl (opv_ieql rfl rfl) ?_
                  refine sv rfl (opv_pick_t rfl rfl) ?_
                  refine sv rfl (opv_as rfl) ?_
                  refine snil ?_
                  refine cret ?_
                  obtain rfl := Option.some.inj h
                  refine ⟨Or.inr rfl, _, _, _, (resVs_cons (ResV.tmp _ _ rfl) resVs_nil), (pubA_id rfl), ?_⟩
                  rfl
                · replace h := ite_f hc h
                  clear hc
                  refine soff rfl rfl rfl rfl ?_
                  refine soff rfl rfl rfl rfl ?_
                  refine soff rfl rfl rfl rfl ?_
                  refine soff rfl rfl rfl rfl ?_
                  refine sv rfl (opv_pick_f rfl rfl) ?_
                  refine sv rfl (opv_as rfl) ?_
                  refine snil ?_
                  refine cret ?_
                  obtain rfl := Option.some.inj h
                  refine ⟨Or.inr rfl, _, _, _, (resVs_cons (ResV.tmp _ _ rfl) resVs_nil), (pubA_id rfl), ?_⟩
                  rfl
              · replace h := ite_f hc h
                clear hc
                refine soff rfl rfl rfl rfl ?_
                refine soff rfl rfl rfl rfl ?_
                refine sv rfl (opv_pick_f rfl rfl) ?_
                refine sv rfl (opv_mv rfl) ?_
                refine soff rfl rfl rfl rfl ?_
                refine soff rfl rfl rfl rfl ?_
                refine soff rfl rfl rfl rfl ?_
                refine soff rfl rfl rfl rfl ?_
                refine sv rfl (opv_pick_f rfl rfl) ?_
                refine sv rfl (opv_as rfl) ?_
                refine snil ?_
                refine cret ?_
                obtain rfl := Option.some.inj h
                refine ⟨Or.inr rfl, _, _, _, (resVs_cons (ResV.tmp _ _ rfl) resVs_nil), (pubA_id rfl), ?_⟩
                rfl
            · replace h := ite_f hc h
              clear hc
              refine soff rfl rfl rfl rfl ?_
              refine soff rfl rfl rfl rfl ?_
              refine soff rfl rfl rfl rfl ?_
              refine sv rfl (opv_pick_f rfl rfl) ?_
              refine sv rfl (opv_mv rfl) ?_
              refine soff rfl rfl rfl rfl ?_
              refine soff rfl rfl rfl rfl ?_
              refine sv rfl (opv_pick_f rfl rfl) ?_
              refine sv rfl (opv_mv rfl) ?_
              refine soff rfl rfl rfl rfl ?_
              refine soff rfl rfl rfl rfl ?_
              refine soff rfl rfl rfl rfl ?_
              refine soff rfl rfl rfl rfl ?_
              refine sv rfl (opv_pick_f rfl rfl) ?_
              refine sv rfl (opv_as rfl) ?_
              refine snil ?_
              refine cret ?_
              obtain rfl := Option.some.inj h
              refine ⟨Or.inr rfl, _, _, _, (resVs_cons (ResV.tmp _ _ rfl) resVs_nil), (pubA_id rfl), ?_⟩
              rfl
          · replace h := ite_f hc h
            clear hc
            refine soff rfl rfl rfl rfl ?_
            refine soff rfl rfl rfl rfl ?_
            refine soff rfl rfl rfl rfl ?_
            refine soff rfl rfl rfl rfl ?_
            refine soff rfl rfl rfl rfl ?_
            refine sv rfl (opv_pick_f rfl rfl) ?_
            refine sv rfl (opv_mv rfl) ?_
            refine soff rfl rfl rfl rfl ?_
            refine soff rfl rfl rfl rfl ?_
            refine soff rfl rfl rfl rfl ?_
            refine sv rfl (opv_pick_f rfl rfl) ?_
            refine sv rfl (opv_mv rfl) ?_
            refine soff rfl rfl rfl rfl ?_
            refine soff rfl rfl rfl rfl ?_
            refine sv rfl (opv_pick_f rfl rfl) ?_
            refine sv rfl (opv_mv rfl) ?_
            refine soff rfl rfl rfl rfl ?_
            refine soff rfl rfl rfl rfl ?_
            refine soff rfl rfl rfl rfl ?_
            refine soff rfl rfl rfl rfl ?_
            refine sv rfl (opv_pick_f rfl rfl) ?_
            refine sv rfl (opv_as rfl) ?_
            refine snil ?_
            refine cret ?_
            obtain rfl := Option.some.inj h
            refine ⟨Or.inr rfl, _, _, _, (resVs_cons (ResV.tmp _ _ rfl) resVs_nil), (pubA_id rfl), ?_⟩
            rfl
        · skip
          refine cblock ?_
          obtain ⟨x12, hx12, ho12⟩ := bind_eq h
          refine awc_loop (G := Nat × ((List UInt8) × Bool × Int)) (fun g => [(1, .s (.one (.sl a1.length (a1.flatMap eGApiWrite)))), (3, .s (.one (.sl a3.length (a3.flatMap eU8)))), (9, .s (.one (.b v1))), (11, .s (.one (.i .i64 (wI (v3.Ts + 1))))), (12, .s (.one (.lp 1 0))), (15, .s (.one (.sl g.2.1.length (g.2.1.flatMap eU8)))), (16, .s (.one (.b g.2.2.1))), (19, .s (.one (.i .i64 g.2.2.2)))]) (fun g => [.box v3, .box v4.1]) (fun g => iterB (m4_l08_StoreSees_s12 a1 a3) g.1 g.2 = some x12) (fun g => g.1) (fuel, (v8.1, v8.2, 0)) hx12 ⟨rfl, rfl, rfl, rfl, rfl, rfl, rfl, rfl, trivial⟩ [] rfl (fun _ _ => inbL_of rfl) (fun _ _ => blkinb_of rfl) (fun _ _ => Nat.le_of_ble_eq_true rfl) ?_
          clear hx12 h
          rintro ⟨n12, s12⟩ h
          obtain ⟨n12, y12, rfl, h, hk12⟩ := iterB_eq h
          unfold m4_l08_StoreSees_s12 at h
          refine cseq ?_
          refine cseq ?_
          refine cregion ?_
          refine sv rfl (opv_mv rfl) ?_
          refine sv rfl (opv_mv rfl) ?_
          refine sv rfl (opv_len_sl si29 rfl) ?_
          refine sv rfl (opv_lss rfl rfl) ?_
          refine snil ?_
          refine ccond rfl (fun hc => ?_) (fun hc => ?_)
          · replace h := ite_t hc h
            clear hc
            refine cskip ?_
            refine then_normal ?_
            refine cseq ?_
            refine cblock ?_
            refine cseq ?_
            refine cdraw mixed (by kernel_rfl) ?_
            refine dv rfl (opv_mv rfl) ?_
            refine dv rfl (opv_mv rfl) ?_
            obtain ⟨u13, hu13, h⟩ := bind_eq h
            refine dv rfl (opv_ix (f := eGApiWrite) si29 (fun _ => rfl) rfl rfl rfl rfl hu13) ?_
            refine dv rfl (opv_fieldAddr_cp fi67_0 rfl) ?_
            refine dv rfl (opv_load1 ti26 rfl (.cp _) rfl) ?_
            refine dv rfl (opv_bs (l := u13.Key) Try.underlying26 Try.underlying5 Try.underlying9 rfl rfl rfl) ?_
            refine dv rfl (opv_mv rfl) ?_
            refine dv rfl (opv_bs (l := a3) Try.underlying26 Try.underlying5 Try.underlying9 rfl rfl rfl) ?_
            refine dv rfl (opv_seql' rfl rfl) ?_
            refine dnil ?_
            refine then_normal ?_
            refine ccond rfl (fun hc => ?_) (fun hc => ?_)
            · replace h := ite_t hc h
              clear hc
              refine cseq ?_
              refine cregion ?_
              refine sv rfl (opv_mv rfl) ?_
              refine sv rfl (opv_mv rfl) ?_
              obtain ⟨u14, hu14, h⟩ := bind_eq h
              refine sv rfl (opv_ix (f := eGApiWrite) si29 (fun _ => rfl) rfl rfl rfl rfl hu14) ?_
              refine sv rfl (opv_fieldAddr_cp fi67_1 rfl) ?_
              refine sv rfl (opv_load1 ti26 rfl (.cp _) rfl) ?_
              refine sv rfl (opv_as rfl) ?_
              refine snil ?_
              refine cregion ?_
              refine sv rfl (opv_mv rfl) ?_
              refine sv rfl (opv_mv rfl) ?_
              obtain ⟨u15, hu15, h⟩ := bind_eq h
              refine sv rfl (opv_ix (f := eGApiWrite) si29 (fun _ => rfl) rfl rfl rfl rfl hu15) ?_
              refine sv rfl (opv_fieldAddr_cp fi67_2 rfl) ?_
              refine sv rfl (opv_load1 ti4 rfl (.cp _) rfl) ?_
              refine sv rfl (opv_not rfl) ?_
              refine sv rfl (opv_as rfl) ?_
              refine snil0 ?_
              refine block_normal ?_
              refine then_normal ?_
              refine cregion ?_
              refine sv rfl (opv_mv rfl) ?_
              refine sv rfl (opv_add rfl rfl) ?_
              refine sv rfl (opv_as rfl) ?_
              refine snil ?_
              obtain rfl := Option.some.inj h
              exact ⟨(n12, (u14.Val, (!u15.Del), (wI (s12.2.2 + 1)))), _, hk12, ⟨rfl, rfl, rfl, rfl, rfl, rfl, rfl, rfl, trivial⟩, rfl, Nat.lt_succ_self _⟩
            · replace h := ite_f hc h
              clear hc
              refine cskip ?_
              refine block_normal ?_
              refine then_normal ?_
              refine cregion ?_
              refine sv rfl (opv_mv rfl) ?_
              refine sv rfl (opv_add rfl rfl) ?_
              refine sv rfl (opv_as rfl) ?_
              refine snil ?_
              obtain rfl := Option.some.inj h
              exact ⟨(n12, (s12.1, s12.2.1, (wI (s12.2.2 + 1)))), _, hk12, ⟨rfl, rfl, rfl, rfl, rfl, rfl, rfl, rfl, trivial⟩, rfl, Nat.lt_succ_self _⟩
          · replace h := ite_f hc h
            clear hc
            refine cexit ?_
            refine then_exit ?_
            refine then_exit ?_
            refine block_hit ?_
            refine then_normal ?_
            obtain rfl := Option.some.inj h
            obtain rfl : _ = x12 := hk12
            exact ⟨(s12.1, s12.2.1), _, ho12, ⟨rfl, rfl, rfl, rfl, rfl, rfl, trivial⟩, rfl⟩
      · skip
        refine cregion ?_
        refine sv rfl (opv_mv rfl) ?_
        refine sv rfl (opv_bs (l := v5.1) Try.underlying26 Try.underlying5 Try.underlying9 rfl rfl rfl) ?_
        refine sv rfl (opv_mv rfl) ?_
        refine sv rfl (opv_bs (l := v6.1) Try.underlying26 Try.underlying5 Try.underlying9 rfl rfl rfl) ?_
        refine sv rfl (opv_sneq' rfl rfl) ?_
        refine sv rfl (opv_mv rfl) ?_
        refine ssplit 81 rfl (fun hc => ?_) (fun hc => ?_)
        · replace h := ite_t hc h
          clear hc
          refine soff rfl rfl rfl rfl ?_
          refine soff rfl rfl rfl rfl ?_
          refine soff rfl rfl rfl rfl ?_
          refine sv rfl (opv_pick_t rfl rfl) ?_
          refine snil ?_
          refine ccond rfl (fun _ => ?_) (fun hx => Bool.noConfusion hx)
          refine cseq ?_
          refine cregion ?_
          refine sv rfl (opv_as rfl) ?_
          refine snil ?_
          refine cret ?_
          refine then_ret ?_
          obtain rfl := Option.some.inj h
          refine ⟨Or.inr rfl, _, _, _, (resVs_cons (ResV.tmp _ _ rfl) resVs_nil), (pubA_id rfl), ?_⟩
          rfl
        · replace h := ite_f hc h
          clear hc
          refine son rfl rfl rfl ?_
          refine sv rfl (opv_mv rfl) ?_
          refine son rfl rfl rfl ?_
          refine sv rfl (opv_mv rfl) ?_
          refine son rfl rfl rfl ?_
          refine sv rfl (opv_bneq Try.underlying4 rfl rfl) ?_
          refine sv rfl (opv_pick_f rfl rfl) ?_
          refine snil ?_
          refine ccond rfl (fun hc => ?_) (fun hc => ?_)
          · replace h := ite_t hc h
            clear hc
            refine cseq ?_
            refine cregion ?_
            refine sv rfl (opv_as rfl) ?_
            refine snil ?_
            refine cret ?_
            refine then_ret ?_
            obtain rfl := Option.some.inj h
            refine ⟨Or.inr rfl, _, _, _, (resVs_cons (ResV.tmp _ _ rfl) resVs_nil), (pubA_id rfl), ?_⟩
            rfl
          · replace h := ite_f hc h
            clear hc
            refine cskip ?_
            refine then_normal ?_
            exact ⟨(), _, h, ⟨rfl, rfl, rfl, rfl, rfl, rfl, trivial⟩, rfl⟩
  · skip
    refine cregion ?_
    refine sv rfl (opv_mv rfl) ?_
    obtain ⟨v17, hv17, h⟩ := bind_eq h
    refine scall1 rfl fn34 (opnds_cons rfl opnds_nil) (pubA_id rfl) (m34_l08_few_c hv17) ?_
    refine sv rfl (opv_not rfl) ?_
    refine sv rfl (opv_mv rfl) ?_
    refine ssplit 24 rfl (fun hc => ?_) (fun hc => ?_)
    · replace h := ite_t hc h
      clear hc
      refine soff rfl rfl rfl rfl ?_
      refine soff rfl rfl rfl rfl ?_
      refine soff rfl rfl rfl rfl ?_
      refine sv rfl (opv_pick_t rfl rfl) ?_
      refine sv rfl (opv_mv rfl) ?_
      refine soff rfl rfl rfl rfl ?_
      refine soff rfl rfl rfl rfl ?_
      refine soff rfl rfl rfl rfl ?_
      refine sv rfl (opv_pick_t rfl rfl) ?_
      refine snil ?_
      refine ccond rfl (fun _ => ?_) (fun hx => Bool.noConfusion hx)
      refine cseq ?_
      refine cregion ?_
      refine sv rfl (opv_mv rfl) ?_
      refine sv rfl (opv_as rfl) ?_
      refine snil ?_
      refine cret ?_
      refine then_ret ?_
      obtain rfl := Option.some.inj h
      refine ⟨Or.inr rfl, _, _, _, (resVs_cons (ResV.tmp _ _ rfl) resVs_nil), (pubA_id rfl), ?_⟩
      rfl
    · replace h := ite_f hc h
      clear hc
      refine son rfl rfl rfl ?_
      refine sv rfl (opv_mv rfl) ?_
      refine son rfl rfl rfl ?_
      obtain ⟨v18, hv18, h⟩ := bind_eq h
      refine scall1 rfl fn12 (opnds_cons rfl opnds_nil) (pubA_id rfl) (m12_r08_FewWrites_c hv18) ?_
      refine son rfl rfl rfl ?_
      refine sv rfl (opv_not rfl) ?_
      refine sv rfl (opv_pick_f rfl rfl) ?_
      refine sv rfl (opv_mv rfl) ?_
      refine ssplit 29 rfl (fun hc => ?_) (fun hc => ?_)
      · replace h := ite_t hc h
        clear hc
        refine soff rfl rfl rfl rfl ?_
        refine soff rfl rfl rfl rfl ?_
        refine soff rfl rfl rfl rfl ?_
        refine sv rfl (opv_pick_t rfl rfl) ?_
        refine snil ?_
        refine ccond rfl (fun _ => ?_) (fun hx => Bool.noConfusion hx)
        refine cseq ?_
        refine cregion ?_
        refine sv rfl (opv_mv rfl) ?_
        refine sv rfl (opv_as rfl) ?_
        refine snil ?_
        refine cret ?_
        refine then_ret ?_
        obtain rfl := Option.some.inj h
        refine ⟨Or.inr rfl, _, _, _, (resVs_cons (ResV.tmp _ _ rfl) resVs_nil), (pubA_id rfl), ?_⟩
        rfl
      · replace h := ite_f hc h
        clear hc
        refine son rfl rfl rfl ?_
        refine sv rfl (opv_mv rfl) ?_
        refine son rfl rfl rfl ?_
        refine sv rfl (opv_len_sl si26 rfl) ?_
        refine son rfl rfl rfl ?_
        refine sv rfl (opv_gtr rfl rfl) ?_
        refine sv rfl (opv_pick_f rfl rfl) ?_
        refine snil ?_
        refine ccond rfl (fun hc => ?_) (fun hc => ?_)
        · replace h := ite_t hc h
          clear hc
          refine cseq ?_
          refine cregion ?_
          refine sv rfl (opv_mv rfl) ?_
          refine sv rfl (opv_as rfl) ?_
          refine snil ?_
          refine cret ?_
          refine then_ret ?_
          obtain rfl := Option.some.inj h
          refine ⟨Or.inr rfl, _, _, _, (resVs_cons (ResV.tmp _ _ rfl) resVs_nil), (pubA_id rfl), ?_⟩
          rfl
        · replace h := ite_f hc h
          clear hc
          refine cskip ?_
          refine then_normal ?_
          exact ⟨(), _, h, ⟨rfl, rfl, rfl, rfl, rfl, trivial⟩, rfl⟩


end Go.Proofs.Ytbojepclnfnmcaa.Abs
