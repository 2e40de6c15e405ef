/-
  KeysThree: the walk
-/
import Derived.Test.YtiadgkkebmclgaaK3
namespace Go.Proofs.Ytiadgkkebmclgaa.Abs
open Go.RowKit Go.Proofs
set_option maxRecDepth 100000

theorem fn13 : FnI Try.prog 13 := ⟨⟨_, Try.func13, by kernel_rfl, by kernel_rfl⟩⟩

set_option maxHeartbeats 8000000 in
theorem keysThree_c {lo hi lo1 hi1 lo2 hi2 k : List UInt8} {o o1 o2 : Bool} : CallsA Try.prog 9 [rsv lo hi o, rsv lo1 hi1 o1, rsv lo2 hi2 o2, .one (bsv k)] (· = .s (.one (.b true))) := by
  refine callsA_of Try.func9 rfl (nt := 112) rfl (Nat.le_of_ble_eq_true rfl) ?_
  intro w0 S0
  refine cseq ?_
  refine cregion ?_
  refine sbox rfl rfl ?_
  refine sbox rfl rfl ?_
  refine sbox rfl rfl ?_
  first | (refine sv rfl (opv_as rfl) ?_) | (refine sv rfl (opv_ast rfl) ?_)
  refine snil ?_
  refine cseq ?_
  refine cregion ?_
  refine scall1 rfl fn10 opnds_nil (pubA_id rfl) (awake_c) ?_
  first | (refine sv rfl (opv_as rfl) ?_) | (refine sv rfl (opv_ast rfl) ?_)
  refine snil ?_
  refine cseq ?_
  refine cseq ?_
  refine cregion ?_
  first | (refine sv rfl (opv_loadN ti24 rfl (.lp _ _ _ rfl) (Nat.le_of_ble_eq_true rfl)) ?_) | (refine sv rfl (opv_loadN ti24 rfl (.cp _) (Nat.le_of_ble_eq_true rfl)) ?_)
  refine scall1 rfl fn11 (opnds_cons rfl opnds_nil) (pubC rfl) (short_c) ?_
  refine sv rfl (opv_not rfl) ?_
  first | (refine sv rfl (opv_mv rfl) ?_) | (refine sv rfl (opv_mvt rfl) ?_)
  refine ssplit 25 rfl (fun hg1 => ?_) (fun hg1 => ?_)
  · replace hg1 := bnot_t hg1
    first
    | (exfalso; first | omega | contradiction | (simp_all; done))
    | (
        refine soff rfl rfl rfl rfl ?_
        refine soff rfl rfl rfl rfl ?_
        refine soff rfl rfl rfl rfl ?_
        first | (refine sv rfl (opv_pick_t rfl rfl) ?_) | (refine sv rfl (opv_pick_f rfl rfl) ?_)
        first | (refine sv rfl (opv_mv rfl) ?_) | (refine sv rfl (opv_mvt rfl) ?_)
        refine soff rfl rfl rfl rfl ?_
        refine soff rfl rfl rfl rfl ?_
        refine soff rfl rfl rfl rfl ?_
        first | (refine sv rfl (opv_pick_t rfl rfl) ?_) | (refine sv rfl (opv_pick_f rfl rfl) ?_)
        first | (refine sv rfl (opv_mv rfl) ?_) | (refine sv rfl (opv_mvt rfl) ?_)
        refine soff rfl rfl rfl rfl ?_
        refine soff rfl rfl rfl rfl ?_
        refine soff rfl rfl rfl rfl ?_
        first | (refine sv rfl (opv_pick_t rfl rfl) ?_) | (refine sv rfl (opv_pick_f rfl rfl) ?_)
        first | (refine sv rfl (opv_mv rfl) ?_) | (refine sv rfl (opv_mvt rfl) ?_)
        refine soff rfl rfl rfl rfl ?_
        refine soff rfl rfl rfl rfl ?_
        refine soff rfl rfl rfl rfl ?_
        first | (refine sv rfl (opv_pick_t rfl rfl) ?_) | (refine sv rfl (opv_pick_f rfl rfl) ?_)
        refine snil ?_
        refine ccond rfl (fun _ => ?_) (fun hx => Bool.noConfusion hx)
        refine cseq ?_
        refine cregion ?_
        first | (refine sv rfl (opv_mv rfl) ?_) | (refine sv rfl (opv_mvt rfl) ?_)
        first | (refine sv rfl (opv_as rfl) ?_) | (refine sv rfl (opv_ast rfl) ?_)
        refine snil ?_
        refine cret ?_
        refine then_ret ?_
        refine ⟨Or.inr rfl, _, _, _, (resVs_cons (ResV.tmp _ _ rfl) resVs_nil), (pubA_id rfl), ?_⟩
        first | rfl | (refine avb ?_; simp_all; done))
  · replace hg1 := bnot_f hg1
    first
    | (exfalso; first | omega | contradiction | (simp_all; done))
    | (
        refine son rfl rfl rfl ?_
        first | (refine sv rfl (opv_loadN ti24 rfl (.lp _ _ _ rfl) (Nat.le_of_ble_eq_true rfl)) ?_) | (refine sv rfl (opv_loadN ti24 rfl (.cp _) (Nat.le_of_ble_eq_true rfl)) ?_)
        refine son rfl rfl rfl ?_
        refine scall1 rfl fn11 (opnds_cons rfl opnds_nil) (pubC rfl) (short_c) ?_
        refine son rfl rfl rfl ?_
        refine sv rfl (opv_not rfl) ?_
        first | (refine sv rfl (opv_pick_t rfl rfl) ?_) | (refine sv rfl (opv_pick_f rfl rfl) ?_)
        first | (refine sv rfl (opv_mv rfl) ?_) | (refine sv rfl (opv_mvt rfl) ?_)
        refine ssplit 30 rfl (fun hg2 => ?_) (fun hg2 => ?_)
        · replace hg2 := bnot_t hg2
          first
          | (exfalso; first | omega | contradiction | (simp_all; done))
          | (
              refine soff rfl rfl rfl rfl ?_
              refine soff rfl rfl rfl rfl ?_
              refine soff rfl rfl rfl rfl ?_
              first | (refine sv rfl (opv_pick_t rfl rfl) ?_) | (refine sv rfl (opv_pick_f rfl rfl) ?_)
              first | (refine sv rfl (opv_mv rfl) ?_) | (refine sv rfl (opv_mvt rfl) ?_)
              refine soff rfl rfl rfl rfl ?_
              refine soff rfl rfl rfl rfl ?_
              refine soff rfl rfl rfl rfl ?_
              first | (refine sv rfl (opv_pick_t rfl rfl) ?_) | (refine sv rfl (opv_pick_f rfl rfl) ?_)
              first | (refine sv rfl (opv_mv rfl) ?_) | (refine sv rfl (opv_mvt rfl) ?_)
              refine soff rfl rfl rfl rfl ?_
              refine soff rfl rfl rfl rfl ?_
              refine soff rfl rfl rfl rfl ?_
              first | (refine sv rfl (opv_pick_t rfl rfl) ?_) | (refine sv rfl (opv_pick_f rfl rfl) ?_)
              refine snil ?_
              refine ccond rfl (fun _ => ?_) (fun hx => Bool.noConfusion hx)
              refine cseq ?_
              refine cregion ?_
              first | (refine sv rfl (opv_mv rfl) ?_) | (refine sv rfl (opv_mvt rfl) ?_)
              first | (refine sv rfl (opv_as rfl) ?_) | (refine sv rfl (opv_ast rfl) ?_)
              refine snil ?_
              refine cret ?_
              refine then_ret ?_
              refine ⟨Or.inr rfl, _, _, _, (resVs_cons (ResV.tmp _ _ rfl) resVs_nil), (pubA_id rfl), ?_⟩
              first | rfl | (refine avb ?_; simp_all; done))
        · replace hg2 := bnot_f hg2
          first
          | (exfalso; first | omega | contradiction | (simp_all; done))
          | (
              refine son rfl rfl rfl ?_
              first | (refine sv rfl (opv_loadN ti24 rfl (.lp _ _ _ rfl) (Nat.le_of_ble_eq_true rfl)) ?_) | (refine sv rfl (opv_loadN ti24 rfl (.cp _) (Nat.le_of_ble_eq_true rfl)) ?_)
              refine son rfl rfl rfl ?_
              refine scall1 rfl fn11 (opnds_cons rfl opnds_nil) (pubC rfl) (short_c) ?_
              refine son rfl rfl rfl ?_
              refine sv rfl (opv_not rfl) ?_
              first | (refine sv rfl (opv_pick_t rfl rfl) ?_) | (refine sv rfl (opv_pick_f rfl rfl) ?_)
              first | (refine sv rfl (opv_mv rfl) ?_) | (refine sv rfl (opv_mvt rfl) ?_)
              refine ssplit 35 rfl (fun hg3 => ?_) (fun hg3 => ?_)
              · replace hg3 := bnot_t hg3
                first
                | (exfalso; first | omega | contradiction | (simp_all; done))
                | (
                    refine soff rfl rfl rfl rfl ?_
                    refine soff rfl rfl rfl rfl ?_
                    refine soff rfl rfl rfl rfl ?_
                    first | (refine sv rfl (opv_pick_t rfl rfl) ?_) | (refine sv rfl (opv_pick_f rfl rfl) ?_)
                    first | (refine sv rfl (opv_mv rfl) ?_) | (refine sv rfl (opv_mvt rfl) ?_)
                    refine soff rfl rfl rfl rfl ?_
                    refine soff rfl rfl rfl rfl ?_
                    refine soff rfl rfl rfl rfl ?_
                    first | (refine sv rfl (opv_pick_t rfl rfl) ?_) | (refine sv rfl (opv_pick_f rfl rfl) ?_)
                    refine snil ?_
                    refine ccond rfl (fun _ => ?_) (fun hx => Bool.noConfusion hx)
                    refine cseq ?_
                    refine cregion ?_
                    first | (refine sv rfl (opv_mv rfl) ?_) | (refine sv rfl (opv_mvt rfl) ?_)
                    first | (refine sv rfl (opv_as rfl) ?_) | (refine sv rfl (opv_ast rfl) ?_)
                    refine snil ?_
                    refine cret ?_
                    refine then_ret ?_
                    refine ⟨Or.inr rfl, _, _, _, (resVs_cons (ResV.tmp _ _ rfl) resVs_nil), (pubA_id rfl), ?_⟩
                    first | rfl | (refine avb ?_; simp_all; done))
              · replace hg3 := bnot_f hg3
                first
                | (exfalso; first | omega | contradiction | (simp_all; done))
                | (
                    refine son rfl rfl rfl ?_
                    first | (refine sv rfl (opv_mv rfl) ?_) | (refine sv rfl (opv_mvt rfl) ?_)
                    refine son rfl rfl rfl ?_
                    first | (refine sv rfl (opv_len_sl si22 rfl) ?_) | (refine sv rfl (opv_len_nil si22 rfl) ?_) | (refine sv rfl (opv_len_ls si22 rfl rfl (by first | rfl | omega)) ?_)
                    refine son rfl rfl rfl ?_
                    refine sv rfl (opv_ieql rfl rfl) ?_
                    first | (refine sv rfl (opv_pick_t rfl rfl) ?_) | (refine sv rfl (opv_pick_f rfl rfl) ?_)
                    first | (refine sv rfl (opv_mv rfl) ?_) | (refine sv rfl (opv_mvt rfl) ?_)
                    refine ssplit 40 rfl (fun hg4 => ?_) (fun hg4 => ?_)
                    · replace hg4 := of_decide_eq_true hg4
                      first
                      | (exfalso; first | omega | contradiction | (simp_all; done))
                      | (
                          refine soff rfl rfl rfl rfl ?_
                          refine soff rfl rfl rfl rfl ?_
                          refine soff rfl rfl rfl rfl ?_
                          first | (refine sv rfl (opv_pick_t rfl rfl) ?_) | (refine sv rfl (opv_pick_f rfl rfl) ?_)
                          refine snil ?_
                          refine ccond rfl (fun _ => ?_) (fun hx => Bool.noConfusion hx)
                          refine cseq ?_
                          refine cregion ?_
                          first | (refine sv rfl (opv_mv rfl) ?_) | (refine sv rfl (opv_mvt rfl) ?_)
                          first | (refine sv rfl (opv_as rfl) ?_) | (refine sv rfl (opv_ast rfl) ?_)
                          refine snil ?_
                          refine cret ?_
                          refine then_ret ?_
                          refine ⟨Or.inr rfl, _, _, _, (resVs_cons (ResV.tmp _ _ rfl) resVs_nil), (pubA_id rfl), ?_⟩
                          first | rfl | (refine avb ?_; simp_all; done))
                    · replace hg4 := of_decide_eq_false hg4
                      have hk := ne_nil_of hg4
                      have E1 := meet_has (lo := lo) (hi := hi) (o := o) (lo1 := lo1) (hi1 := hi1) (o1 := o1) hk
                      have E2 := meet_has (lo := lo1) (hi := hi1) (o := o1) (lo1 := lo2) (hi1 := hi2) (o1 := o2) hk
                      have E3 := meet_has (lo := (mL lo hi o lo1 hi1 o1)) (hi := (mH lo hi o lo1 hi1 o1)) (o := (mO lo hi o lo1 hi1 o1)) (lo1 := lo2) (hi1 := hi2) (o1 := o2) hk
                      have E4 := meet_has (lo := lo) (hi := hi) (o := o) (lo1 := (mL lo1 hi1 o1 lo2 hi2 o2)) (hi1 := (mH lo1 hi1 o1 lo2 hi2 o2)) (o1 := (mO lo1 hi1 o1 lo2 hi2 o2)) hk
                      first
                      | (exfalso; first | omega | contradiction | (simp_all; done))
                      | (
                          refine son rfl rfl rfl ?_
                          first | (refine sv rfl (opv_mv rfl) ?_) | (refine sv rfl (opv_mvt rfl) ?_)
                          refine son rfl rfl rfl ?_
                          first | (refine sv rfl (opv_len_sl si22 rfl) ?_) | (refine sv rfl (opv_len_nil si22 rfl) ?_) | (refine sv rfl (opv_len_ls si22 rfl rfl (by first | rfl | omega)) ?_)
                          refine son rfl rfl rfl ?_
                          refine sv rfl (opv_gtr rfl rfl) ?_
                          first | (refine sv rfl (opv_pick_t rfl rfl) ?_) | (refine sv rfl (opv_pick_f rfl rfl) ?_)
                          refine snil ?_
                          refine ccond rfl (fun hc5 => ?_) (fun hc5 => ?_)
                          · replace hc5 := of_decide_eq_true hc5
                            first
                            | (exfalso; first | omega | contradiction | (simp_all; done))
                            | (
                                refine cseq ?_
                                refine cregion ?_
                                first | (refine sv rfl (opv_mv rfl) ?_) | (refine sv rfl (opv_mvt rfl) ?_)
                                first | (refine sv rfl (opv_as rfl) ?_) | (refine sv rfl (opv_ast rfl) ?_)
                                refine snil ?_
                                refine cret ?_
                                refine then_ret ?_
                                refine ⟨Or.inr rfl, _, _, _, (resVs_cons (ResV.tmp _ _ rfl) resVs_nil), (pubA_id rfl), ?_⟩
                                first | rfl | (refine avb ?_; simp_all; done))
                          · replace hc5 := of_decide_eq_false hc5
                            first
                            | (exfalso; first | omega | contradiction | (simp_all; done))
                            | (
                                refine cskip ?_
                                refine then_normal ?_
                                refine cseq ?_
                                refine cregion ?_
                                first | (refine sv rfl (opv_loadN ti24 rfl (.lp _ _ _ rfl) (Nat.le_of_ble_eq_true rfl)) ?_) | (refine sv rfl (opv_loadN ti24 rfl (.cp _) (Nat.le_of_ble_eq_true rfl)) ?_)
                                first | (refine sv rfl (opv_loadN ti24 rfl (.lp _ _ _ rfl) (Nat.le_of_ble_eq_true rfl)) ?_) | (refine sv rfl (opv_loadN ti24 rfl (.cp _) (Nat.le_of_ble_eq_true rfl)) ?_)
                                refine scall1 rfl fn13 (opnds_cons rfl (opnds_cons rfl opnds_nil)) (pubC rfl) (meet_c) ?_
                                first | (refine sv rfl (opv_mv rfl) ?_) | (refine sv rfl (opv_mvt rfl) ?_)
                                refine sv rfl (opv_extract rfl rfl) ?_
                                refine sv rfl (opv_extract rfl rfl) ?_
                                refine salloc rfl zi24 ?_
                                first | (refine sstore sz24 rfl rfl rfl rfl (Nat.le_of_ble_eq_true rfl) ?_) | (refine sstore_ap sz24 rfl rfl rfl (by first | rfl | omega) rfl (List.all_eq_true.1 rfl) (by omega) (by omega) ?_)
                                first | (refine sv rfl (opv_as rfl) ?_) | (refine sv rfl (opv_ast rfl) ?_)
                                refine snil ?_
                                refine cseq ?_
                                refine cregion ?_
                                first | (refine sv rfl (opv_loadN ti24 rfl (.lp _ _ _ rfl) (Nat.le_of_ble_eq_true rfl)) ?_) | (refine sv rfl (opv_loadN ti24 rfl (.cp _) (Nat.le_of_ble_eq_true rfl)) ?_)
                                first | (refine sv rfl (opv_loadN ti24 rfl (.lp _ _ _ rfl) (Nat.le_of_ble_eq_true rfl)) ?_) | (refine sv rfl (opv_loadN ti24 rfl (.cp _) (Nat.le_of_ble_eq_true rfl)) ?_)
                                refine scall1 rfl fn13 (opnds_cons rfl (opnds_cons rfl opnds_nil)) (pubC rfl) (meet_c) ?_
                                first | (refine sv rfl (opv_mv rfl) ?_) | (refine sv rfl (opv_mvt rfl) ?_)
                                refine sv rfl (opv_extract rfl rfl) ?_
                                refine sv rfl (opv_extract rfl rfl) ?_
                                refine salloc rfl zi24 ?_
                                first | (refine sstore sz24 rfl rfl rfl rfl (Nat.le_of_ble_eq_true rfl) ?_) | (refine sstore_ap sz24 rfl rfl rfl (by first | rfl | omega) rfl (List.all_eq_true.1 rfl) (by omega) (by omega) ?_)
                                first | (refine sv rfl (opv_as rfl) ?_) | (refine sv rfl (opv_ast rfl) ?_)
                                refine snil ?_
                                refine cseq ?_
                                refine cregion ?_
                                first | (refine sv rfl (opv_loadN ti24 rfl (.lp _ _ _ rfl) (Nat.le_of_ble_eq_true rfl)) ?_) | (refine sv rfl (opv_loadN ti24 rfl (.cp _) (Nat.le_of_ble_eq_true rfl)) ?_)
                                first | (refine sv rfl (opv_loadN ti24 rfl (.lp _ _ _ rfl) (Nat.le_of_ble_eq_true rfl)) ?_) | (refine sv rfl (opv_loadN ti24 rfl (.cp _) (Nat.le_of_ble_eq_true rfl)) ?_)
                                refine scall1 rfl fn13 (opnds_cons rfl (opnds_cons rfl opnds_nil)) (pubC rfl) (meet_c) ?_
                                first | (refine sv rfl (opv_mv rfl) ?_) | (refine sv rfl (opv_mvt rfl) ?_)
                                refine sv rfl (opv_extract rfl rfl) ?_
                                refine sv rfl (opv_extract rfl rfl) ?_
                                refine salloc rfl zi24 ?_
                                first | (refine sstore sz24 rfl rfl rfl rfl (Nat.le_of_ble_eq_true rfl) ?_) | (refine sstore_ap sz24 rfl rfl rfl (by first | rfl | omega) rfl (List.all_eq_true.1 rfl) (by omega) (by omega) ?_)
                                first | (refine sv rfl (opv_as rfl) ?_) | (refine sv rfl (opv_ast rfl) ?_)
                                refine snil ?_
                                refine cseq ?_
                                refine cregion ?_
                                first | (refine sv rfl (opv_loadN ti24 rfl (.lp _ _ _ rfl) (Nat.le_of_ble_eq_true rfl)) ?_) | (refine sv rfl (opv_loadN ti24 rfl (.cp _) (Nat.le_of_ble_eq_true rfl)) ?_)
                                first | (refine sv rfl (opv_loadN ti24 rfl (.lp _ _ _ rfl) (Nat.le_of_ble_eq_true rfl)) ?_) | (refine sv rfl (opv_loadN ti24 rfl (.cp _) (Nat.le_of_ble_eq_true rfl)) ?_)
                                refine scall1 rfl fn13 (opnds_cons rfl (opnds_cons rfl opnds_nil)) (pubC rfl) (meet_c) ?_
                                first | (refine sv rfl (opv_mv rfl) ?_) | (refine sv rfl (opv_mvt rfl) ?_)
                                refine sv rfl (opv_extract rfl rfl) ?_
                                refine sv rfl (opv_extract rfl rfl) ?_
                                refine salloc rfl zi24 ?_
                                first | (refine sstore sz24 rfl rfl rfl rfl (Nat.le_of_ble_eq_true rfl) ?_) | (refine sstore_ap sz24 rfl rfl rfl (by first | rfl | omega) rfl (List.all_eq_true.1 rfl) (by omega) (by omega) ?_)
                                first | (refine sv rfl (opv_as rfl) ?_) | (refine sv rfl (opv_ast rfl) ?_)
                                refine snil ?_
                                refine cseq ?_
                                refine cregion ?_
                                first | (refine sv rfl (opv_loadN ti24 rfl (.lp _ _ _ rfl) (Nat.le_of_ble_eq_true rfl)) ?_) | (refine sv rfl (opv_loadN ti24 rfl (.cp _) (Nat.le_of_ble_eq_true rfl)) ?_)
                                first | (refine sv rfl (opv_mv rfl) ?_) | (refine sv rfl (opv_mvt rfl) ?_)
                                refine scall1 rfl fn29 (opnds_cons rfl (opnds_cons rfl opnds_nil)) (pubC rfl) (has_c) ?_
                                first | (refine sv rfl (opv_mv rfl) ?_) | (refine sv rfl (opv_mvt rfl) ?_)
                                refine ssplit 73 rfl (fun hg6 => ?_) (fun hg6 => ?_)
                                · first
                                  | (exfalso; first | omega | contradiction | (simp_all; done))
                                  | (
                                      refine son rfl rfl rfl ?_
                                      first | (refine sv rfl (opv_loadN ti24 rfl (.lp _ _ _ rfl) (Nat.le_of_ble_eq_true rfl)) ?_) | (refine sv rfl (opv_loadN ti24 rfl (.cp _) (Nat.le_of_ble_eq_true rfl)) ?_)
                                      refine son rfl rfl rfl ?_
                                      first | (refine sv rfl (opv_mv rfl) ?_) | (refine sv rfl (opv_mvt rfl) ?_)
                                      refine son rfl rfl rfl ?_
                                      refine scall1 rfl fn29 (opnds_cons rfl (opnds_cons rfl opnds_nil)) (pubC rfl) (has_c) ?_
                                      first | (refine sv rfl (opv_pick_t rfl rfl) ?_) | (refine sv rfl (opv_pick_f rfl rfl) ?_)
                                      first | (refine sv rfl (opv_mv rfl) ?_) | (refine sv rfl (opv_mvt rfl) ?_)
                                      refine ssplit 78 rfl (fun hg7 => ?_) (fun hg7 => ?_)
                                      · first
                                        | (exfalso; first | omega | contradiction | (simp_all; done))
                                        | (
                                            refine son rfl rfl rfl ?_
                                            first | (refine sv rfl (opv_loadN ti24 rfl (.lp _ _ _ rfl) (Nat.le_of_ble_eq_true rfl)) ?_) | (refine sv rfl (opv_loadN ti24 rfl (.cp _) (Nat.le_of_ble_eq_true rfl)) ?_)
                                            refine son rfl rfl rfl ?_
                                            first | (refine sv rfl (opv_mv rfl) ?_) | (refine sv rfl (opv_mvt rfl) ?_)
                                            refine son rfl rfl rfl ?_
                                            refine scall1 rfl fn29 (opnds_cons rfl (opnds_cons rfl opnds_nil)) (pubC rfl) (has_c) ?_
                                            first | (refine sv rfl (opv_pick_t rfl rfl) ?_) | (refine sv rfl (opv_pick_f rfl rfl) ?_)
                                            first | (refine sv rfl (opv_as rfl) ?_) | (refine sv rfl (opv_ast rfl) ?_)
                                            refine snil ?_
                                            refine cseq ?_
                                            refine cregion ?_
                                            first | (refine sv rfl (opv_mv rfl) ?_) | (refine sv rfl (opv_mvt rfl) ?_)
                                            first | (refine sv rfl (opv_mv rfl) ?_) | (refine sv rfl (opv_mvt rfl) ?_)
                                            refine ssplit 84 rfl (fun hg8 => ?_) (fun hg8 => ?_)
                                            · first
                                              | (exfalso; first | omega | contradiction | (simp_all; done))
                                              | (
                                                  refine son rfl rfl rfl ?_
                                                  first | (refine sv rfl (opv_mv rfl) ?_) | (refine sv rfl (opv_mvt rfl) ?_)
                                                  first | (refine sv rfl (opv_pick_t rfl rfl) ?_) | (refine sv rfl (opv_pick_f rfl rfl) ?_)
                                                  first | (refine sv rfl (opv_mv rfl) ?_) | (refine sv rfl (opv_mvt rfl) ?_)
                                                  refine ssplit 87 rfl (fun hg9 => ?_) (fun hg9 => ?_)
                                                  · first
                                                    | (exfalso; first | omega | contradiction | (simp_all; done))
                                                    | (
                                                        refine son rfl rfl rfl ?_
                                                        first | (refine sv rfl (opv_loadN ti24 rfl (.lp _ _ _ rfl) (Nat.le_of_ble_eq_true rfl)) ?_) | (refine sv rfl (opv_loadN ti24 rfl (.cp _) (Nat.le_of_ble_eq_true rfl)) ?_)
                                                        refine son rfl rfl rfl ?_
                                                        first | (refine sv rfl (opv_mv rfl) ?_) | (refine sv rfl (opv_mvt rfl) ?_)
                                                        refine son rfl rfl rfl ?_
                                                        refine scall1 rfl fn29 (opnds_cons rfl (opnds_cons rfl opnds_nil)) (pubC rfl) (has_c) ?_
                                                        first | (refine sv rfl (opv_pick_t rfl rfl) ?_) | (refine sv rfl (opv_pick_f rfl rfl) ?_)
                                                        first | (refine sv rfl (opv_as rfl) ?_) | (refine sv rfl (opv_ast rfl) ?_)
                                                        refine snil ?_
                                                        refine cseq ?_
                                                        refine cregion ?_
                                                        first | (refine sv rfl (opv_mv rfl) ?_) | (refine sv rfl (opv_mvt rfl) ?_)
                                                        first | (refine sv rfl (opv_mv rfl) ?_) | (refine sv rfl (opv_mvt rfl) ?_)
                                                        refine ssplit 93 rfl (fun hg10 => ?_) (fun hg10 => ?_)
                                                        · first
                                                          | (exfalso; first | omega | contradiction | (simp_all; done))
                                                          | (
                                                              refine son rfl rfl rfl ?_
                                                              first | (refine sv rfl (opv_mv rfl) ?_) | (refine sv rfl (opv_mvt rfl) ?_)
                                                              first | (refine sv rfl (opv_pick_t rfl rfl) ?_) | (refine sv rfl (opv_pick_f rfl rfl) ?_)
                                                              first | (refine sv rfl (opv_mv rfl) ?_) | (refine sv rfl (opv_mvt rfl) ?_)
                                                              refine ssplit 96 rfl (fun hg11 => ?_) (fun hg11 => ?_)
                                                              · first
                                                                | (exfalso; first | omega | contradiction | (simp_all; done))
                                                                | (
                                                                    refine son rfl rfl rfl ?_
                                                                    first | (refine sv rfl (opv_loadN ti24 rfl (.lp _ _ _ rfl) (Nat.le_of_ble_eq_true rfl)) ?_) | (refine sv rfl (opv_loadN ti24 rfl (.cp _) (Nat.le_of_ble_eq_true rfl)) ?_)
                                                                    refine son rfl rfl rfl ?_
                                                                    first | (refine sv rfl (opv_mv rfl) ?_) | (refine sv rfl (opv_mvt rfl) ?_)
                                                                    refine son rfl rfl rfl ?_
                                                                    refine scall1 rfl fn29 (opnds_cons rfl (opnds_cons rfl opnds_nil)) (pubC rfl) (has_c) ?_
                                                                    first | (refine sv rfl (opv_pick_t rfl rfl) ?_) | (refine sv rfl (opv_pick_f rfl rfl) ?_)
                                                                    first | (refine sv rfl (opv_as rfl) ?_) | (refine sv rfl (opv_ast rfl) ?_)
                                                                    refine snil ?_
                                                                    refine cseq ?_
                                                                    refine cregion ?_
                                                                    first | (refine sv rfl (opv_mv rfl) ?_) | (refine sv rfl (opv_mvt rfl) ?_)
                                                                    first | (refine sv rfl (opv_mv rfl) ?_) | (refine sv rfl (opv_mvt rfl) ?_)
                                                                    refine ssplit 102 rfl (fun hg12 => ?_) (fun hg12 => ?_)
                                                                    · first
                                                                      | (exfalso; first | omega | contradiction | (simp_all; done))
                                                                      | (
                                                                          refine son rfl rfl rfl ?_
                                                                          first | (refine sv rfl (opv_mv rfl) ?_) | (refine sv rfl (opv_mvt rfl) ?_)
                                                                          refine son rfl rfl rfl ?_
                                                                          first | (refine sv rfl (opv_mv rfl) ?_) | (refine sv rfl (opv_mvt rfl) ?_)
                                                                          refine son rfl rfl rfl ?_
                                                                          refine sv rfl (opv_beql Try.underlying4 rfl rfl) ?_
                                                                          first | (refine sv rfl (opv_pick_t rfl rfl) ?_) | (refine sv rfl (opv_pick_f rfl rfl) ?_)
                                                                          first | (refine sv rfl (opv_mv rfl) ?_) | (refine sv rfl (opv_mvt rfl) ?_)
                                                                          refine ssplit 107 rfl (fun hg13 => ?_) (fun hg13 => ?_)
                                                                          · first
                                                                            | (exfalso; first | omega | contradiction | (simp_all; done))
                                                                            | (
                                                                                refine son rfl rfl rfl ?_
                                                                                first | (refine sv rfl (opv_mv rfl) ?_) | (refine sv rfl (opv_mvt rfl) ?_)
                                                                                refine son rfl rfl rfl ?_
                                                                                first | (refine sv rfl (opv_mv rfl) ?_) | (refine sv rfl (opv_mvt rfl) ?_)
                                                                                refine son rfl rfl rfl ?_
                                                                                refine sv rfl (opv_beql Try.underlying4 rfl rfl) ?_
                                                                                first | (refine sv rfl (opv_pick_t rfl rfl) ?_) | (refine sv rfl (opv_pick_f rfl rfl) ?_)
                                                                                first | (refine sv rfl (opv_as rfl) ?_) | (refine sv rfl (opv_ast rfl) ?_)
                                                                                refine snil ?_
                                                                                refine cret ?_
                                                                                refine ⟨Or.inr rfl, _, _, _, (resVs_cons (ResV.tmp _ _ rfl) resVs_nil), (pubA_id rfl), ?_⟩
                                                                                first | rfl | (refine avb ?_; simp_all; done))
                                                                          · first
                                                                            | (exfalso; first | omega | contradiction | (simp_all; done))
                                                                            | (
                                                                                refine soff rfl rfl rfl rfl ?_
                                                                                refine soff rfl rfl rfl rfl ?_
                                                                                refine soff rfl rfl rfl rfl ?_
                                                                                first | (refine sv rfl (opv_pick_t rfl rfl) ?_) | (refine sv rfl (opv_pick_f rfl rfl) ?_)
                                                                                first | (refine sv rfl (opv_as rfl) ?_) | (refine sv rfl (opv_ast rfl) ?_)
                                                                                refine snil ?_
                                                                                refine cret ?_
                                                                                refine ⟨Or.inr rfl, _, _, _, (resVs_cons (ResV.tmp _ _ rfl) resVs_nil), (pubA_id rfl), ?_⟩
                                                                                first | rfl | (refine avb ?_; simp_all; done)))
                                                                    · first
                                                                      | (exfalso; first | omega | contradiction | (simp_all; done))
                                                                      | (
                                                                          refine soff rfl rfl rfl rfl ?_
                                                                          refine soff rfl rfl rfl rfl ?_
                                                                          refine soff rfl rfl rfl rfl ?_
                                                                          first | (refine sv rfl (opv_pick_t rfl rfl) ?_) | (refine sv rfl (opv_pick_f rfl rfl) ?_)
                                                                          first | (refine sv rfl (opv_mv rfl) ?_) | (refine sv rfl (opv_mvt rfl) ?_)
                                                                          refine soff rfl rfl rfl rfl ?_
                                                                          refine soff rfl rfl rfl rfl ?_
                                                                          refine soff rfl rfl rfl rfl ?_
                                                                          first | (refine sv rfl (opv_pick_t rfl rfl) ?_) | (refine sv rfl (opv_pick_f rfl rfl) ?_)
                                                                          first | (refine sv rfl (opv_as rfl) ?_) | (refine sv rfl (opv_ast rfl) ?_)
                                                                          refine snil ?_
                                                                          refine cret ?_
                                                                          refine ⟨Or.inr rfl, _, _, _, (resVs_cons (ResV.tmp _ _ rfl) resVs_nil), (pubA_id rfl), ?_⟩
                                                                          first | rfl | (refine avb ?_; simp_all; done)))
                                                              · first
                                                                | (exfalso; first | omega | contradiction | (simp_all; done))
                                                                | (
                                                                    refine soff rfl rfl rfl rfl ?_
                                                                    refine soff rfl rfl rfl rfl ?_
                                                                    refine soff rfl rfl rfl rfl ?_
                                                                    first | (refine sv rfl (opv_pick_t rfl rfl) ?_) | (refine sv rfl (opv_pick_f rfl rfl) ?_)
                                                                    first | (refine sv rfl (opv_as rfl) ?_) | (refine sv rfl (opv_ast rfl) ?_)
                                                                    refine snil ?_
                                                                    refine cseq ?_
                                                                    refine cregion ?_
                                                                    first | (refine sv rfl (opv_mv rfl) ?_) | (refine sv rfl (opv_mvt rfl) ?_)
                                                                    first | (refine sv rfl (opv_mv rfl) ?_) | (refine sv rfl (opv_mvt rfl) ?_)
                                                                    refine ssplit 102 rfl (fun hg14 => ?_) (fun hg14 => ?_)
                                                                    · first
                                                                      | (exfalso; first | omega | contradiction | (simp_all; done))
                                                                      | (
                                                                          refine son rfl rfl rfl ?_
                                                                          first | (refine sv rfl (opv_mv rfl) ?_) | (refine sv rfl (opv_mvt rfl) ?_)
                                                                          refine son rfl rfl rfl ?_
                                                                          first | (refine sv rfl (opv_mv rfl) ?_) | (refine sv rfl (opv_mvt rfl) ?_)
                                                                          refine son rfl rfl rfl ?_
                                                                          refine sv rfl (opv_beql Try.underlying4 rfl rfl) ?_
                                                                          first | (refine sv rfl (opv_pick_t rfl rfl) ?_) | (refine sv rfl (opv_pick_f rfl rfl) ?_)
                                                                          first | (refine sv rfl (opv_mv rfl) ?_) | (refine sv rfl (opv_mvt rfl) ?_)
                                                                          refine ssplit 107 rfl (fun hg15 => ?_) (fun hg15 => ?_)
                                                                          · first
                                                                            | (exfalso; first | omega | contradiction | (simp_all; done))
                                                                            | (
                                                                                refine son rfl rfl rfl ?_
                                                                                first | (refine sv rfl (opv_mv rfl) ?_) | (refine sv rfl (opv_mvt rfl) ?_)
                                                                                refine son rfl rfl rfl ?_
                                                                                first | (refine sv rfl (opv_mv rfl) ?_) | (refine sv rfl (opv_mvt rfl) ?_)
                                                                                refine son rfl rfl rfl ?_
                                                                                refine sv rfl (opv_beql Try.underlying4 rfl rfl) ?_
                                                                                first | (refine sv rfl (opv_pick_t rfl rfl) ?_) | (refine sv rfl (opv_pick_f rfl rfl) ?_)
                                                                                first | (refine sv rfl (opv_as rfl) ?_) | (refine sv rfl (opv_ast rfl) ?_)
                                                                                refine snil ?_
                                                                                refine cret ?_
                                                                                refine ⟨Or.inr rfl, _, _, _, (resVs_cons (ResV.tmp _ _ rfl) resVs_nil), (pubA_id rfl), ?_⟩
                                                                                first | rfl | (refine avb ?_; simp_all; done))
                                                                          · first
                                                                            | (exfalso; first | omega | contradiction | (simp_all; done))
                                                                            | (
                                                                                refine soff rfl rfl rfl rfl ?_
                                                                                refine soff rfl rfl rfl rfl ?_
                                                                                refine soff rfl rfl rfl rfl ?_
                                                                                first | (refine sv rfl (opv_pick_t rfl rfl) ?_) | (refine sv rfl (opv_pick_f rfl rfl) ?_)
                                                                                first | (refine sv rfl (opv_as rfl) ?_) | (refine sv rfl (opv_ast rfl) ?_)
                                                                                refine snil ?_
                                                                                refine cret ?_
                                                                                refine ⟨Or.inr rfl, _, _, _, (resVs_cons (ResV.tmp _ _ rfl) resVs_nil), (pubA_id rfl), ?_⟩
                                                                                first | rfl | (refine avb ?_; simp_all; done)))
                                                                    · first
                                                                      | (exfalso; first | omega | contradiction | (simp_all; done))
                                                                      | (
                                                                          refine soff rfl rfl rfl rfl ?_
                                                                          refine soff rfl rfl rfl rfl ?_
                                                                          refine soff rfl rfl rfl rfl ?_
                                                                          first | (refine sv rfl (opv_pick_t rfl rfl) ?_) | (refine sv rfl (opv_pick_f rfl rfl) ?_)
                                                                          first | (refine sv rfl (opv_mv rfl) ?_) | (refine sv rfl (opv_mvt rfl) ?_)
                                                                          refine soff rfl rfl rfl rfl ?_
                                                                          refine soff rfl rfl rfl rfl ?_
                                                                          refine soff rfl rfl rfl rfl ?_
                                                                          first | (refine sv rfl (opv_pick_t rfl rfl) ?_) | (refine sv rfl (opv_pick_f rfl rfl) ?_)
                                                                          first | (refine sv rfl (opv_as rfl) ?_) | (refine sv rfl (opv_ast rfl) ?_)
                                                                          refine snil ?_
                                                                          refine cret ?_
                                                                          refine ⟨Or.inr rfl, _, _, _, (resVs_cons (ResV.tmp _ _ rfl) resVs_nil), (pubA_id rfl), ?_⟩
                                                                          first | rfl | (refine avb ?_; simp_all; done))))
                                                        · first
                                                          | (exfalso; first | omega | contradiction | (simp_all; done))
                                                          | (
                                                              refine soff rfl rfl rfl rfl ?_
                                                              first | (refine sv rfl (opv_pick_t rfl rfl) ?_) | (refine sv rfl (opv_pick_f rfl rfl) ?_)
                                                              first | (refine sv rfl (opv_mv rfl) ?_) | (refine sv rfl (opv_mvt rfl) ?_)
                                                              refine soff rfl rfl rfl rfl ?_
                                                              refine soff rfl rfl rfl rfl ?_
                                                              refine soff rfl rfl rfl rfl ?_
                                                              first | (refine sv rfl (opv_pick_t rfl rfl) ?_) | (refine sv rfl (opv_pick_f rfl rfl) ?_)
                                                              first | (refine sv rfl (opv_as rfl) ?_) | (refine sv rfl (opv_ast rfl) ?_)
                                                              refine snil ?_
                                                              refine cseq ?_
                                                              refine cregion ?_
                                                              first | (refine sv rfl (opv_mv rfl) ?_) | (refine sv rfl (opv_mvt rfl) ?_)
                                                              first | (refine sv rfl (opv_mv rfl) ?_) | (refine sv rfl (opv_mvt rfl) ?_)
                                                              refine ssplit 102 rfl (fun hg16 => ?_) (fun hg16 => ?_)
                                                              · first
                                                                | (exfalso; first | omega | contradiction | (simp_all; done))
                                                                | (
                                                                    refine son rfl rfl rfl ?_
                                                                    first | (refine sv rfl (opv_mv rfl) ?_) | (refine sv rfl (opv_mvt rfl) ?_)
                                                                    refine son rfl rfl rfl ?_
                                                                    first | (refine sv rfl (opv_mv rfl) ?_) | (refine sv rfl (opv_mvt rfl) ?_)
                                                                    refine son rfl rfl rfl ?_
                                                                    refine sv rfl (opv_beql Try.underlying4 rfl rfl) ?_
                                                                    first | (refine sv rfl (opv_pick_t rfl rfl) ?_) | (refine sv rfl (opv_pick_f rfl rfl) ?_)
                                                                    first | (refine sv rfl (opv_mv rfl) ?_) | (refine sv rfl (opv_mvt rfl) ?_)
                                                                    refine ssplit 107 rfl (fun hg17 => ?_) (fun hg17 => ?_)
                                                                    · first
                                                                      | (exfalso; first | omega | contradiction | (simp_all; done))
                                                                      | (
                                                                          refine son rfl rfl rfl ?_
                                                                          first | (refine sv rfl (opv_mv rfl) ?_) | (refine sv rfl (opv_mvt rfl) ?_)
                                                                          refine son rfl rfl rfl ?_
                                                                          first | (refine sv rfl (opv_mv rfl) ?_) | (refine sv rfl (opv_mvt rfl) ?_)
                                                                          refine son rfl rfl rfl ?_
                                                                          refine sv rfl (opv_beql Try.underlying4 rfl rfl) ?_
                                                                          first | (refine sv rfl (opv_pick_t rfl rfl) ?_) | (refine sv rfl (opv_pick_f rfl rfl) ?_)
                                                                          first | (refine sv rfl (opv_as rfl) ?_) | (refine sv rfl (opv_ast rfl) ?_)
                                                                          refine snil ?_
                                                                          refine cret ?_
                                                                          refine ⟨Or.inr rfl, _, _, _, (resVs_cons (ResV.tmp _ _ rfl) resVs_nil), (pubA_id rfl), ?_⟩
                                                                          first | rfl | (refine avb ?_; simp_all; done))
                                                                    · first
                                                                      | (exfalso; first | omega | contradiction | (simp_all; done))
                                                                      | (
                                                                          refine soff rfl rfl rfl rfl ?_
                                                                          refine soff rfl rfl rfl rfl ?_
                                                                          refine soff rfl rfl rfl rfl ?_
                                                                          first | (refine sv rfl (opv_pick_t rfl rfl) ?_) | (refine sv rfl (opv_pick_f rfl rfl) ?_)
                                                                          first | (refine sv rfl (opv_as rfl) ?_) | (refine sv rfl (opv_ast rfl) ?_)
                                                                          refine snil ?_
                                                                          refine cret ?_
                                                                          refine ⟨Or.inr rfl, _, _, _, (resVs_cons (ResV.tmp _ _ rfl) resVs_nil), (pubA_id rfl), ?_⟩
                                                                          first | rfl | (refine avb ?_; simp_all; done)))
                                                              · first
                                                                | (exfalso; first | omega | contradiction | (simp_all; done))
                                                                | (
                                                                    refine soff rfl rfl rfl rfl ?_
                                                                    refine soff rfl rfl rfl rfl ?_
                                                                    refine soff rfl rfl rfl rfl ?_
                                                                    first | (refine sv rfl (opv_pick_t rfl rfl) ?_) | (refine sv rfl (opv_pick_f rfl rfl) ?_)
                                                                    first | (refine sv rfl (opv_mv rfl) ?_) | (refine sv rfl (opv_mvt rfl) ?_)
                                                                    refine soff rfl rfl rfl rfl ?_
                                                                    refine soff rfl rfl rfl rfl ?_
                                                                    refine soff rfl rfl rfl rfl ?_
                                                                    first | (refine sv rfl (opv_pick_t rfl rfl) ?_) | (refine sv rfl (opv_pick_f rfl rfl) ?_)
                                                                    first | (refine sv rfl (opv_as rfl) ?_) | (refine sv rfl (opv_ast rfl) ?_)
                                                                    refine snil ?_
                                                                    refine cret ?_
                                                                    refine ⟨Or.inr rfl, _, _, _, (resVs_cons (ResV.tmp _ _ rfl) resVs_nil), (pubA_id rfl), ?_⟩
                                                                    first | rfl | (refine avb ?_; simp_all; done))))
                                                  · first
                                                    | (exfalso; first | omega | contradiction | (simp_all; done))
                                                    | (
                                                        refine soff rfl rfl rfl rfl ?_
                                                        refine soff rfl rfl rfl rfl ?_
                                                        refine soff rfl rfl rfl rfl ?_
                                                        first | (refine sv rfl (opv_pick_t rfl rfl) ?_) | (refine sv rfl (opv_pick_f rfl rfl) ?_)
                                                        first | (refine sv rfl (opv_as rfl) ?_) | (refine sv rfl (opv_ast rfl) ?_)
                                                        refine snil ?_
                                                        refine cseq ?_
                                                        refine cregion ?_
                                                        first | (refine sv rfl (opv_mv rfl) ?_) | (refine sv rfl (opv_mvt rfl) ?_)
                                                        first | (refine sv rfl (opv_mv rfl) ?_) | (refine sv rfl (opv_mvt rfl) ?_)
                                                        refine ssplit 93 rfl (fun hg18 => ?_) (fun hg18 => ?_)
                                                        · first
                                                          | (exfalso; first | omega | contradiction | (simp_all; done))
                                                          | (
                                                              refine son rfl rfl rfl ?_
                                                              first | (refine sv rfl (opv_mv rfl) ?_) | (refine sv rfl (opv_mvt rfl) ?_)
                                                              first | (refine sv rfl (opv_pick_t rfl rfl) ?_) | (refine sv rfl (opv_pick_f rfl rfl) ?_)
                                                              first | (refine sv rfl (opv_mv rfl) ?_) | (refine sv rfl (opv_mvt rfl) ?_)
                                                              refine ssplit 96 rfl (fun hg19 => ?_) (fun hg19 => ?_)
                                                              · first
                                                                | (exfalso; first | omega | contradiction | (simp_all; done))
                                                                | (
                                                                    refine son rfl rfl rfl ?_
                                                                    first | (refine sv rfl (opv_loadN ti24 rfl (.lp _ _ _ rfl) (Nat.le_of_ble_eq_true rfl)) ?_) | (refine sv rfl (opv_loadN ti24 rfl (.cp _) (Nat.le_of_ble_eq_true rfl)) ?_)
                                                                    refine son rfl rfl rfl ?_
                                                                    first | (refine sv rfl (opv_mv rfl) ?_) | (refine sv rfl (opv_mvt rfl) ?_)
                                                                    refine son rfl rfl rfl ?_
                                                                    refine scall1 rfl fn29 (opnds_cons rfl (opnds_cons rfl opnds_nil)) (pubC rfl) (has_c) ?_
                                                                    first | (refine sv rfl (opv_pick_t rfl rfl) ?_) | (refine sv rfl (opv_pick_f rfl rfl) ?_)
                                                                    first | (refine sv rfl (opv_as rfl) ?_) | (refine sv rfl (opv_ast rfl) ?_)
                                                                    refine snil ?_
                                                                    refine cseq ?_
                                                                    refine cregion ?_
                                                                    first | (refine sv rfl (opv_mv rfl) ?_) | (refine sv rfl (opv_mvt rfl) ?_)
                                                                    first | (refine sv rfl (opv_mv rfl) ?_) | (refine sv rfl (opv_mvt rfl) ?_)
                                                                    refine ssplit 102 rfl (fun hg20 => ?_) (fun hg20 => ?_)
                                                                    · first
                                                                      | (exfalso; first | omega | contradiction | (simp_all; done))
                                                                      | (
                                                                          refine son rfl rfl rfl ?_
                                                                          first | (refine sv rfl (opv_mv rfl) ?_) | (refine sv rfl (opv_mvt rfl) ?_)
                                                                          refine son rfl rfl rfl ?_
                                                                          first | (refine sv rfl (opv_mv rfl) ?_) | (refine sv rfl (opv_mvt rfl) ?_)
                                                                          refine son rfl rfl rfl ?_
                                                                          refine sv rfl (opv_beql Try.underlying4 rfl rfl) ?_
                                                                          first | (refine sv rfl (opv_pick_t rfl rfl) ?_) | (refine sv rfl (opv_pick_f rfl rfl) ?_)
                                                                          first | (refine sv rfl (opv_mv rfl) ?_) | (refine sv rfl (opv_mvt rfl) ?_)
                                                                          refine ssplit 107 rfl (fun hg21 => ?_) (fun hg21 => ?_)
                                                                          · first
                                                                            | (exfalso; first | omega | contradiction | (simp_all; done))
                                                                            | (
                                                                                refine son rfl rfl rfl ?_
                                                                                first | (refine sv rfl (opv_mv rfl) ?_) | (refine sv rfl (opv_mvt rfl) ?_)
                                                                                refine son rfl rfl rfl ?_
                                                                                first | (refine sv rfl (opv_mv rfl) ?_) | (refine sv rfl (opv_mvt rfl) ?_)
                                                                                refine son rfl rfl rfl ?_
                                                                                refine sv rfl (opv_beql Try.underlying4 rfl rfl) ?_
                                                                                first | (refine sv rfl (opv_pick_t rfl rfl) ?_) | (refine sv rfl (opv_pick_f rfl rfl) ?_)
                                                                                first | (refine sv rfl (opv_as rfl) ?_) | (refine sv rfl (opv_ast rfl) ?_)
                                                                                refine snil ?_
                                                                                refine cret ?_
                                                                                refine ⟨Or.inr rfl, _, _, _, (resVs_cons (ResV.tmp _ _ rfl) resVs_nil), (pubA_id rfl), ?_⟩
                                                                                first | rfl | (refine avb ?_; simp_all; done))
                                                                          · first
                                                                            | (exfalso; first | omega | contradiction | (simp_all; done))
                                                                            | (
                                                                                refine soff rfl rfl rfl rfl ?_
                                                                                refine soff rfl rfl rfl rfl ?_
                                                                                refine soff rfl rfl rfl rfl ?_
                                                                                first | (refine sv rfl (opv_pick_t rfl rfl) ?_) | (refine sv rfl (opv_pick_f rfl rfl) ?_)
                                                                                first | (refine sv rfl (opv_as rfl) ?_) | (refine sv rfl (opv_ast rfl) ?_)
                                                                                refine snil ?_
                                                                                refine cret ?_
                                                                                refine ⟨Or.inr rfl, _, _, _, (resVs_cons (ResV.tmp _ _ rfl) resVs_nil), (pubA_id rfl), ?_⟩
                                                                                first | rfl | (refine avb ?_; simp_all; done)))
                                                                    · first
                                                                      | (exfalso; first | omega | contradiction | (simp_all; done))
                                                                      | (
                                                                          refine soff rfl rfl rfl rfl ?_
                                                                          refine soff rfl rfl rfl rfl ?_
                                                                          refine soff rfl rfl rfl rfl ?_
                                                                          first | (refine sv rfl (opv_pick_t rfl rfl) ?_) | (refine sv rfl (opv_pick_f rfl rfl) ?_)
                                                                          first | (refine sv rfl (opv_mv rfl) ?_) | (refine sv rfl (opv_mvt rfl) ?_)
                                                                          refine soff rfl rfl rfl rfl ?_
                                                                          refine soff rfl rfl rfl rfl ?_
                                                                          refine soff rfl rfl rfl rfl ?_
                                                                          first | (refine sv rfl (opv_pick_t rfl rfl) ?_) | (refine sv rfl (opv_pick_f rfl rfl) ?_)
                                                                          first | (refine sv rfl (opv_as rfl) ?_) | (refine sv rfl (opv_ast rfl) ?_)
                                                                          refine snil ?_
                                                                          refine cret ?_
                                                                          refine ⟨Or.inr rfl, _, _, _, (resVs_cons (ResV.tmp _ _ rfl) resVs_nil), (pubA_id rfl), ?_⟩
                                                                          first | rfl | (refine avb ?_; simp_all; done)))
                                                              · first
                                                                | (exfalso; first | omega | contradiction | (simp_all; done))
                                                                | (
                                                                    refine soff rfl rfl rfl rfl ?_
                                                                    refine soff rfl rfl rfl rfl ?_
                                                                    refine soff rfl rfl rfl rfl ?_
                                                                    first | (refine sv rfl (opv_pick_t rfl rfl) ?_) | (refine sv rfl (opv_pick_f rfl rfl) ?_)
                                                                    first | (refine sv rfl (opv_as rfl) ?_) | (refine sv rfl (opv_ast rfl) ?_)
                                                                    refine snil ?_
                                                                    refine cseq ?_
                                                                    refine cregion ?_
                                                                    first | (refine sv rfl (opv_mv rfl) ?_) | (refine sv rfl (opv_mvt rfl) ?_)
                                                                    first | (refine sv rfl (opv_mv rfl) ?_) | (refine sv rfl (opv_mvt rfl) ?_)
                                                                    refine ssplit 102 rfl (fun hg22 => ?_) (fun hg22 => ?_)
                                                                    · first
                                                                      | (exfalso; first | omega | contradiction | (simp_all; done))
                                                                      | (
                                                                          refine son rfl rfl rfl ?_
                                                                          first | (refine sv rfl (opv_mv rfl) ?_) | (refine sv rfl (opv_mvt rfl) ?_)
                                                                          refine son rfl rfl rfl ?_
                                                                          first | (refine sv rfl (opv_mv rfl) ?_) | (refine sv rfl (opv_mvt rfl) ?_)
                                                                          refine son rfl rfl rfl ?_
                                                                          refine sv rfl (opv_beql Try.underlying4 rfl rfl) ?_
                                                                          first | (refine sv rfl (opv_pick_t rfl rfl) ?_) | (refine sv rfl (opv_pick_f rfl rfl) ?_)
                                                                          first | (refine sv rfl (opv_mv rfl) ?_) | (refine sv rfl (opv_mvt rfl) ?_)
                                                                          refine ssplit 107 rfl (fun hg23 => ?_) (fun hg23 => ?_)
                                                                          · first
                                                                            | (exfalso; first | omega | contradiction | (simp_all; done))
                                                                            | (
                                                                                refine son rfl rfl rfl ?_
                                                                                first | (refine sv rfl (opv_mv rfl) ?_) | (refine sv rfl (opv_mvt rfl) ?_)
                                                                                refine son rfl rfl rfl ?_
                                                                                first | (refine sv rfl (opv_mv rfl) ?_) | (refine sv rfl (opv_mvt rfl) ?_)
                                                                                refine son rfl rfl rfl ?_
                                                                                refine sv rfl (opv_beql Try.underlying4 rfl rfl) ?_
                                                                                first | (refine sv rfl (opv_pick_t rfl rfl) ?_) | (refine sv rfl (opv_pick_f rfl rfl) ?_)
                                                                                first | (refine sv rfl (opv_as rfl) ?_) | (refine sv rfl (opv_ast rfl) ?_)
                                                                                refine snil ?_
                                                                                refine cret ?_
                                                                                refine ⟨Or.inr rfl, _, _, _, (resVs_cons (ResV.tmp _ _ rfl) resVs_nil), (pubA_id rfl), ?_⟩
                                                                                first | rfl | (refine avb ?_; simp_all; done))
                                                                          · first
                                                                            | (exfalso; first | omega | contradiction | (simp_all; done))
                                                                            | (
                                                                                refine soff rfl rfl rfl rfl ?_
                                                                                refine soff rfl rfl rfl rfl ?_
                                                                                refine soff rfl rfl rfl rfl ?_
                                                                                first | (refine sv rfl (opv_pick_t rfl rfl) ?_) | (refine sv rfl (opv_pick_f rfl rfl) ?_)
                                                                                first | (refine sv rfl (opv_as rfl) ?_) | (refine sv rfl (opv_ast rfl) ?_)
                                                                                refine snil ?_
                                                                                refine cret ?_
                                                                                refine ⟨Or.inr rfl, _, _, _, (resVs_cons (ResV.tmp _ _ rfl) resVs_nil), (pubA_id rfl), ?_⟩
                                                                                first | rfl | (refine avb ?_; simp_all; done)))
                                                                    · first
                                                                      | (exfalso; first | omega | contradiction | (simp_all; done))
                                                                      | (
                                                                          refine soff rfl rfl rfl rfl ?_
                                                                          refine soff rfl rfl rfl rfl ?_
                                                                          refine soff rfl rfl rfl rfl ?_
                                                                          first | (refine sv rfl (opv_pick_t rfl rfl) ?_) | (refine sv rfl (opv_pick_f rfl rfl) ?_)
                                                                          first | (refine sv rfl (opv_mv rfl) ?_) | (refine sv rfl (opv_mvt rfl) ?_)
                                                                          refine soff rfl rfl rfl rfl ?_
                                                                          refine soff rfl rfl rfl rfl ?_
                                                                          refine soff rfl rfl rfl rfl ?_
                                                                          first | (refine sv rfl (opv_pick_t rfl rfl) ?_) | (refine sv rfl (opv_pick_f rfl rfl) ?_)
                                                                          first | (refine sv rfl (opv_as rfl) ?_) | (refine sv rfl (opv_ast rfl) ?_)
                                                                          refine snil ?_
                                                                          refine cret ?_
                                                                          refine ⟨Or.inr rfl, _, _, _, (resVs_cons (ResV.tmp _ _ rfl) resVs_nil), (pubA_id rfl), ?_⟩
                                                                          first | rfl | (refine avb ?_; simp_all; done))))
                                                        · first
                                                          | (exfalso; first | omega | contradiction | (simp_all; done))
                                                          | (
                                                              refine soff rfl rfl rfl rfl ?_
                                                              first | (refine sv rfl (opv_pick_t rfl rfl) ?_) | (refine sv rfl (opv_pick_f rfl rfl) ?_)
                                                              first | (refine sv rfl (opv_mv rfl) ?_) | (refine sv rfl (opv_mvt rfl) ?_)
                                                              refine soff rfl rfl rfl rfl ?_
                                                              refine soff rfl rfl rfl rfl ?_
                                                              refine soff rfl rfl rfl rfl ?_
                                                              first | (refine sv rfl (opv_pick_t rfl rfl) ?_) | (refine sv rfl (opv_pick_f rfl rfl) ?_)
                                                              first | (refine sv rfl (opv_as rfl) ?_) | (refine sv rfl (opv_ast rfl) ?_)
                                                              refine snil ?_
                                                              refine cseq ?_
                                                              refine cregion ?_
                                                              first | (refine sv rfl (opv_mv rfl) ?_) | (refine sv rfl (opv_mvt rfl) ?_)
                                                              first | (refine sv rfl (opv_mv rfl) ?_) | (refine sv rfl (opv_mvt rfl) ?_)
                                                              refine ssplit 102 rfl (fun hg24 => ?_) (fun hg24 => ?_)
                                                              · first
                                                                | (exfalso; first | omega | contradiction | (simp_all; done))
                                                                | (
                                                                    refine son rfl rfl rfl ?_
                                                                    first | (refine sv rfl (opv_mv rfl) ?_) | (refine sv rfl (opv_mvt rfl) ?_)
                                                                    refine son rfl rfl rfl ?_
                                                                    first | (refine sv rfl (opv_mv rfl) ?_) | (refine sv rfl (opv_mvt rfl) ?_)
                                                                    refine son rfl rfl rfl ?_
                                                                    refine sv rfl (opv_beql Try.underlying4 rfl rfl) ?_
                                                                    first | (refine sv rfl (opv_pick_t rfl rfl) ?_) | (refine sv rfl (opv_pick_f rfl rfl) ?_)
                                                                    first | (refine sv rfl (opv_mv rfl) ?_) | (refine sv rfl (opv_mvt rfl) ?_)
                                                                    refine ssplit 107 rfl (fun hg25 => ?_) (fun hg25 => ?_)
                                                                    · first
                                                                      | (exfalso; first | omega | contradiction | (simp_all; done))
                                                                      | (
                                                                          refine son rfl rfl rfl ?_
                                                                          first | (refine sv rfl (opv_mv rfl) ?_) | (refine sv rfl (opv_mvt rfl) ?_)
                                                                          refine son rfl rfl rfl ?_
                                                                          first | (refine sv rfl (opv_mv rfl) ?_) | (refine sv rfl (opv_mvt rfl) ?_)
                                                                          refine son rfl rfl rfl ?_
                                                                          refine sv rfl (opv_beql Try.underlying4 rfl rfl) ?_
                                                                          first | (refine sv rfl (opv_pick_t rfl rfl) ?_) | (refine sv rfl (opv_pick_f rfl rfl) ?_)
                                                                          first | (refine sv rfl (opv_as rfl) ?_) | (refine sv rfl (opv_ast rfl) ?_)
                                                                          refine snil ?_
                                                                          refine cret ?_
                                                                          refine ⟨Or.inr rfl, _, _, _, (resVs_cons (ResV.tmp _ _ rfl) resVs_nil), (pubA_id rfl), ?_⟩
                                                                          first | rfl | (refine avb ?_; simp_all; done))
                                                                    · first
                                                                      | (exfalso; first | omega | contradiction | (simp_all; done))
                                                                      | (
                                                                          refine soff rfl rfl rfl rfl ?_
                                                                          refine soff rfl rfl rfl rfl ?_
                                                                          refine soff rfl rfl rfl rfl ?_
                                                                          first | (refine sv rfl (opv_pick_t rfl rfl) ?_) | (refine sv rfl (opv_pick_f rfl rfl) ?_)
                                                                          first | (refine sv rfl (opv_as rfl) ?_) | (refine sv rfl (opv_ast rfl) ?_)
                                                                          refine snil ?_
                                                                          refine cret ?_
                                                                          refine ⟨Or.inr rfl, _, _, _, (resVs_cons (ResV.tmp _ _ rfl) resVs_nil), (pubA_id rfl), ?_⟩
                                                                          first | rfl | (refine avb ?_; simp_all; done)))
                                                              · first
                                                                | (exfalso; first | omega | contradiction | (simp_all; done))
                                                                | (
                                                                    refine soff rfl rfl rfl rfl ?_
                                                                    refine soff rfl rfl rfl rfl ?_
                                                                    refine soff rfl rfl rfl rfl ?_
                                                                    first | (refine sv rfl (opv_pick_t rfl rfl) ?_) | (refine sv rfl (opv_pick_f rfl rfl) ?_)
                                                                    first | (refine sv rfl (opv_mv rfl) ?_) | (refine sv rfl (opv_mvt rfl) ?_)
                                                                    refine soff rfl rfl rfl rfl ?_
                                                                    refine soff rfl rfl rfl rfl ?_
                                                                    refine soff rfl rfl rfl rfl ?_
                                                                    first | (refine sv rfl (opv_pick_t rfl rfl) ?_) | (refine sv rfl (opv_pick_f rfl rfl) ?_)
                                                                    first | (refine sv rfl (opv_as rfl) ?_) | (refine sv rfl (opv_ast rfl) ?_)
                                                                    refine snil ?_
                                                                    refine cret ?_
                                                                    refine ⟨Or.inr rfl, _, _, _, (resVs_cons (ResV.tmp _ _ rfl) resVs_nil), (pubA_id rfl), ?_⟩
                                                                    first | rfl | (refine avb ?_; simp_all; done)))))
                                            · first
                                              | (exfalso; first | omega | contradiction | (simp_all; done))
                                              | (
                                                  refine soff rfl rfl rfl rfl ?_
                                                  first | (refine sv rfl (opv_pick_t rfl rfl) ?_) | (refine sv rfl (opv_pick_f rfl rfl) ?_)
                                                  first | (refine sv rfl (opv_mv rfl) ?_) | (refine sv rfl (opv_mvt rfl) ?_)
                                                  refine soff rfl rfl rfl rfl ?_
                                                  refine soff rfl rfl rfl rfl ?_
                                                  refine soff rfl rfl rfl rfl ?_
                                                  first | (refine sv rfl (opv_pick_t rfl rfl) ?_) | (refine sv rfl (opv_pick_f rfl rfl) ?_)
                                                  first | (refine sv rfl (opv_as rfl) ?_) | (refine sv rfl (opv_ast rfl) ?_)
                                                  refine snil ?_
                                                  refine cseq ?_
                                                  refine cregion ?_
                                                  first | (refine sv rfl (opv_mv rfl) ?_) | (refine sv rfl (opv_mvt rfl) ?_)
                                                  first | (refine sv rfl (opv_mv rfl) ?_) | (refine sv rfl (opv_mvt rfl) ?_)
                                                  refine ssplit 93 rfl (fun hg26 => ?_) (fun hg26 => ?_)
                                                  · first
                                                    | (exfalso; first | omega | contradiction | (simp_all; done))
                                                    | (
                                                        refine son rfl rfl rfl ?_
                                                        first | (refine sv rfl (opv_mv rfl) ?_) | (refine sv rfl (opv_mvt rfl) ?_)
                                                        first | (refine sv rfl (opv_pick_t rfl rfl) ?_) | (refine sv rfl (opv_pick_f rfl rfl) ?_)
                                                        first | (refine sv rfl (opv_mv rfl) ?_) | (refine sv rfl (opv_mvt rfl) ?_)
                                                        refine ssplit 96 rfl (fun hg27 => ?_) (fun hg27 => ?_)
                                                        · first
                                                          | (exfalso; first | omega | contradiction | (simp_all; done))
                                                          | (
                                                              refine son rfl rfl rfl ?_
                                                              first | (refine sv rfl (opv_loadN ti24 rfl (.lp _ _ _ rfl) (Nat.le_of_ble_eq_true rfl)) ?_) | (refine sv rfl (opv_loadN ti24 rfl (.cp _) (Nat.le_of_ble_eq_true rfl)) ?_)
                                                              refine son rfl rfl rfl ?_
                                                              first | (refine sv rfl (opv_mv rfl) ?_) | (refine sv rfl (opv_mvt rfl) ?_)
                                                              refine son rfl rfl rfl ?_
                                                              refine scall1 rfl fn29 (opnds_cons rfl (opnds_cons rfl opnds_nil)) (pubC rfl) (has_c) ?_
                                                              first | (refine sv rfl (opv_pick_t rfl rfl) ?_) | (refine sv rfl (opv_pick_f rfl rfl) ?_)
                                                              first | (refine sv rfl (opv_as rfl) ?_) | (refine sv rfl (opv_ast rfl) ?_)
                                                              refine snil ?_
                                                              refine cseq ?_
                                                              refine cregion ?_
                                                              first | (refine sv rfl (opv_mv rfl) ?_) | (refine sv rfl (opv_mvt rfl) ?_)
                                                              first | (refine sv rfl (opv_mv rfl) ?_) | (refine sv rfl (opv_mvt rfl) ?_)
                                                              refine ssplit 102 rfl (fun hg28 => ?_) (fun hg28 => ?_)
                                                              · first
                                                                | (exfalso; first | omega | contradiction | (simp_all; done))
                                                                | (
                                                                    refine son rfl rfl rfl ?_
                                                                    first | (refine sv rfl (opv_mv rfl) ?_) | (refine sv rfl (opv_mvt rfl) ?_)
                                                                    refine son rfl rfl rfl ?_
                                                                    first | (refine sv rfl (opv_mv rfl) ?_) | (refine sv rfl (opv_mvt rfl) ?_)
                                                                    refine son rfl rfl rfl ?_
                                                                    refine sv rfl (opv_beql Try.underlying4 rfl rfl) ?_
                                                                    first | (refine sv rfl (opv_pick_t rfl rfl) ?_) | (refine sv rfl (opv_pick_f rfl rfl) ?_)
                                                                    first | (refine sv rfl (opv_mv rfl) ?_) | (refine sv rfl (opv_mvt rfl) ?_)
                                                                    refine ssplit 107 rfl (fun hg29 => ?_) (fun hg29 => ?_)
                                                                    · first
                                                                      | (exfalso; first | omega | contradiction | (simp_all; done))
                                                                      | (
                                                                          refine son rfl rfl rfl ?_
                                                                          first | (refine sv rfl (opv_mv rfl) ?_) | (refine sv rfl (opv_mvt rfl) ?_)
                                                                          refine son rfl rfl rfl ?_
                                                                          first | (refine sv rfl (opv_mv rfl) ?_) | (refine sv rfl (opv_mvt rfl) ?_)
                                                                          refine son rfl rfl rfl ?_
                                                                          refine sv rfl (opv_beql Try.underlying4 rfl rfl) ?_
                                                                          first | (refine sv rfl (opv_pick_t rfl rfl) ?_) | (refine sv rfl (opv_pick_f rfl rfl) ?_)
                                                                          first | (refine sv rfl (opv_as rfl) ?_) | (refine sv rfl (opv_ast rfl) ?_)
                                                                          refine snil ?_
                                                                          refine cret ?_
                                                                          refine ⟨Or.inr rfl, _, _, _, (resVs_cons (ResV.tmp _ _ rfl) resVs_nil), (pubA_id rfl), ?_⟩
                                                                          first | rfl | (refine avb ?_; simp_all; done))
                                                                    · first
                                                                      | (exfalso; first | omega | contradiction | (simp_all; done))
                                                                      | (
                                                                          refine soff rfl rfl rfl rfl ?_
                                                                          refine soff rfl rfl rfl rfl ?_
                                                                          refine soff rfl rfl rfl rfl ?_
                                                                          first | (refine sv rfl (opv_pick_t rfl rfl) ?_) | (refine sv rfl (opv_pick_f rfl rfl) ?_)
                                                                          first | (refine sv rfl (opv_as rfl) ?_) | (refine sv rfl (opv_ast rfl) ?_)
                                                                          refine snil ?_
                                                                          refine cret ?_
                                                                          refine ⟨Or.inr rfl, _, _, _, (resVs_cons (ResV.tmp _ _ rfl) resVs_nil), (pubA_id rfl), ?_⟩
                                                                          first | rfl | (refine avb ?_; simp_all; done)))
                                                              · first
                                                                | (exfalso; first | omega | contradiction | (simp_all; done))
                                                                | (
                                                                    refine soff rfl rfl rfl rfl ?_
                                                                    refine soff rfl rfl rfl rfl ?_
                                                                    refine soff rfl rfl rfl rfl ?_
                                                                    first | (refine sv rfl (opv_pick_t rfl rfl) ?_) | (refine sv rfl (opv_pick_f rfl rfl) ?_)
                                                                    first | (refine sv rfl (opv_mv rfl) ?_) | (refine sv rfl (opv_mvt rfl) ?_)
                                                                    refine soff rfl rfl rfl rfl ?_
                                                                    refine soff rfl rfl rfl rfl ?_
                                                                    refine soff rfl rfl rfl rfl ?_
                                                                    first | (refine sv rfl (opv_pick_t rfl rfl) ?_) | (refine sv rfl (opv_pick_f rfl rfl) ?_)
                                                                    first | (refine sv rfl (opv_as rfl) ?_) | (refine sv rfl (opv_ast rfl) ?_)
                                                                    refine snil ?_
                                                                    refine cret ?_
                                                                    refine ⟨Or.inr rfl, _, _, _, (resVs_cons (ResV.tmp _ _ rfl) resVs_nil), (pubA_id rfl), ?_⟩
                                                                    first | rfl | (refine avb ?_; simp_all; done)))
                                                        · first
                                                          | (exfalso; first | omega | contradiction | (simp_all; done))
                                                          | (
                                                              refine soff rfl rfl rfl rfl ?_
                                                              refine soff rfl rfl rfl rfl ?_
                                                              refine soff rfl rfl rfl rfl ?_
                                                              first | (refine sv rfl (opv_pick_t rfl rfl) ?_) | (refine sv rfl (opv_pick_f rfl rfl) ?_)
                                                              first | (refine sv rfl (opv_as rfl) ?_) | (refine sv rfl (opv_ast rfl) ?_)
                                                              refine snil ?_
                                                              refine cseq ?_
                                                              refine cregion ?_
                                                              first | (refine sv rfl (opv_mv rfl) ?_) | (refine sv rfl (opv_mvt rfl) ?_)
                                                              first | (refine sv rfl (opv_mv rfl) ?_) | (refine sv rfl (opv_mvt rfl) ?_)
                                                              refine ssplit 102 rfl (fun hg30 => ?_) (fun hg30 => ?_)
                                                              · first
                                                                | (exfalso; first | omega | contradiction | (simp_all; done))
                                                                | (
                                                                    refine son rfl rfl rfl ?_
                                                                    first | (refine sv rfl (opv_mv rfl) ?_) | (refine sv rfl (opv_mvt rfl) ?_)
                                                                    refine son rfl rfl rfl ?_
                                                                    first | (refine sv rfl (opv_mv rfl) ?_) | (refine sv rfl (opv_mvt rfl) ?_)
                                                                    refine son rfl rfl rfl ?_
                                                                    refine sv rfl (opv_beql Try.underlying4 rfl rfl) ?_
                                                                    first | (refine sv rfl (opv_pick_t rfl rfl) ?_) | (refine sv rfl (opv_pick_f rfl rfl) ?_)
                                                                    first | (refine sv rfl (opv_mv rfl) ?_) | (refine sv rfl (opv_mvt rfl) ?_)
                                                                    refine ssplit 107 rfl (fun hg31 => ?_) (fun hg31 => ?_)
                                                                    · first
                                                                      | (exfalso; first | omega | contradiction | (simp_all; done))
                                                                      | (
                                                                          refine son rfl rfl rfl ?_
                                                                          first | (refine sv rfl (opv_mv rfl) ?_) | (refine sv rfl (opv_mvt rfl) ?_)
                                                                          refine son rfl rfl rfl ?_
                                                                          first | (refine sv rfl (opv_mv rfl) ?_) | (refine sv rfl (opv_mvt rfl) ?_)
                                                                          refine son rfl rfl rfl ?_
                                                                          refine sv rfl (opv_beql Try.underlying4 rfl rfl) ?_
                                                                          first | (refine sv rfl (opv_pick_t rfl rfl) ?_) | (refine sv rfl (opv_pick_f rfl rfl) ?_)
                                                                          first | (refine sv rfl (opv_as rfl) ?_) | (refine sv rfl (opv_ast rfl) ?_)
                                                                          refine snil ?_
                                                                          refine cret ?_
                                                                          refine ⟨Or.inr rfl, _, _, _, (resVs_cons (ResV.tmp _ _ rfl) resVs_nil), (pubA_id rfl), ?_⟩
                                                                          first | rfl | (refine avb ?_; simp_all; done))
                                                                    · first
                                                                      | (exfalso; first | omega | contradiction | (simp_all; done))
                                                                      | (
                                                                          refine soff rfl rfl rfl rfl ?_
                                                                          refine soff rfl rfl rfl rfl ?_
                                                                          refine soff rfl rfl rfl rfl ?_
                                                                          first | (refine sv rfl (opv_pick_t rfl rfl) ?_) | (refine sv rfl (opv_pick_f rfl rfl) ?_)
                                                                          first | (refine sv rfl (opv_as rfl) ?_) | (refine sv rfl (opv_ast rfl) ?_)
                                                                          refine snil ?_
                                                                          refine cret ?_
                                                                          refine ⟨Or.inr rfl, _, _, _, (resVs_cons (ResV.tmp _ _ rfl) resVs_nil), (pubA_id rfl), ?_⟩
                                                                          first | rfl | (refine avb ?_; simp_all; done)))
                                                              · first
                                                                | (exfalso; first | omega | contradiction | (simp_all; done))
                                                                | (
                                                                    refine soff rfl rfl rfl rfl ?_
                                                                    refine soff rfl rfl rfl rfl ?_
                                                                    refine soff rfl rfl rfl rfl ?_
                                                                    first | (refine sv rfl (opv_pick_t rfl rfl) ?_) | (refine sv rfl (opv_pick_f rfl rfl) ?_)
                                                                    first | (refine sv rfl (opv_mv rfl) ?_) | (refine sv rfl (opv_mvt rfl) ?_)
                                                                    refine soff rfl rfl rfl rfl ?_
                                                                    refine soff rfl rfl rfl rfl ?_
                                                                    refine soff rfl rfl rfl rfl ?_
                                                                    first | (refine sv rfl (opv_pick_t rfl rfl) ?_) | (refine sv rfl (opv_pick_f rfl rfl) ?_)
                                                                    first | (refine sv rfl (opv_as rfl) ?_) | (refine sv rfl (opv_ast rfl) ?_)
                                                                    refine snil ?_
                                                                    refine cret ?_
                                                                    refine ⟨Or.inr rfl, _, _, _, (resVs_cons (ResV.tmp _ _ rfl) resVs_nil), (pubA_id rfl), ?_⟩
                                                                    first | rfl | (refine avb ?_; simp_all; done))))
                                                  · first
                                                    | (exfalso; first | omega | contradiction | (simp_all; done))
                                                    | (
                                                        refine soff rfl rfl rfl rfl ?_
                                                        first | (refine sv rfl (opv_pick_t rfl rfl) ?_) | (refine sv rfl (opv_pick_f rfl rfl) ?_)
                                                        first | (refine sv rfl (opv_mv rfl) ?_) | (refine sv rfl (opv_mvt rfl) ?_)
                                                        refine soff rfl rfl rfl rfl ?_
                                                        refine soff rfl rfl rfl rfl ?_
                                                        refine soff rfl rfl rfl rfl ?_
                                                        first | (refine sv rfl (opv_pick_t rfl rfl) ?_) | (refine sv rfl (opv_pick_f rfl rfl) ?_)
                                                        first | (refine sv rfl (opv_as rfl) ?_) | (refine sv rfl (opv_ast rfl) ?_)
                                                        refine snil ?_
                                                        refine cseq ?_
                                                        refine cregion ?_
                                                        first | (refine sv rfl (opv_mv rfl) ?_) | (refine sv rfl (opv_mvt rfl) ?_)
                                                        first | (refine sv rfl (opv_mv rfl) ?_) | (refine sv rfl (opv_mvt rfl) ?_)
                                                        refine ssplit 102 rfl (fun hg32 => ?_) (fun hg32 => ?_)
                                                        · first
                                                          | (exfalso; first | omega | contradiction | (simp_all; done))
                                                          | (
                                                              refine son rfl rfl rfl ?_
                                                              first | (refine sv rfl (opv_mv rfl) ?_) | (refine sv rfl (opv_mvt rfl) ?_)
                                                              refine son rfl rfl rfl ?_
                                                              first | (refine sv rfl (opv_mv rfl) ?_) | (refine sv rfl (opv_mvt rfl) ?_)
                                                              refine son rfl rfl rfl ?_
                                                              refine sv rfl (opv_beql Try.underlying4 rfl rfl) ?_
                                                              first | (refine sv rfl (opv_pick_t rfl rfl) ?_) | (refine sv rfl (opv_pick_f rfl rfl) ?_)
                                                              first | (refine sv rfl (opv_mv rfl) ?_) | (refine sv rfl (opv_mvt rfl) ?_)
                                                              refine ssplit 107 rfl (fun hg33 => ?_) (fun hg33 => ?_)
                                                              · first
                                                                | (exfalso; first | omega | contradiction | (simp_all; done))
                                                                | (
                                                                    refine son rfl rfl rfl ?_
                                                                    first | (refine sv rfl (opv_mv rfl) ?_) | (refine sv rfl (opv_mvt rfl) ?_)
                                                                    refine son rfl rfl rfl ?_
                                                                    first | (refine sv rfl (opv_mv rfl) ?_) | (refine sv rfl (opv_mvt rfl) ?_)
                                                                    refine son rfl rfl rfl ?_
                                                                    refine sv rfl (opv_beql Try.underlying4 rfl rfl) ?_
                                                                    first | (refine sv rfl (opv_pick_t rfl rfl) ?_) | (refine sv rfl (opv_pick_f rfl rfl) ?_)
                                                                    first | (refine sv rfl (opv_as rfl) ?_) | (refine sv rfl (opv_ast rfl) ?_)
                                                                    refine snil ?_
                                                                    refine cret ?_
                                                                    refine ⟨Or.inr rfl, _, _, _, (resVs_cons (ResV.tmp _ _ rfl) resVs_nil), (pubA_id rfl), ?_⟩
                                                                    first | rfl | (refine avb ?_; simp_all; done))
                                                              · first
                                                                | (exfalso; first | omega | contradiction | (simp_all; done))
                                                                | (
                                                                    refine soff rfl rfl rfl rfl ?_
                                                                    refine soff rfl rfl rfl rfl ?_
                                                                    refine soff rfl rfl rfl rfl ?_
                                                                    first | (refine sv rfl (opv_pick_t rfl rfl) ?_) | (refine sv rfl (opv_pick_f rfl rfl) ?_)
                                                                    first | (refine sv rfl (opv_as rfl) ?_) | (refine sv rfl (opv_ast rfl) ?_)
                                                                    refine snil ?_
                                                                    refine cret ?_
                                                                    refine ⟨Or.inr rfl, _, _, _, (resVs_cons (ResV.tmp _ _ rfl) resVs_nil), (pubA_id rfl), ?_⟩
                                                                    first | rfl | (refine avb ?_; simp_all; done)))
                                                        · first
                                                          | (exfalso; first | omega | contradiction | (simp_all; done))
                                                          | (
                                                              refine soff rfl rfl rfl rfl ?_
                                                              refine soff rfl rfl rfl rfl ?_
                                                              refine soff rfl rfl rfl rfl ?_
                                                              first | (refine sv rfl (opv_pick_t rfl rfl) ?_) | (refine sv rfl (opv_pick_f rfl rfl) ?_)
                                                              first | (refine sv rfl (opv_mv rfl) ?_) | (refine sv rfl (opv_mvt rfl) ?_)
                                                              refine soff rfl rfl rfl rfl ?_
                                                              refine soff rfl rfl rfl rfl ?_
                                                              refine soff rfl rfl rfl rfl ?_
                                                              first | (refine sv rfl (opv_pick_t rfl rfl) ?_) | (refine sv rfl (opv_pick_f rfl rfl) ?_)
                                                              first | (refine sv rfl (opv_as rfl) ?_) | (refine sv rfl (opv_ast rfl) ?_)
                                                              refine snil ?_
                                                              refine cret ?_
                                                              refine ⟨Or.inr rfl, _, _, _, (resVs_cons (ResV.tmp _ _ rfl) resVs_nil), (pubA_id rfl), ?_⟩
                                                              first | rfl | (refine avb ?_; simp_all; done)))))
                                      · first
                                        | (exfalso; first | omega | contradiction | (simp_all; done))
                                        | (
                                            refine soff rfl rfl rfl rfl ?_
                                            refine soff rfl rfl rfl rfl ?_
                                            refine soff rfl rfl rfl rfl ?_
                                            first | (refine sv rfl (opv_pick_t rfl rfl) ?_) | (refine sv rfl (opv_pick_f rfl rfl) ?_)
                                            first | (refine sv rfl (opv_as rfl) ?_) | (refine sv rfl (opv_ast rfl) ?_)
                                            refine snil ?_
                                            refine cseq ?_
                                            refine cregion ?_
                                            first | (refine sv rfl (opv_mv rfl) ?_) | (refine sv rfl (opv_mvt rfl) ?_)
                                            first | (refine sv rfl (opv_mv rfl) ?_) | (refine sv rfl (opv_mvt rfl) ?_)
                                            refine ssplit 84 rfl (fun hg34 => ?_) (fun hg34 => ?_)
                                            · first
                                              | (exfalso; first | omega | contradiction | (simp_all; done))
                                              | (
                                                  refine son rfl rfl rfl ?_
                                                  first | (refine sv rfl (opv_mv rfl) ?_) | (refine sv rfl (opv_mvt rfl) ?_)
                                                  first | (refine sv rfl (opv_pick_t rfl rfl) ?_) | (refine sv rfl (opv_pick_f rfl rfl) ?_)
                                                  first | (refine sv rfl (opv_mv rfl) ?_) | (refine sv rfl (opv_mvt rfl) ?_)
                                                  refine ssplit 87 rfl (fun hg35 => ?_) (fun hg35 => ?_)
                                                  · first
                                                    | (exfalso; first | omega | contradiction | (simp_all; done))
                                                    | (
                                                        refine son rfl rfl rfl ?_
                                                        first | (refine sv rfl (opv_loadN ti24 rfl (.lp _ _ _ rfl) (Nat.le_of_ble_eq_true rfl)) ?_) | (refine sv rfl (opv_loadN ti24 rfl (.cp _) (Nat.le_of_ble_eq_true rfl)) ?_)
                                                        refine son rfl rfl rfl ?_
                                                        first | (refine sv rfl (opv_mv rfl) ?_) | (refine sv rfl (opv_mvt rfl) ?_)
                                                        refine son rfl rfl rfl ?_
                                                        refine scall1 rfl fn29 (opnds_cons rfl (opnds_cons rfl opnds_nil)) (pubC rfl) (has_c) ?_
                                                        first | (refine sv rfl (opv_pick_t rfl rfl) ?_) | (refine sv rfl (opv_pick_f rfl rfl) ?_)
                                                        first | (refine sv rfl (opv_as rfl) ?_) | (refine sv rfl (opv_ast rfl) ?_)
                                                        refine snil ?_
                                                        refine cseq ?_
                                                        refine cregion ?_
                                                        first | (refine sv rfl (opv_mv rfl) ?_) | (refine sv rfl (opv_mvt rfl) ?_)
                                                        first | (refine sv rfl (opv_mv rfl) ?_) | (refine sv rfl (opv_mvt rfl) ?_)
                                                        refine ssplit 93 rfl (fun hg36 => ?_) (fun hg36 => ?_)
                                                        · first
                                                          | (exfalso; first | omega | contradiction | (simp_all; done))
                                                          | (
                                                              refine son rfl rfl rfl ?_
                                                              first | (refine sv rfl (opv_mv rfl) ?_) | (refine sv rfl (opv_mvt rfl) ?_)
                                                              first | (refine sv rfl (opv_pick_t rfl rfl) ?_) | (refine sv rfl (opv_pick_f rfl rfl) ?_)
                                                              first | (refine sv rfl (opv_mv rfl) ?_) | (refine sv rfl (opv_mvt rfl) ?_)
                                                              refine ssplit 96 rfl (fun hg37 => ?_) (fun hg37 => ?_)
                                                              · first
                                                                | (exfalso; first | omega | contradiction | (simp_all; done))
                                                                | (
                                                                    refine son rfl rfl rfl ?_
                                                                    first | (refine sv rfl (opv_loadN ti24 rfl (.lp _ _ _ rfl) (Nat.le_of_ble_eq_true rfl)) ?_) | (refine sv rfl (opv_loadN ti24 rfl (.cp _) (Nat.le_of_ble_eq_true rfl)) ?_)
                                                                    refine son rfl rfl rfl ?_
                                                                    first | (refine sv rfl (opv_mv rfl) ?_) | (refine sv rfl (opv_mvt rfl) ?_)
                                                                    refine son rfl rfl rfl ?_
                                                                    refine scall1 rfl fn29 (opnds_cons rfl (opnds_cons rfl opnds_nil)) (pubC rfl) (has_c) ?_
                                                                    first | (refine sv rfl (opv_pick_t rfl rfl) ?_) | (refine sv rfl (opv_pick_f rfl rfl) ?_)
                                                                    first | (refine sv rfl (opv_as rfl) ?_) | (refine sv rfl (opv_ast rfl) ?_)
                                                                    refine snil ?_
                                                                    refine cseq ?_
                                                                    refine cregion ?_
                                                                    first | (refine sv rfl (opv_mv rfl) ?_) | (refine sv rfl (opv_mvt rfl) ?_)
                                                                    first | (refine sv rfl (opv_mv rfl) ?_) | (refine sv rfl (opv_mvt rfl) ?_)
                                                                    refine ssplit 102 rfl (fun hg38 => ?_) (fun hg38 => ?_)
                                                                    · first
                                                                      | (exfalso; first | omega | contradiction | (simp_all; done))
                                                                      | (
                                                                          refine son rfl rfl rfl ?_
                                                                          first | (refine sv rfl (opv_mv rfl) ?_) | (refine sv rfl (opv_mvt rfl) ?_)
                                                                          refine son rfl rfl rfl ?_
                                                                          first | (refine sv rfl (opv_mv rfl) ?_) | (refine sv rfl (opv_mvt rfl) ?_)
                                                                          refine son rfl rfl rfl ?_
                                                                          refine sv rfl (opv_beql Try.underlying4 rfl rfl) ?_
                                                                          first | (refine sv rfl (opv_pick_t rfl rfl) ?_) | (refine sv rfl (opv_pick_f rfl rfl) ?_)
                                                                          first | (refine sv rfl (opv_mv rfl) ?_) | (refine sv rfl (opv_mvt rfl) ?_)
                                                                          refine ssplit 107 rfl (fun hg39 => ?_) (fun hg39 => ?_)
                                                                          · first
                                                                            | (exfalso; first | omega | contradiction | (simp_all; done))
                                                                            | (
                                                                                refine son rfl rfl rfl ?_
                                                                                first | (refine sv rfl (opv_mv rfl) ?_) | (refine sv rfl (opv_mvt rfl) ?_)
                                                                                refine son rfl rfl rfl ?_
                                                                                first | (refine sv rfl (opv_mv rfl) ?_) | (refine sv rfl (opv_mvt rfl) ?_)
                                                                                refine son rfl rfl rfl ?_
                                                                                refine sv rfl (opv_beql Try.underlying4 rfl rfl) ?_
                                                                                first | (refine sv rfl (opv_pick_t rfl rfl) ?_) | (refine sv rfl (opv_pick_f rfl rfl) ?_)
                                                                                first | (refine sv rfl (opv_as rfl) ?_) | (refine sv rfl (opv_ast rfl) ?_)
                                                                                refine snil ?_
                                                                                refine cret ?_
                                                                                refine ⟨Or.inr rfl, _, _, _, (resVs_cons (ResV.tmp _ _ rfl) resVs_nil), (pubA_id rfl), ?_⟩
                                                                                first | rfl | (refine avb ?_; simp_all; done))
                                                                          · first
                                                                            | (exfalso; first | omega | contradiction | (simp_all; done))
                                                                            | (
                                                                                refine soff rfl rfl rfl rfl ?_
                                                                                refine soff rfl rfl rfl rfl ?_
                                                                                refine soff rfl rfl rfl rfl ?_
                                                                                first | (refine sv rfl (opv_pick_t rfl rfl) ?_) | (refine sv rfl (opv_pick_f rfl rfl) ?_)
                                                                                first | (refine sv rfl (opv_as rfl) ?_) | (refine sv rfl (opv_ast rfl) ?_)
                                                                                refine snil ?_
                                                                                refine cret ?_
                                                                                refine ⟨Or.inr rfl, _, _, _, (resVs_cons (ResV.tmp _ _ rfl) resVs_nil), (pubA_id rfl), ?_⟩
                                                                                first | rfl | (refine avb ?_; simp_all; done)))
                                                                    · first
                                                                      | (exfalso; first | omega | contradiction | (simp_all; done))
                                                                      | (
                                                                          refine soff rfl rfl rfl rfl ?_
                                                                          refine soff rfl rfl rfl rfl ?_
                                                                          refine soff rfl rfl rfl rfl ?_
                                                                          first | (refine sv rfl (opv_pick_t rfl rfl) ?_) | (refine sv rfl (opv_pick_f rfl rfl) ?_)
                                                                          first | (refine sv rfl (opv_mv rfl) ?_) | (refine sv rfl (opv_mvt rfl) ?_)
                                                                          refine soff rfl rfl rfl rfl ?_
                                                                          refine soff rfl rfl rfl rfl ?_
                                                                          refine soff rfl rfl rfl rfl ?_
                                                                          first | (refine sv rfl (opv_pick_t rfl rfl) ?_) | (refine sv rfl (opv_pick_f rfl rfl) ?_)
                                                                          first | (refine sv rfl (opv_as rfl) ?_) | (refine sv rfl (opv_ast rfl) ?_)
                                                                          refine snil ?_
                                                                          refine cret ?_
                                                                          refine ⟨Or.inr rfl, _, _, _, (resVs_cons (ResV.tmp _ _ rfl) resVs_nil), (pubA_id rfl), ?_⟩
                                                                          first | rfl | (refine avb ?_; simp_all; done)))
                                                              · first
                                                                | (exfalso; first | omega | contradiction | (simp_all; done))
                                                                | (
                                                                    refine soff rfl rfl rfl rfl ?_
                                                                    refine soff rfl rfl rfl rfl ?_
                                                                    refine soff rfl rfl rfl rfl ?_
                                                                    first | (refine sv rfl (opv_pick_t rfl rfl) ?_) | (refine sv rfl (opv_pick_f rfl rfl) ?_)
                                                                    first | (refine sv rfl (opv_as rfl) ?_) | (refine sv rfl (opv_ast rfl) ?_)
                                                                    refine snil ?_
                                                                    refine cseq ?_
                                                                    refine cregion ?_
                                                                    first | (refine sv rfl (opv_mv rfl) ?_) | (refine sv rfl (opv_mvt rfl) ?_)
                                                                    first | (refine sv rfl (opv_mv rfl) ?_) | (refine sv rfl (opv_mvt rfl) ?_)
                                                                    refine ssplit 102 rfl (fun hg40 => ?_) (fun hg40 => ?_)
                                                                    · first
                                                                      | (exfalso; first | omega | contradiction | (simp_all; done))
                                                                      | (
                                                                          refine son rfl rfl rfl ?_
                                                                          first | (refine sv rfl (opv_mv rfl) ?_) | (refine sv rfl (opv_mvt rfl) ?_)
                                                                          refine son rfl rfl rfl ?_
                                                                          first | (refine sv rfl (opv_mv rfl) ?_) | (refine sv rfl (opv_mvt rfl) ?_)
                                                                          refine son rfl rfl rfl ?_
                                                                          refine sv rfl (opv_beql Try.underlying4 rfl rfl) ?_
                                                                          first | (refine sv rfl (opv_pick_t rfl rfl) ?_) | (refine sv rfl (opv_pick_f rfl rfl) ?_)
                                                                          first | (refine sv rfl (opv_mv rfl) ?_) | (refine sv rfl (opv_mvt rfl) ?_)
                                                                          refine ssplit 107 rfl (fun hg41 => ?_) (fun hg41 => ?_)
                                                                          · first
                                                                            | (exfalso; first | omega | contradiction | (simp_all; done))
                                                                            | (
                                                                                refine son rfl rfl rfl ?_
                                                                                first | (refine sv rfl (opv_mv rfl) ?_) | (refine sv rfl (opv_mvt rfl) ?_)
                                                                                refine son rfl rfl rfl ?_
                                                                                first | (refine sv rfl (opv_mv rfl) ?_) | (refine sv rfl (opv_mvt rfl) ?_)
                                                                                refine son rfl rfl rfl ?_
                                                                                refine sv rfl (opv_beql Try.underlying4 rfl rfl) ?_
                                                                                first | (refine sv rfl (opv_pick_t rfl rfl) ?_) | (refine sv rfl (opv_pick_f rfl rfl) ?_)
                                                                                first | (refine sv rfl (opv_as rfl) ?_) | (refine sv rfl (opv_ast rfl) ?_)
                                                                                refine snil ?_
                                                                                refine cret ?_
                                                                                refine ⟨Or.inr rfl, _, _, _, (resVs_cons (ResV.tmp _ _ rfl) resVs_nil), (pubA_id rfl), ?_⟩
                                                                                first | rfl | (refine avb ?_; simp_all; done))
                                                                          · first
                                                                            | (exfalso; first | omega | contradiction | (simp_all; done))
                                                                            | (
                                                                                refine soff rfl rfl rfl rfl ?_
                                                                                refine soff rfl rfl rfl rfl ?_
                                                                                refine soff rfl rfl rfl rfl ?_
                                                                                first | (refine sv rfl (opv_pick_t rfl rfl) ?_) | (refine sv rfl (opv_pick_f rfl rfl) ?_)
                                                                                first | (refine sv rfl (opv_as rfl) ?_) | (refine sv rfl (opv_ast rfl) ?_)
                                                                                refine snil ?_
                                                                                refine cret ?_
                                                                                refine ⟨Or.inr rfl, _, _, _, (resVs_cons (ResV.tmp _ _ rfl) resVs_nil), (pubA_id rfl), ?_⟩
                                                                                first | rfl | (refine avb ?_; simp_all; done)))
                                                                    · first
                                                                      | (exfalso; first | omega | contradiction | (simp_all; done))
                                                                      | (
                                                                          refine soff rfl rfl rfl rfl ?_
                                                                          refine soff rfl rfl rfl rfl ?_
                                                                          refine soff rfl rfl rfl rfl ?_
                                                                          first | (refine sv rfl (opv_pick_t rfl rfl) ?_) | (refine sv rfl (opv_pick_f rfl rfl) ?_)
                                                                          first | (refine sv rfl (opv_mv rfl) ?_) | (refine sv rfl (opv_mvt rfl) ?_)
                                                                          refine soff rfl rfl rfl rfl ?_
                                                                          refine soff rfl rfl rfl rfl ?_
                                                                          refine soff rfl rfl rfl rfl ?_
                                                                          first | (refine sv rfl (opv_pick_t rfl rfl) ?_) | (refine sv rfl (opv_pick_f rfl rfl) ?_)
                                                                          first | (refine sv rfl (opv_as rfl) ?_) | (refine sv rfl (opv_ast rfl) ?_)
                                                                          refine snil ?_
                                                                          refine cret ?_
                                                                          refine ⟨Or.inr rfl, _, _, _, (resVs_cons (ResV.tmp _ _ rfl) resVs_nil), (pubA_id rfl), ?_⟩
                                                                          first | rfl | (refine avb ?_; simp_all; done))))
                                                        · first
                                                          | (exfalso; first | omega | contradiction | (simp_all; done))
                                                          | (
                                                              refine soff rfl rfl rfl rfl ?_
                                                              first | (refine sv rfl (opv_pick_t rfl rfl) ?_) | (refine sv rfl (opv_pick_f rfl rfl) ?_)
                                                              first | (refine sv rfl (opv_mv rfl) ?_) | (refine sv rfl (opv_mvt rfl) ?_)
                                                              refine soff rfl rfl rfl rfl ?_
                                                              refine soff rfl rfl rfl rfl ?_
                                                              refine soff rfl rfl rfl rfl ?_
                                                              first | (refine sv rfl (opv_pick_t rfl rfl) ?_) | (refine sv rfl (opv_pick_f rfl rfl) ?_)
                                                              first | (refine sv rfl (opv_as rfl) ?_) | (refine sv rfl (opv_ast rfl) ?_)
                                                              refine snil ?_
                                                              refine cseq ?_
                                                              refine cregion ?_
                                                              first | (refine sv rfl (opv_mv rfl) ?_) | (refine sv rfl (opv_mvt rfl) ?_)
                                                              first | (refine sv rfl (opv_mv rfl) ?_) | (refine sv rfl (opv_mvt rfl) ?_)
                                                              refine ssplit 102 rfl (fun hg42 => ?_) (fun hg42 => ?_)
                                                              · first
                                                                | (exfalso; first | omega | contradiction | (simp_all; done))
                                                                | (
                                                                    refine son rfl rfl rfl ?_
                                                                    first | (refine sv rfl (opv_mv rfl) ?_) | (refine sv rfl (opv_mvt rfl) ?_)
                                                                    refine son rfl rfl rfl ?_
                                                                    first | (refine sv rfl (opv_mv rfl) ?_) | (refine sv rfl (opv_mvt rfl) ?_)
                                                                    refine son rfl rfl rfl ?_
                                                                    refine sv rfl (opv_beql Try.underlying4 rfl rfl) ?_
                                                                    first | (refine sv rfl (opv_pick_t rfl rfl) ?_) | (refine sv rfl (opv_pick_f rfl rfl) ?_)
                                                                    first | (refine sv rfl (opv_mv rfl) ?_) | (refine sv rfl (opv_mvt rfl) ?_)
                                                                    refine ssplit 107 rfl (fun hg43 => ?_) (fun hg43 => ?_)
                                                                    · first
                                                                      | (exfalso; first | omega | contradiction | (simp_all; done))
                                                                      | (
                                                                          refine son rfl rfl rfl ?_
                                                                          first | (refine sv rfl (opv_mv rfl) ?_) | (refine sv rfl (opv_mvt rfl) ?_)
                                                                          refine son rfl rfl rfl ?_
                                                                          first | (refine sv rfl (opv_mv rfl) ?_) | (refine sv rfl (opv_mvt rfl) ?_)
                                                                          refine son rfl rfl rfl ?_
                                                                          refine sv rfl (opv_beql Try.underlying4 rfl rfl) ?_
                                                                          first | (refine sv rfl (opv_pick_t rfl rfl) ?_) | (refine sv rfl (opv_pick_f rfl rfl) ?_)
                                                                          first | (refine sv rfl (opv_as rfl) ?_) | (refine sv rfl (opv_ast rfl) ?_)
                                                                          refine snil ?_
                                                                          refine cret ?_
                                                                          refine ⟨Or.inr rfl, _, _, _, (resVs_cons (ResV.tmp _ _ rfl) resVs_nil), (pubA_id rfl), ?_⟩
                                                                          first | rfl | (refine avb ?_; simp_all; done))
                                                                    · first
                                                                      | (exfalso; first | omega | contradiction | (simp_all; done))
                                                                      | (
                                                                          refine soff rfl rfl rfl rfl ?_
                                                                          refine soff rfl rfl rfl rfl ?_
                                                                          refine soff rfl rfl rfl rfl ?_
                                                                          first | (refine sv rfl (opv_pick_t rfl rfl) ?_) | (refine sv rfl (opv_pick_f rfl rfl) ?_)
                                                                          first | (refine sv rfl (opv_as rfl) ?_) | (refine sv rfl (opv_ast rfl) ?_)
                                                                          refine snil ?_
                                                                          refine cret ?_
                                                                          refine ⟨Or.inr rfl, _, _, _, (resVs_cons (ResV.tmp _ _ rfl) resVs_nil), (pubA_id rfl), ?_⟩
                                                                          first | rfl | (refine avb ?_; simp_all; done)))
                                                              · first
                                                                | (exfalso; first | omega | contradiction | (simp_all; done))
                                                                | (
                                                                    refine soff rfl rfl rfl rfl ?_
                                                                    refine soff rfl rfl rfl rfl ?_
                                                                    refine soff rfl rfl rfl rfl ?_
                                                                    first | (refine sv rfl (opv_pick_t rfl rfl) ?_) | (refine sv rfl (opv_pick_f rfl rfl) ?_)
                                                                    first | (refine sv rfl (opv_mv rfl) ?_) | (refine sv rfl (opv_mvt rfl) ?_)
                                                                    refine soff rfl rfl rfl rfl ?_
                                                                    refine soff rfl rfl rfl rfl ?_
                                                                    refine soff rfl rfl rfl rfl ?_
                                                                    first | (refine sv rfl (opv_pick_t rfl rfl) ?_) | (refine sv rfl (opv_pick_f rfl rfl) ?_)
                                                                    first | (refine sv rfl (opv_as rfl) ?_) | (refine sv rfl (opv_ast rfl) ?_)
                                                                    refine snil ?_
                                                                    refine cret ?_
                                                                    refine ⟨Or.inr rfl, _, _, _, (resVs_cons (ResV.tmp _ _ rfl) resVs_nil), (pubA_id rfl), ?_⟩
                                                                    first | rfl | (refine avb ?_; simp_all; done))))
                                                  · first
                                                    | (exfalso; first | omega | contradiction | (simp_all; done))
                                                    | (
                                                        refine soff rfl rfl rfl rfl ?_
                                                        refine soff rfl rfl rfl rfl ?_
                                                        refine soff rfl rfl rfl rfl ?_
                                                        first | (refine sv rfl (opv_pick_t rfl rfl) ?_) | (refine sv rfl (opv_pick_f rfl rfl) ?_)
                                                        first | (refine sv rfl (opv_as rfl) ?_) | (refine sv rfl (opv_ast rfl) ?_)
                                                        refine snil ?_
                                                        refine cseq ?_
                                                        refine cregion ?_
                                                        first | (refine sv rfl (opv_mv rfl) ?_) | (refine sv rfl (opv_mvt rfl) ?_)
                                                        first | (refine sv rfl (opv_mv rfl) ?_) | (refine sv rfl (opv_mvt rfl) ?_)
                                                        refine ssplit 93 rfl (fun hg44 => ?_) (fun hg44 => ?_)
                                                        · first
                                                          | (exfalso; first | omega | contradiction | (simp_all; done))
                                                          | (
                                                              refine son rfl rfl rfl ?_
                                                              first | (refine sv rfl (opv_mv rfl) ?_) | (refine sv rfl (opv_mvt rfl) ?_)
                                                              first | (refine sv rfl (opv_pick_t rfl rfl) ?_) | (refine sv rfl (opv_pick_f rfl rfl) ?_)
                                                              first | (refine sv rfl (opv_mv rfl) ?_) | (refine sv rfl (opv_mvt rfl) ?_)
                                                              refine ssplit 96 rfl (fun hg45 => ?_) (fun hg45 => ?_)
                                                              · first
                                                                | (exfalso; first | omega | contradiction | (simp_all; done))
                                                                | (
                                                                    refine son rfl rfl rfl ?_
                                                                    first | (refine sv rfl (opv_loadN ti24 rfl (.lp _ _ _ rfl) (Nat.le_of_ble_eq_true rfl)) ?_) | (refine sv rfl (opv_loadN ti24 rfl (.cp _) (Nat.le_of_ble_eq_true rfl)) ?_)
                                                                    refine son rfl rfl rfl ?_
                                                                    first | (refine sv rfl (opv_mv rfl) ?_) | (refine sv rfl (opv_mvt rfl) ?_)
                                                                    refine son rfl rfl rfl ?_
                                                                    refine scall1 rfl fn29 (opnds_cons rfl (opnds_cons rfl opnds_nil)) (pubC rfl) (has_c) ?_
                                                                    first | (refine sv rfl (opv_pick_t rfl rfl) ?_) | (refine sv rfl (opv_pick_f rfl rfl) ?_)
                                                                    first | (refine sv rfl (opv_as rfl) ?_) | (refine sv rfl (opv_ast rfl) ?_)
                                                                    refine snil ?_
                                                                    refine cseq ?_
                                                                    refine cregion ?_
                                                                    first | (refine sv rfl (opv_mv rfl) ?_) | (refine sv rfl (opv_mvt rfl) ?_)
                                                                    first | (refine sv rfl (opv_mv rfl) ?_) | (refine sv rfl (opv_mvt rfl) ?_)
                                                                    refine ssplit 102 rfl (fun hg46 => ?_) (fun hg46 => ?_)
                                                                    · first
                                                                      | (exfalso; first | omega | contradiction | (simp_all; done))
                                                                      | (
                                                                          refine son rfl rfl rfl ?_
                                                                          first | (refine sv rfl (opv_mv rfl) ?_) | (refine sv rfl (opv_mvt rfl) ?_)
                                                                          refine son rfl rfl rfl ?_
                                                                          first | (refine sv rfl (opv_mv rfl) ?_) | (refine sv rfl (opv_mvt rfl) ?_)
                                                                          refine son rfl rfl rfl ?_
                                                                          refine sv rfl (opv_beql Try.underlying4 rfl rfl) ?_
                                                                          first | (refine sv rfl (opv_pick_t rfl rfl) ?_) | (refine sv rfl (opv_pick_f rfl rfl) ?_)
                                                                          first | (refine sv rfl (opv_mv rfl) ?_) | (refine sv rfl (opv_mvt rfl) ?_)
                                                                          refine ssplit 107 rfl (fun hg47 => ?_) (fun hg47 => ?_)
                                                                          · first
                                                                            | (exfalso; first | omega | contradiction | (simp_all; done))
                                                                            | (
                                                                                refine son rfl rfl rfl ?_
                                                                                first | (refine sv rfl (opv_mv rfl) ?_) | (refine sv rfl (opv_mvt rfl) ?_)
                                                                                refine son rfl rfl rfl ?_
                                                                                first | (refine sv rfl (opv_mv rfl) ?_) | (refine sv rfl (opv_mvt rfl) ?_)
                                                                                refine son rfl rfl rfl ?_
                                                                                refine sv rfl (opv_beql Try.underlying4 rfl rfl) ?_
                                                                                first | (refine sv rfl (opv_pick_t rfl rfl) ?_) | (refine sv rfl (opv_pick_f rfl rfl) ?_)
                                                                                first | (refine sv rfl (opv_as rfl) ?_) | (refine sv rfl (opv_ast rfl) ?_)
                                                                                refine snil ?_
                                                                                refine cret ?_
                                                                                refine ⟨Or.inr rfl, _, _, _, (resVs_cons (ResV.tmp _ _ rfl) resVs_nil), (pubA_id rfl), ?_⟩
                                                                                first | rfl | (refine avb ?_; simp_all; done))
                                                                          · first
                                                                            | (exfalso; first | omega | contradiction | (simp_all; done))
                                                                            | (
                                                                                refine soff rfl rfl rfl rfl ?_
                                                                                refine soff rfl rfl rfl rfl ?_
                                                                                refine soff rfl rfl rfl rfl ?_
                                                                                first | (refine sv rfl (opv_pick_t rfl rfl) ?_) | (refine sv rfl (opv_pick_f rfl rfl) ?_)
                                                                                first | (refine sv rfl (opv_as rfl) ?_) | (refine sv rfl (opv_ast rfl) ?_)
                                                                                refine snil ?_
                                                                                refine cret ?_
                                                                                refine ⟨Or.inr rfl, _, _, _, (resVs_cons (ResV.tmp _ _ rfl) resVs_nil), (pubA_id rfl), ?_⟩
                                                                                first | rfl | (refine avb ?_; simp_all; done)))
                                                                    · first
                                                                      | (exfalso; first | omega | contradiction | (simp_all; done))
                                                                      | (
                                                                          refine soff rfl rfl rfl rfl ?_
                                                                          refine soff rfl rfl rfl rfl ?_
                                                                          refine soff rfl rfl rfl rfl ?_
                                                                          first | (refine sv rfl (opv_pick_t rfl rfl) ?_) | (refine sv rfl (opv_pick_f rfl rfl) ?_)
                                                                          first | (refine sv rfl (opv_mv rfl) ?_) | (refine sv rfl (opv_mvt rfl) ?_)
                                                                          refine soff rfl rfl rfl rfl ?_
                                                                          refine soff rfl rfl rfl rfl ?_
                                                                          refine soff rfl rfl rfl rfl ?_
                                                                          first | (refine sv rfl (opv_pick_t rfl rfl) ?_) | (refine sv rfl (opv_pick_f rfl rfl) ?_)
                                                                          first | (refine sv rfl (opv_as rfl) ?_) | (refine sv rfl (opv_ast rfl) ?_)
                                                                          refine snil ?_
                                                                          refine cret ?_
                                                                          refine ⟨Or.inr rfl, _, _, _, (resVs_cons (ResV.tmp _ _ rfl) resVs_nil), (pubA_id rfl), ?_⟩
                                                                          first | rfl | (refine avb ?_; simp_all; done)))
                                                              · first
                                                                | (exfalso; first | omega | contradiction | (simp_all; done))
                                                                | (
                                                                    refine soff rfl rfl rfl rfl ?_
                                                                    refine soff rfl rfl rfl rfl ?_
                                                                    refine soff rfl rfl rfl rfl ?_
                                                                    first | (refine sv rfl (opv_pick_t rfl rfl) ?_) | (refine sv rfl (opv_pick_f rfl rfl) ?_)
                                                                    first | (refine sv rfl (opv_as rfl) ?_) | (refine sv rfl (opv_ast rfl) ?_)
                                                                    refine snil ?_
                                                                    refine cseq ?_
                                                                    refine cregion ?_
                                                                    first | (refine sv rfl (opv_mv rfl) ?_) | (refine sv rfl (opv_mvt rfl) ?_)
                                                                    first | (refine sv rfl (opv_mv rfl) ?_) | (refine sv rfl (opv_mvt rfl) ?_)
                                                                    refine ssplit 102 rfl (fun hg48 => ?_) (fun hg48 => ?_)
                                                                    · first
                                                                      | (exfalso; first | omega | contradiction | (simp_all; done))
                                                                      | (
                                                                          refine son rfl rfl rfl ?_
                                                                          first | (refine sv rfl (opv_mv rfl) ?_) | (refine sv rfl (opv_mvt rfl) ?_)
                                                                          refine son rfl rfl rfl ?_
                                                                          first | (refine sv rfl (opv_mv rfl) ?_) | (refine sv rfl (opv_mvt rfl) ?_)
                                                                          refine son rfl rfl rfl ?_
                                                                          refine sv rfl (opv_beql Try.underlying4 rfl rfl) ?_
                                                                          first | (refine sv rfl (opv_pick_t rfl rfl) ?_) | (refine sv rfl (opv_pick_f rfl rfl) ?_)
                                                                          first | (refine sv rfl (opv_mv rfl) ?_) | (refine sv rfl (opv_mvt rfl) ?_)
                                                                          refine ssplit 107 rfl (fun hg49 => ?_) (fun hg49 => ?_)
                                                                          · first
                                                                            | (exfalso; first | omega | contradiction | (simp_all; done))
                                                                            | (
                                                                                refine son rfl rfl rfl ?_
                                                                                first | (refine sv rfl (opv_mv rfl) ?_) | (refine sv rfl (opv_mvt rfl) ?_)
                                                                                refine son rfl rfl rfl ?_
                                                                                first | (refine sv rfl (opv_mv rfl) ?_) | (refine sv rfl (opv_mvt rfl) ?_)
                                                                                refine son rfl rfl rfl ?_
                                                                                refine sv rfl (opv_beql Try.underlying4 rfl rfl) ?_
                                                                                first | (refine sv rfl (opv_pick_t rfl rfl) ?_) | (refine sv rfl (opv_pick_f rfl rfl) ?_)
                                                                                first | (refine sv rfl (opv_as rfl) ?_) | (refine sv rfl (opv_ast rfl) ?_)
                                                                                refine snil ?_
                                                                                refine cret ?_
                                                                                refine ⟨Or.inr rfl, _, _, _, (resVs_cons (ResV.tmp _ _ rfl) resVs_nil), (pubA_id rfl), ?_⟩
                                                                                first | rfl | (refine avb ?_; simp_all; done))
                                                                          · first
                                                                            | (exfalso; first | omega | contradiction | (simp_all; done))
                                                                            | (
                                                                                refine soff rfl rfl rfl rfl ?_
                                                                                refine soff rfl rfl rfl rfl ?_
                                                                                refine soff rfl rfl rfl rfl ?_
                                                                                first | (refine sv rfl (opv_pick_t rfl rfl) ?_) | (refine sv rfl (opv_pick_f rfl rfl) ?_)
                                                                                first | (refine sv rfl (opv_as rfl) ?_) | (refine sv rfl (opv_ast rfl) ?_)
                                                                                refine snil ?_
                                                                                refine cret ?_
                                                                                refine ⟨Or.inr rfl, _, _, _, (resVs_cons (ResV.tmp _ _ rfl) resVs_nil), (pubA_id rfl), ?_⟩
                                                                                first | rfl | (refine avb ?_; simp_all; done)))
                                                                    · first
                                                                      | (exfalso; first | omega | contradiction | (simp_all; done))
                                                                      | (
                                                                          refine soff rfl rfl rfl rfl ?_
                                                                          refine soff rfl rfl rfl rfl ?_
                                                                          refine soff rfl rfl rfl rfl ?_
                                                                          first | (refine sv rfl (opv_pick_t rfl rfl) ?_) | (refine sv rfl (opv_pick_f rfl rfl) ?_)
                                                                          first | (refine sv rfl (opv_mv rfl) ?_) | (refine sv rfl (opv_mvt rfl) ?_)
                                                                          refine soff rfl rfl rfl rfl ?_
                                                                          refine soff rfl rfl rfl rfl ?_
                                                                          refine soff rfl rfl rfl rfl ?_
                                                                          first | (refine sv rfl (opv_pick_t rfl rfl) ?_) | (refine sv rfl (opv_pick_f rfl rfl) ?_)
                                                                          first | (refine sv rfl (opv_as rfl) ?_) | (refine sv rfl (opv_ast rfl) ?_)
                                                                          refine snil ?_
                                                                          refine cret ?_
                                                                          refine ⟨Or.inr rfl, _, _, _, (resVs_cons (ResV.tmp _ _ rfl) resVs_nil), (pubA_id rfl), ?_⟩
                                                                          first | rfl | (refine avb ?_; simp_all; done))))
                                                        · first
                                                          | (exfalso; first | omega | contradiction | (simp_all; done))
                                                          | (
                                                              refine soff rfl rfl rfl rfl ?_
                                                              first | (refine sv rfl (opv_pick_t rfl rfl) ?_) | (refine sv rfl (opv_pick_f rfl rfl) ?_)
                                                              first | (refine sv rfl (opv_mv rfl) ?_) | (refine sv rfl (opv_mvt rfl) ?_)
                                                              refine soff rfl rfl rfl rfl ?_
                                                              refine soff rfl rfl rfl rfl ?_
                                                              refine soff rfl rfl rfl rfl ?_
                                                              first | (refine sv rfl (opv_pick_t rfl rfl) ?_) | (refine sv rfl (opv_pick_f rfl rfl) ?_)
                                                              first | (refine sv rfl (opv_as rfl) ?_) | (refine sv rfl (opv_ast rfl) ?_)
                                                              refine snil ?_
                                                              refine cseq ?_
                                                              refine cregion ?_
                                                              first | (refine sv rfl (opv_mv rfl) ?_) | (refine sv rfl (opv_mvt rfl) ?_)
                                                              first | (refine sv rfl (opv_mv rfl) ?_) | (refine sv rfl (opv_mvt rfl) ?_)
                                                              refine ssplit 102 rfl (fun hg50 => ?_) (fun hg50 => ?_)
                                                              · first
                                                                | (exfalso; first | omega | contradiction | (simp_all; done))
                                                                | (
                                                                    refine son rfl rfl rfl ?_
                                                                    first | (refine sv rfl (opv_mv rfl) ?_) | (refine sv rfl (opv_mvt rfl) ?_)
                                                                    refine son rfl rfl rfl ?_
                                                                    first | (refine sv rfl (opv_mv rfl) ?_) | (refine sv rfl (opv_mvt rfl) ?_)
                                                                    refine son rfl rfl rfl ?_
                                                                    refine sv rfl (opv_beql Try.underlying4 rfl rfl) ?_
                                                                    first | (refine sv rfl (opv_pick_t rfl rfl) ?_) | (refine sv rfl (opv_pick_f rfl rfl) ?_)
                                                                    first | (refine sv rfl (opv_mv rfl) ?_) | (refine sv rfl (opv_mvt rfl) ?_)
                                                                    refine ssplit 107 rfl (fun hg51 => ?_) (fun hg51 => ?_)
                                                                    · first
                                                                      | (exfalso; first | omega | contradiction | (simp_all; done))
                                                                      | (
                                                                          refine son rfl rfl rfl ?_
                                                                          first | (refine sv rfl (opv_mv rfl) ?_) | (refine sv rfl (opv_mvt rfl) ?_)
                                                                          refine son rfl rfl rfl ?_
                                                                          first | (refine sv rfl (opv_mv rfl) ?_) | (refine sv rfl (opv_mvt rfl) ?_)
                                                                          refine son rfl rfl rfl ?_
                                                                          refine sv rfl (opv_beql Try.underlying4 rfl rfl) ?_
                                                                          first | (refine sv rfl (opv_pick_t rfl rfl) ?_) | (refine sv rfl (opv_pick_f rfl rfl) ?_)
                                                                          first | (refine sv rfl (opv_as rfl) ?_) | (refine sv rfl (opv_ast rfl) ?_)
                                                                          refine snil ?_
                                                                          refine cret ?_
                                                                          refine ⟨Or.inr rfl, _, _, _, (resVs_cons (ResV.tmp _ _ rfl) resVs_nil), (pubA_id rfl), ?_⟩
                                                                          first | rfl | (refine avb ?_; simp_all; done))
                                                                    · first
                                                                      | (exfalso; first | omega | contradiction | (simp_all; done))
                                                                      | (
                                                                          refine soff rfl rfl rfl rfl ?_
                                                                          refine soff rfl rfl rfl rfl ?_
                                                                          refine soff rfl rfl rfl rfl ?_
                                                                          first | (refine sv rfl (opv_pick_t rfl rfl) ?_) | (refine sv rfl (opv_pick_f rfl rfl) ?_)
                                                                          first | (refine sv rfl (opv_as rfl) ?_) | (refine sv rfl (opv_ast rfl) ?_)
                                                                          refine snil ?_
                                                                          refine cret ?_
                                                                          refine ⟨Or.inr rfl, _, _, _, (resVs_cons (ResV.tmp _ _ rfl) resVs_nil), (pubA_id rfl), ?_⟩
                                                                          first | rfl | (refine avb ?_; simp_all; done)))
                                                              · first
                                                                | (exfalso; first | omega | contradiction | (simp_all; done))
                                                                | (
                                                                    refine soff rfl rfl rfl rfl ?_
                                                                    refine soff rfl rfl rfl rfl ?_
                                                                    refine soff rfl rfl rfl rfl ?_
                                                                    first | (refine sv rfl (opv_pick_t rfl rfl) ?_) | (refine sv rfl (opv_pick_f rfl rfl) ?_)
                                                                    first | (refine sv rfl (opv_mv rfl) ?_) | (refine sv rfl (opv_mvt rfl) ?_)
                                                                    refine soff rfl rfl rfl rfl ?_
                                                                    refine soff rfl rfl rfl rfl ?_
                                                                    refine soff rfl rfl rfl rfl ?_
                                                                    first | (refine sv rfl (opv_pick_t rfl rfl) ?_) | (refine sv rfl (opv_pick_f rfl rfl) ?_)
                                                                    first | (refine sv rfl (opv_as rfl) ?_) | (refine sv rfl (opv_ast rfl) ?_)
                                                                    refine snil ?_
                                                                    refine cret ?_
                                                                    refine ⟨Or.inr rfl, _, _, _, (resVs_cons (ResV.tmp _ _ rfl) resVs_nil), (pubA_id rfl), ?_⟩
                                                                    first | rfl | (refine avb ?_; simp_all; done)))))
                                            · first
                                              | (exfalso; first | omega | contradiction | (simp_all; done))
                                              | (
                                                  refine soff rfl rfl rfl rfl ?_
                                                  first | (refine sv rfl (opv_pick_t rfl rfl) ?_) | (refine sv rfl (opv_pick_f rfl rfl) ?_)
                                                  first | (refine sv rfl (opv_mv rfl) ?_) | (refine sv rfl (opv_mvt rfl) ?_)
                                                  refine soff rfl rfl rfl rfl ?_
                                                  refine soff rfl rfl rfl rfl ?_
                                                  refine soff rfl rfl rfl rfl ?_
                                                  first | (refine sv rfl (opv_pick_t rfl rfl) ?_) | (refine sv rfl (opv_pick_f rfl rfl) ?_)
                                                  first | (refine sv rfl (opv_as rfl) ?_) | (refine sv rfl (opv_ast rfl) ?_)
                                                  refine snil ?_
                                                  refine cseq ?_
                                                  refine cregion ?_
                                                  first | (refine sv rfl (opv_mv rfl) ?_) | (refine sv rfl (opv_mvt rfl) ?_)
                                                  first | (refine sv rfl (opv_mv rfl) ?_) | (refine sv rfl (opv_mvt rfl) ?_)
                                                  refine ssplit 93 rfl (fun hg52 => ?_) (fun hg52 => ?_)
                                                  · first
                                                    | (exfalso; first | omega | contradiction | (simp_all; done))
                                                    | (
                                                        refine son rfl rfl rfl ?_
                                                        first | (refine sv rfl (opv_mv rfl) ?_) | (refine sv rfl (opv_mvt rfl) ?_)
                                                        first | (refine sv rfl (opv_pick_t rfl rfl) ?_) | (refine sv rfl (opv_pick_f rfl rfl) ?_)
                                                        first | (refine sv rfl (opv_mv rfl) ?_) | (refine sv rfl (opv_mvt rfl) ?_)
                                                        refine ssplit 96 rfl (fun hg53 => ?_) (fun hg53 => ?_)
                                                        · first
                                                          | (exfalso; first | omega | contradiction | (simp_all; done))
                                                          | (
                                                              refine son rfl rfl rfl ?_
                                                              first | (refine sv rfl (opv_loadN ti24 rfl (.lp _ _ _ rfl) (Nat.le_of_ble_eq_true rfl)) ?_) | (refine sv rfl (opv_loadN ti24 rfl (.cp _) (Nat.le_of_ble_eq_true rfl)) ?_)
                                                              refine son rfl rfl rfl ?_
                                                              first | (refine sv rfl (opv_mv rfl) ?_) | (refine sv rfl (opv_mvt rfl) ?_)
                                                              refine son rfl rfl rfl ?_
                                                              refine scall1 rfl fn29 (opnds_cons rfl (opnds_cons rfl opnds_nil)) (pubC rfl) (has_c) ?_
                                                              first | (refine sv rfl (opv_pick_t rfl rfl) ?_) | (refine sv rfl (opv_pick_f rfl rfl) ?_)
                                                              first | (refine sv rfl (opv_as rfl) ?_) | (refine sv rfl (opv_ast rfl) ?_)
                                                              refine snil ?_
                                                              refine cseq ?_
                                                              refine cregion ?_
                                                              first | (refine sv rfl (opv_mv rfl) ?_) | (refine sv rfl (opv_mvt rfl) ?_)
                                                              first | (refine sv rfl (opv_mv rfl) ?_) | (refine sv rfl (opv_mvt rfl) ?_)
                                                              refine ssplit 102 rfl (fun hg54 => ?_) (fun hg54 => ?_)
                                                              · first
                                                                | (exfalso; first | omega | contradiction | (simp_all; done))
                                                                | (
                                                                    refine son rfl rfl rfl ?_
                                                                    first | (refine sv rfl (opv_mv rfl) ?_) | (refine sv rfl (opv_mvt rfl) ?_)
                                                                    refine son rfl rfl rfl ?_
                                                                    first | (refine sv rfl (opv_mv rfl) ?_) | (refine sv rfl (opv_mvt rfl) ?_)
                                                                    refine son rfl rfl rfl ?_
                                                                    refine sv rfl (opv_beql Try.underlying4 rfl rfl) ?_
                                                                    first | (refine sv rfl (opv_pick_t rfl rfl) ?_) | (refine sv rfl (opv_pick_f rfl rfl) ?_)
                                                                    first | (refine sv rfl (opv_mv rfl) ?_) | (refine sv rfl (opv_mvt rfl) ?_)
                                                                    refine ssplit 107 rfl (fun hg55 => ?_) (fun hg55 => ?_)
                                                                    · first
                                                                      | (exfalso; first | omega | contradiction | (simp_all; done))
                                                                      | (
                                                                          refine son rfl rfl rfl ?_
                                                                          first | (refine sv rfl (opv_mv rfl) ?_) | (refine sv rfl (opv_mvt rfl) ?_)
                                                                          refine son rfl rfl rfl ?_
                                                                          first | (refine sv rfl (opv_mv rfl) ?_) | (refine sv rfl (opv_mvt rfl) ?_)
                                                                          refine son rfl rfl rfl ?_
                                                                          refine sv rfl (opv_beql Try.underlying4 rfl rfl) ?_
                                                                          first | (refine sv rfl (opv_pick_t rfl rfl) ?_) | (refine sv rfl (opv_pick_f rfl rfl) ?_)
                                                                          first | (refine sv rfl (opv_as rfl) ?_) | (refine sv rfl (opv_ast rfl) ?_)
                                                                          refine snil ?_
                                                                          refine cret ?_
                                                                          refine ⟨Or.inr rfl, _, _, _, (resVs_cons (ResV.tmp _ _ rfl) resVs_nil), (pubA_id rfl), ?_⟩
                                                                          first | rfl | (refine avb ?_; simp_all; done))
                                                                    · first
                                                                      | (exfalso; first | omega | contradiction | (simp_all; done))
                                                                      | (
                                                                          refine soff rfl rfl rfl rfl ?_
                                                                          refine soff rfl rfl rfl rfl ?_
                                                                          refine soff rfl rfl rfl rfl ?_
                                                                          first | (refine sv rfl (opv_pick_t rfl rfl) ?_) | (refine sv rfl (opv_pick_f rfl rfl) ?_)
                                                                          first | (refine sv rfl (opv_as rfl) ?_) | (refine sv rfl (opv_ast rfl) ?_)
                                                                          refine snil ?_
                                                                          refine cret ?_
                                                                          refine ⟨Or.inr rfl, _, _, _, (resVs_cons (ResV.tmp _ _ rfl) resVs_nil), (pubA_id rfl), ?_⟩
                                                                          first | rfl | (refine avb ?_; simp_all; done)))
                                                              · first
                                                                | (exfalso; first | omega | contradiction | (simp_all; done))
                                                                | (
                                                                    refine soff rfl rfl rfl rfl ?_
                                                                    refine soff rfl rfl rfl rfl ?_
                                                                    refine soff rfl rfl rfl rfl ?_
                                                                    first | (refine sv rfl (opv_pick_t rfl rfl) ?_) | (refine sv rfl (opv_pick_f rfl rfl) ?_)
                                                                    first | (refine sv rfl (opv_mv rfl) ?_) | (refine sv rfl (opv_mvt rfl) ?_)
                                                                    refine soff rfl rfl rfl rfl ?_
                                                                    refine soff rfl rfl rfl rfl ?_
                                                                    refine soff rfl rfl rfl rfl ?_
                                                                    first | (refine sv rfl (opv_pick_t rfl rfl) ?_) | (refine sv rfl (opv_pick_f rfl rfl) ?_)
                                                                    first | (refine sv rfl (opv_as rfl) ?_) | (refine sv rfl (opv_ast rfl) ?_)
                                                                    refine snil ?_
                                                                    refine cret ?_
                                                                    refine ⟨Or.inr rfl, _, _, _, (resVs_cons (ResV.tmp _ _ rfl) resVs_nil), (pubA_id rfl), ?_⟩
                                                                    first | rfl | (refine avb ?_; simp_all; done)))
                                                        · first
                                                          | (exfalso; first | omega | contradiction | (simp_all; done))
                                                          | (
                                                              refine soff rfl rfl rfl rfl ?_
                                                              refine soff rfl rfl rfl rfl ?_
                                                              refine soff rfl rfl rfl rfl ?_
                                                              first | (refine sv rfl (opv_pick_t rfl rfl) ?_) | (refine sv rfl (opv_pick_f rfl rfl) ?_)
                                                              first | (refine sv rfl (opv_as rfl) ?_) | (refine sv rfl (opv_ast rfl) ?_)
                                                              refine snil ?_
                                                              refine cseq ?_
                                                              refine cregion ?_
                                                              first | (refine sv rfl (opv_mv rfl) ?_) | (refine sv rfl (opv_mvt rfl) ?_)
                                                              first | (refine sv rfl (opv_mv rfl) ?_) | (refine sv rfl (opv_mvt rfl) ?_)
                                                              refine ssplit 102 rfl (fun hg56 => ?_) (fun hg56 => ?_)
                                                              · first
                                                                | (exfalso; first | omega | contradiction | (simp_all; done))
                                                                | (
                                                                    refine son rfl rfl rfl ?_
                                                                    first | (refine sv rfl (opv_mv rfl) ?_) | (refine sv rfl (opv_mvt rfl) ?_)
                                                                    refine son rfl rfl rfl ?_
                                                                    first | (refine sv rfl (opv_mv rfl) ?_) | (refine sv rfl (opv_mvt rfl) ?_)
                                                                    refine son rfl rfl rfl ?_
                                                                    refine sv rfl (opv_beql Try.underlying4 rfl rfl) ?_
                                                                    first | (refine sv rfl (opv_pick_t rfl rfl) ?_) | (refine sv rfl (opv_pick_f rfl rfl) ?_)
                                                                    first | (refine sv rfl (opv_mv rfl) ?_) | (refine sv rfl (opv_mvt rfl) ?_)
                                                                    refine ssplit 107 rfl (fun hg57 => ?_) (fun hg57 => ?_)
                                                                    · first
                                                                      | (exfalso; first | omega | contradiction | (simp_all; done))
                                                                      | (
                                                                          refine son rfl rfl rfl ?_
                                                                          first | (refine sv rfl (opv_mv rfl) ?_) | (refine sv rfl (opv_mvt rfl) ?_)
                                                                          refine son rfl rfl rfl ?_
                                                                          first | (refine sv rfl (opv_mv rfl) ?_) | (refine sv rfl (opv_mvt rfl) ?_)
                                                                          refine son rfl rfl rfl ?_
                                                                          refine sv rfl (opv_beql Try.underlying4 rfl rfl) ?_
                                                                          first | (refine sv rfl (opv_pick_t rfl rfl) ?_) | (refine sv rfl (opv_pick_f rfl rfl) ?_)
                                                                          first | (refine sv rfl (opv_as rfl) ?_) | (refine sv rfl (opv_ast rfl) ?_)
                                                                          refine snil ?_
                                                                          refine cret ?_
                                                                          refine ⟨Or.inr rfl, _, _, _, (resVs_cons (ResV.tmp _ _ rfl) resVs_nil), (pubA_id rfl), ?_⟩
                                                                          first | rfl | (refine avb ?_; simp_all; done))
                                                                    · first
                                                                      | (exfalso; first | omega | contradiction | (simp_all; done))
                                                                      | (
                                                                          refine soff rfl rfl rfl rfl ?_
                                                                          refine soff rfl rfl rfl rfl ?_
                                                                          refine soff rfl rfl rfl rfl ?_
                                                                          first | (refine sv rfl (opv_pick_t rfl rfl) ?_) | (refine sv rfl (opv_pick_f rfl rfl) ?_)
                                                                          first | (refine sv rfl (opv_as rfl) ?_) | (refine sv rfl (opv_ast rfl) ?_)
                                                                          refine snil ?_
                                                                          refine cret ?_
                                                                          refine ⟨Or.inr rfl, _, _, _, (resVs_cons (ResV.tmp _ _ rfl) resVs_nil), (pubA_id rfl), ?_⟩
                                                                          first | rfl | (refine avb ?_; simp_all; done)))
                                                              · first
                                                                | (exfalso; first | omega | contradiction | (simp_all; done))
                                                                | (
                                                                    refine soff rfl rfl rfl rfl ?_
                                                                    refine soff rfl rfl rfl rfl ?_
                                                                    refine soff rfl rfl rfl rfl ?_
                                                                    first | (refine sv rfl (opv_pick_t rfl rfl) ?_) | (refine sv rfl (opv_pick_f rfl rfl) ?_)
                                                                    first | (refine sv rfl (opv_mv rfl) ?_) | (refine sv rfl (opv_mvt rfl) ?_)
                                                                    refine soff rfl rfl rfl rfl ?_
                                                                    refine soff rfl rfl rfl rfl ?_
                                                                    refine soff rfl rfl rfl rfl ?_
                                                                    first | (refine sv rfl (opv_pick_t rfl rfl) ?_) | (refine sv rfl (opv_pick_f rfl rfl) ?_)
                                                                    first | (refine sv rfl (opv_as rfl) ?_) | (refine sv rfl (opv_ast rfl) ?_)
                                                                    refine snil ?_
                                                                    refine cret ?_
                                                                    refine ⟨Or.inr rfl, _, _, _, (resVs_cons (ResV.tmp _ _ rfl) resVs_nil), (pubA_id rfl), ?_⟩
                                                                    first | rfl | (refine avb ?_; simp_all; done))))
                                                  · first
                                                    | (exfalso; first | omega | contradiction | (simp_all; done))
                                                    | (
                                                        refine soff rfl rfl rfl rfl ?_
                                                        first | (refine sv rfl (opv_pick_t rfl rfl) ?_) | (refine sv rfl (opv_pick_f rfl rfl) ?_)
                                                        first | (refine sv rfl (opv_mv rfl) ?_) | (refine sv rfl (opv_mvt rfl) ?_)
                                                        refine soff rfl rfl rfl rfl ?_
                                                        refine soff rfl rfl rfl rfl ?_
                                                        refine soff rfl rfl rfl rfl ?_
                                                        first | (refine sv rfl (opv_pick_t rfl rfl) ?_) | (refine sv rfl (opv_pick_f rfl rfl) ?_)
                                                        first | (refine sv rfl (opv_as rfl) ?_) | (refine sv rfl (opv_ast rfl) ?_)
                                                        refine snil ?_
                                                        refine cseq ?_
                                                        refine cregion ?_
                                                        first | (refine sv rfl (opv_mv rfl) ?_) | (refine sv rfl (opv_mvt rfl) ?_)
                                                        first | (refine sv rfl (opv_mv rfl) ?_) | (refine sv rfl (opv_mvt rfl) ?_)
                                                        refine ssplit 102 rfl (fun hg58 => ?_) (fun hg58 => ?_)
                                                        · first
                                                          | (exfalso; first | omega | contradiction | (simp_all; done))
                                                          | (
                                                              refine son rfl rfl rfl ?_
                                                              first | (refine sv rfl (opv_mv rfl) ?_) | (refine sv rfl (opv_mvt rfl) ?_)
                                                              refine son rfl rfl rfl ?_
                                                              first | (refine sv rfl (opv_mv rfl) ?_) | (refine sv rfl (opv_mvt rfl) ?_)
                                                              refine son rfl rfl rfl ?_
                                                              refine sv rfl (opv_beql Try.underlying4 rfl rfl) ?_
                                                              first | (refine sv rfl (opv_pick_t rfl rfl) ?_) | (refine sv rfl (opv_pick_f rfl rfl) ?_)
                                                              first | (refine sv rfl (opv_mv rfl) ?_) | (refine sv rfl (opv_mvt rfl) ?_)
                                                              refine ssplit 107 rfl (fun hg59 => ?_) (fun hg59 => ?_)
                                                              · first
                                                                | (exfalso; first | omega | contradiction | (simp_all; done))
                                                                | (
                                                                    refine son rfl rfl rfl ?_
                                                                    first | (refine sv rfl (opv_mv rfl) ?_) | (refine sv rfl (opv_mvt rfl) ?_)
                                                                    refine son rfl rfl rfl ?_
                                                                    first | (refine sv rfl (opv_mv rfl) ?_) | (refine sv rfl (opv_mvt rfl) ?_)
                                                                    refine son rfl rfl rfl ?_
                                                                    refine sv rfl (opv_beql Try.underlying4 rfl rfl) ?_
                                                                    first | (refine sv rfl (opv_pick_t rfl rfl) ?_) | (refine sv rfl (opv_pick_f rfl rfl) ?_)
                                                                    first | (refine sv rfl (opv_as rfl) ?_) | (refine sv rfl (opv_ast rfl) ?_)
                                                                    refine snil ?_
                                                                    refine cret ?_
                                                                    refine ⟨Or.inr rfl, _, _, _, (resVs_cons (ResV.tmp _ _ rfl) resVs_nil), (pubA_id rfl), ?_⟩
                                                                    first | rfl | (refine avb ?_; simp_all; done))
                                                              · first
                                                                | (exfalso; first | omega | contradiction | (simp_all; done))
                                                                | (
                                                                    refine soff rfl rfl rfl rfl ?_
                                                                    refine soff rfl rfl rfl rfl ?_
                                                                    refine soff rfl rfl rfl rfl ?_
                                                                    first | (refine sv rfl (opv_pick_t rfl rfl) ?_) | (refine sv rfl (opv_pick_f rfl rfl) ?_)
                                                                    first | (refine sv rfl (opv_as rfl) ?_) | (refine sv rfl (opv_ast rfl) ?_)
                                                                    refine snil ?_
                                                                    refine cret ?_
                                                                    refine ⟨Or.inr rfl, _, _, _, (resVs_cons (ResV.tmp _ _ rfl) resVs_nil), (pubA_id rfl), ?_⟩
                                                                    first | rfl | (refine avb ?_; simp_all; done)))
                                                        · first
                                                          | (exfalso; first | omega | contradiction | (simp_all; done))
                                                          | (
                                                              refine soff rfl rfl rfl rfl ?_
                                                              refine soff rfl rfl rfl rfl ?_
                                                              refine soff rfl rfl rfl rfl ?_
                                                              first | (refine sv rfl (opv_pick_t rfl rfl) ?_) | (refine sv rfl (opv_pick_f rfl rfl) ?_)
                                                              first | (refine sv rfl (opv_mv rfl) ?_) | (refine sv rfl (opv_mvt rfl) ?_)
                                                              refine soff rfl rfl rfl rfl ?_
                                                              refine soff rfl rfl rfl rfl ?_
                                                              refine soff rfl rfl rfl rfl ?_
                                                              first | (refine sv rfl (opv_pick_t rfl rfl) ?_) | (refine sv rfl (opv_pick_f rfl rfl) ?_)
                                                              first | (refine sv rfl (opv_as rfl) ?_) | (refine sv rfl (opv_ast rfl) ?_)
                                                              refine snil ?_
                                                              refine cret ?_
                                                              refine ⟨Or.inr rfl, _, _, _, (resVs_cons (ResV.tmp _ _ rfl) resVs_nil), (pubA_id rfl), ?_⟩
                                                              first | rfl | (refine avb ?_; simp_all; done))))))
                                · first
                                  | (exfalso; first | omega | contradiction | (simp_all; done))
                                  | (
                                      refine soff rfl rfl rfl rfl ?_
                                      refine soff rfl rfl rfl rfl ?_
                                      refine soff rfl rfl rfl rfl ?_
                                      first | (refine sv rfl (opv_pick_t rfl rfl) ?_) | (refine sv rfl (opv_pick_f rfl rfl) ?_)
                                      first | (refine sv rfl (opv_mv rfl) ?_) | (refine sv rfl (opv_mvt rfl) ?_)
                                      refine soff rfl rfl rfl rfl ?_
                                      refine soff rfl rfl rfl rfl ?_
                                      refine soff rfl rfl rfl rfl ?_
                                      first | (refine sv rfl (opv_pick_t rfl rfl) ?_) | (refine sv rfl (opv_pick_f rfl rfl) ?_)
                                      first | (refine sv rfl (opv_as rfl) ?_) | (refine sv rfl (opv_ast rfl) ?_)
                                      refine snil ?_
                                      refine cseq ?_
                                      refine cregion ?_
                                      first | (refine sv rfl (opv_mv rfl) ?_) | (refine sv rfl (opv_mvt rfl) ?_)
                                      first | (refine sv rfl (opv_mv rfl) ?_) | (refine sv rfl (opv_mvt rfl) ?_)
                                      refine ssplit 84 rfl (fun hg60 => ?_) (fun hg60 => ?_)
                                      · first
                                        | (exfalso; first | omega | contradiction | (simp_all; done))
                                        | (
                                            refine son rfl rfl rfl ?_
                                            first | (refine sv rfl (opv_mv rfl) ?_) | (refine sv rfl (opv_mvt rfl) ?_)
                                            first | (refine sv rfl (opv_pick_t rfl rfl) ?_) | (refine sv rfl (opv_pick_f rfl rfl) ?_)
                                            first | (refine sv rfl (opv_mv rfl) ?_) | (refine sv rfl (opv_mvt rfl) ?_)
                                            refine ssplit 87 rfl (fun hg61 => ?_) (fun hg61 => ?_)
                                            · first
                                              | (exfalso; first | omega | contradiction | (simp_all; done))
                                              | (
                                                  refine son rfl rfl rfl ?_
                                                  first | (refine sv rfl (opv_loadN ti24 rfl (.lp _ _ _ rfl) (Nat.le_of_ble_eq_true rfl)) ?_) | (refine sv rfl (opv_loadN ti24 rfl (.cp _) (Nat.le_of_ble_eq_true rfl)) ?_)
                                                  refine son rfl rfl rfl ?_
                                                  first | (refine sv rfl (opv_mv rfl) ?_) | (refine sv rfl (opv_mvt rfl) ?_)
                                                  refine son rfl rfl rfl ?_
                                                  refine scall1 rfl fn29 (opnds_cons rfl (opnds_cons rfl opnds_nil)) (pubC rfl) (has_c) ?_
                                                  first | (refine sv rfl (opv_pick_t rfl rfl) ?_) | (refine sv rfl (opv_pick_f rfl rfl) ?_)
                                                  first | (refine sv rfl (opv_as rfl) ?_) | (refine sv rfl (opv_ast rfl) ?_)
                                                  refine snil ?_
                                                  refine cseq ?_
                                                  refine cregion ?_
                                                  first | (refine sv rfl (opv_mv rfl) ?_) | (refine sv rfl (opv_mvt rfl) ?_)
                                                  first | (refine sv rfl (opv_mv rfl) ?_) | (refine sv rfl (opv_mvt rfl) ?_)
                                                  refine ssplit 93 rfl (fun hg62 => ?_) (fun hg62 => ?_)
                                                  · first
                                                    | (exfalso; first | omega | contradiction | (simp_all; done))
                                                    | (
                                                        refine son rfl rfl rfl ?_
                                                        first | (refine sv rfl (opv_mv rfl) ?_) | (refine sv rfl (opv_mvt rfl) ?_)
                                                        first | (refine sv rfl (opv_pick_t rfl rfl) ?_) | (refine sv rfl (opv_pick_f rfl rfl) ?_)
                                                        first | (refine sv rfl (opv_mv rfl) ?_) | (refine sv rfl (opv_mvt rfl) ?_)
                                                        refine ssplit 96 rfl (fun hg63 => ?_) (fun hg63 => ?_)
                                                        · first
                                                          | (exfalso; first | omega | contradiction | (simp_all; done))
                                                          | (
                                                              refine son rfl rfl rfl ?_
                                                              first | (refine sv rfl (opv_loadN ti24 rfl (.lp _ _ _ rfl) (Nat.le_of_ble_eq_true rfl)) ?_) | (refine sv rfl (opv_loadN ti24 rfl (.cp _) (Nat.le_of_ble_eq_true rfl)) ?_)
                                                              refine son rfl rfl rfl ?_
                                                              first | (refine sv rfl (opv_mv rfl) ?_) | (refine sv rfl (opv_mvt rfl) ?_)
                                                              refine son rfl rfl rfl ?_
                                                              refine scall1 rfl fn29 (opnds_cons rfl (opnds_cons rfl opnds_nil)) (pubC rfl) (has_c) ?_
                                                              first | (refine sv rfl (opv_pick_t rfl rfl) ?_) | (refine sv rfl (opv_pick_f rfl rfl) ?_)
                                                              first | (refine sv rfl (opv_as rfl) ?_) | (refine sv rfl (opv_ast rfl) ?_)
                                                              refine snil ?_
                                                              refine cseq ?_
                                                              refine cregion ?_
                                                              first | (refine sv rfl (opv_mv rfl) ?_) | (refine sv rfl (opv_mvt rfl) ?_)
                                                              first | (refine sv rfl (opv_mv rfl) ?_) | (refine sv rfl (opv_mvt rfl) ?_)
                                                              refine ssplit 102 rfl (fun hg64 => ?_) (fun hg64 => ?_)
                                                              · first
                                                                | (exfalso; first | omega | contradiction | (simp_all; done))
                                                                | (
                                                                    refine son rfl rfl rfl ?_
                                                                    first | (refine sv rfl (opv_mv rfl) ?_) | (refine sv rfl (opv_mvt rfl) ?_)
                                                                    refine son rfl rfl rfl ?_
                                                                    first | (refine sv rfl (opv_mv rfl) ?_) | (refine sv rfl (opv_mvt rfl) ?_)
                                                                    refine son rfl rfl rfl ?_
                                                                    refine sv rfl (opv_beql Try.underlying4 rfl rfl) ?_
                                                                    first | (refine sv rfl (opv_pick_t rfl rfl) ?_) | (refine sv rfl (opv_pick_f rfl rfl) ?_)
                                                                    first | (refine sv rfl (opv_mv rfl) ?_) | (refine sv rfl (opv_mvt rfl) ?_)
                                                                    refine ssplit 107 rfl (fun hg65 => ?_) (fun hg65 => ?_)
                                                                    · first
                                                                      | (exfalso; first | omega | contradiction | (simp_all; done))
                                                                      | (
                                                                          refine son rfl rfl rfl ?_
                                                                          first | (refine sv rfl (opv_mv rfl) ?_) | (refine sv rfl (opv_mvt rfl) ?_)
                                                                          refine son rfl rfl rfl ?_
                                                                          first | (refine sv rfl (opv_mv rfl) ?_) | (refine sv rfl (opv_mvt rfl) ?_)
                                                                          refine son rfl rfl rfl ?_
                                                                          refine sv rfl (opv_beql Try.underlying4 rfl rfl) ?_
                                                                          first | (refine sv rfl (opv_pick_t rfl rfl) ?_) | (refine sv rfl (opv_pick_f rfl rfl) ?_)
                                                                          first | (refine sv rfl (opv_as rfl) ?_) | (refine sv rfl (opv_ast rfl) ?_)
                                                                          refine snil ?_
                                                                          refine cret ?_
                                                                          refine ⟨Or.inr rfl, _, _, _, (resVs_cons (ResV.tmp _ _ rfl) resVs_nil), (pubA_id rfl), ?_⟩
                                                                          first | rfl | (refine avb ?_; simp_all; done))
                                                                    · first
                                                                      | (exfalso; first | omega | contradiction | (simp_all; done))
                                                                      | (
                                                                          refine soff rfl rfl rfl rfl ?_
                                                                          refine soff rfl rfl rfl rfl ?_
                                                                          refine soff rfl rfl rfl rfl ?_
                                                                          first | (refine sv rfl (opv_pick_t rfl rfl) ?_) | (refine sv rfl (opv_pick_f rfl rfl) ?_)
                                                                          first | (refine sv rfl (opv_as rfl) ?_) | (refine sv rfl (opv_ast rfl) ?_)
                                                                          refine snil ?_
                                                                          refine cret ?_
                                                                          refine ⟨Or.inr rfl, _, _, _, (resVs_cons (ResV.tmp _ _ rfl) resVs_nil), (pubA_id rfl), ?_⟩
                                                                          first | rfl | (refine avb ?_; simp_all; done)))
                                                              · first
                                                                | (exfalso; first | omega | contradiction | (simp_all; done))
                                                                | (
                                                                    refine soff rfl rfl rfl rfl ?_
                                                                    refine soff rfl rfl rfl rfl ?_
                                                                    refine soff rfl rfl rfl rfl ?_
                                                                    first | (refine sv rfl (opv_pick_t rfl rfl) ?_) | (refine sv rfl (opv_pick_f rfl rfl) ?_)
                                                                    first | (refine sv rfl (opv_mv rfl) ?_) | (refine sv rfl (opv_mvt rfl) ?_)
                                                                    refine soff rfl rfl rfl rfl ?_
                                                                    refine soff rfl rfl rfl rfl ?_
                                                                    refine soff rfl rfl rfl rfl ?_
                                                                    first | (refine sv rfl (opv_pick_t rfl rfl) ?_) | (refine sv rfl (opv_pick_f rfl rfl) ?_)
                                                                    first | (refine sv rfl (opv_as rfl) ?_) | (refine sv rfl (opv_ast rfl) ?_)
                                                                    refine snil ?_
                                                                    refine cret ?_
                                                                    refine ⟨Or.inr rfl, _, _, _, (resVs_cons (ResV.tmp _ _ rfl) resVs_nil), (pubA_id rfl), ?_⟩
                                                                    first | rfl | (refine avb ?_; simp_all; done)))
                                                        · first
                                                          | (exfalso; first | omega | contradiction | (simp_all; done))
                                                          | (
                                                              refine soff rfl rfl rfl rfl ?_
                                                              refine soff rfl rfl rfl rfl ?_
                                                              refine soff rfl rfl rfl rfl ?_
                                                              first | (refine sv rfl (opv_pick_t rfl rfl) ?_) | (refine sv rfl (opv_pick_f rfl rfl) ?_)
                                                              first | (refine sv rfl (opv_as rfl) ?_) | (refine sv rfl (opv_ast rfl) ?_)
                                                              refine snil ?_
                                                              refine cseq ?_
                                                              refine cregion ?_
                                                              first | (refine sv rfl (opv_mv rfl) ?_) | (refine sv rfl (opv_mvt rfl) ?_)
                                                              first | (refine sv rfl (opv_mv rfl) ?_) | (refine sv rfl (opv_mvt rfl) ?_)
                                                              refine ssplit 102 rfl (fun hg66 => ?_) (fun hg66 => ?_)
                                                              · first
                                                                | (exfalso; first | omega | contradiction | (simp_all; done))
                                                                | (
                                                                    refine son rfl rfl rfl ?_
                                                                    first | (refine sv rfl (opv_mv rfl) ?_) | (refine sv rfl (opv_mvt rfl) ?_)
                                                                    refine son rfl rfl rfl ?_
                                                                    first | (refine sv rfl (opv_mv rfl) ?_) | (refine sv rfl (opv_mvt rfl) ?_)
                                                                    refine son rfl rfl rfl ?_
                                                                    refine sv rfl (opv_beql Try.underlying4 rfl rfl) ?_
                                                                    first | (refine sv rfl (opv_pick_t rfl rfl) ?_) | (refine sv rfl (opv_pick_f rfl rfl) ?_)
                                                                    first | (refine sv rfl (opv_mv rfl) ?_) | (refine sv rfl (opv_mvt rfl) ?_)
                                                                    refine ssplit 107 rfl (fun hg67 => ?_) (fun hg67 => ?_)
                                                                    · first
                                                                      | (exfalso; first | omega | contradiction | (simp_all; done))
                                                                      | (
                                                                          refine son rfl rfl rfl ?_
                                                                          first | (refine sv rfl (opv_mv rfl) ?_) | (refine sv rfl (opv_mvt rfl) ?_)
                                                                          refine son rfl rfl rfl ?_
                                                                          first | (refine sv rfl (opv_mv rfl) ?_) | (refine sv rfl (opv_mvt rfl) ?_)
                                                                          refine son rfl rfl rfl ?_
                                                                          refine sv rfl (opv_beql Try.underlying4 rfl rfl) ?_
                                                                          first | (refine sv rfl (opv_pick_t rfl rfl) ?_) | (refine sv rfl (opv_pick_f rfl rfl) ?_)
                                                                          first | (refine sv rfl (opv_as rfl) ?_) | (refine sv rfl (opv_ast rfl) ?_)
                                                                          refine snil ?_
                                                                          refine cret ?_
                                                                          refine ⟨Or.inr rfl, _, _, _, (resVs_cons (ResV.tmp _ _ rfl) resVs_nil), (pubA_id rfl), ?_⟩
                                                                          first | rfl | (refine avb ?_; simp_all; done))
                                                                    · first
                                                                      | (exfalso; first | omega | contradiction | (simp_all; done))
                                                                      | (
                                                                          refine soff rfl rfl rfl rfl ?_
                                                                          refine soff rfl rfl rfl rfl ?_
                                                                          refine soff rfl rfl rfl rfl ?_
                                                                          first | (refine sv rfl (opv_pick_t rfl rfl) ?_) | (refine sv rfl (opv_pick_f rfl rfl) ?_)
                                                                          first | (refine sv rfl (opv_as rfl) ?_) | (refine sv rfl (opv_ast rfl) ?_)
                                                                          refine snil ?_
                                                                          refine cret ?_
                                                                          refine ⟨Or.inr rfl, _, _, _, (resVs_cons (ResV.tmp _ _ rfl) resVs_nil), (pubA_id rfl), ?_⟩
                                                                          first | rfl | (refine avb ?_; simp_all; done)))
                                                              · first
                                                                | (exfalso; first | omega | contradiction | (simp_all; done))
                                                                | (
                                                                    refine soff rfl rfl rfl rfl ?_
                                                                    refine soff rfl rfl rfl rfl ?_
                                                                    refine soff rfl rfl rfl rfl ?_
                                                                    first | (refine sv rfl (opv_pick_t rfl rfl) ?_) | (refine sv rfl (opv_pick_f rfl rfl) ?_)
                                                                    first | (refine sv rfl (opv_mv rfl) ?_) | (refine sv rfl (opv_mvt rfl) ?_)
                                                                    refine soff rfl rfl rfl rfl ?_
                                                                    refine soff rfl rfl rfl rfl ?_
                                                                    refine soff rfl rfl rfl rfl ?_
                                                                    first | (refine sv rfl (opv_pick_t rfl rfl) ?_) | (refine sv rfl (opv_pick_f rfl rfl) ?_)
                                                                    first | (refine sv rfl (opv_as rfl) ?_) | (refine sv rfl (opv_ast rfl) ?_)
                                                                    refine snil ?_
                                                                    refine cret ?_
                                                                    refine ⟨Or.inr rfl, _, _, _, (resVs_cons (ResV.tmp _ _ rfl) resVs_nil), (pubA_id rfl), ?_⟩
                                                                    first | rfl | (refine avb ?_; simp_all; done))))
                                                  · first
                                                    | (exfalso; first | omega | contradiction | (simp_all; done))
                                                    | (
                                                        refine soff rfl rfl rfl rfl ?_
                                                        first | (refine sv rfl (opv_pick_t rfl rfl) ?_) | (refine sv rfl (opv_pick_f rfl rfl) ?_)
                                                        first | (refine sv rfl (opv_mv rfl) ?_) | (refine sv rfl (opv_mvt rfl) ?_)
                                                        refine soff rfl rfl rfl rfl ?_
                                                        refine soff rfl rfl rfl rfl ?_
                                                        refine soff rfl rfl rfl rfl ?_
                                                        first | (refine sv rfl (opv_pick_t rfl rfl) ?_) | (refine sv rfl (opv_pick_f rfl rfl) ?_)
                                                        first | (refine sv rfl (opv_as rfl) ?_) | (refine sv rfl (opv_ast rfl) ?_)
                                                        refine snil ?_
                                                        refine cseq ?_
                                                        refine cregion ?_
                                                        first | (refine sv rfl (opv_mv rfl) ?_) | (refine sv rfl (opv_mvt rfl) ?_)
                                                        first | (refine sv rfl (opv_mv rfl) ?_) | (refine sv rfl (opv_mvt rfl) ?_)
                                                        refine ssplit 102 rfl (fun hg68 => ?_) (fun hg68 => ?_)
                                                        · first
                                                          | (exfalso; first | omega | contradiction | (simp_all; done))
                                                          | (
                                                              refine son rfl rfl rfl ?_
                                                              first | (refine sv rfl (opv_mv rfl) ?_) | (refine sv rfl (opv_mvt rfl) ?_)
                                                              refine son rfl rfl rfl ?_
                                                              first | (refine sv rfl (opv_mv rfl) ?_) | (refine sv rfl (opv_mvt rfl) ?_)
                                                              refine son rfl rfl rfl ?_
                                                              refine sv rfl (opv_beql Try.underlying4 rfl rfl) ?_
                                                              first | (refine sv rfl (opv_pick_t rfl rfl) ?_) | (refine sv rfl (opv_pick_f rfl rfl) ?_)
                                                              first | (refine sv rfl (opv_mv rfl) ?_) | (refine sv rfl (opv_mvt rfl) ?_)
                                                              refine ssplit 107 rfl (fun hg69 => ?_) (fun hg69 => ?_)
                                                              · first
                                                                | (exfalso; first | omega | contradiction | (simp_all; done))
                                                                | (
                                                                    refine son rfl rfl rfl ?_
                                                                    first | (refine sv rfl (opv_mv rfl) ?_) | (refine sv rfl (opv_mvt rfl) ?_)
                                                                    refine son rfl rfl rfl ?_
                                                                    first | (refine sv rfl (opv_mv rfl) ?_) | (refine sv rfl (opv_mvt rfl) ?_)
                                                                    refine son rfl rfl rfl ?_
                                                                    refine sv rfl (opv_beql Try.underlying4 rfl rfl) ?_
                                                                    first | (refine sv rfl (opv_pick_t rfl rfl) ?_) | (refine sv rfl (opv_pick_f rfl rfl) ?_)
                                                                    first | (refine sv rfl (opv_as rfl) ?_) | (refine sv rfl (opv_ast rfl) ?_)
                                                                    refine snil ?_
                                                                    refine cret ?_
                                                                    refine ⟨Or.inr rfl, _, _, _, (resVs_cons (ResV.tmp _ _ rfl) resVs_nil), (pubA_id rfl), ?_⟩
                                                                    first | rfl | (refine avb ?_; simp_all; done))
                                                              · first
                                                                | (exfalso; first | omega | contradiction | (simp_all; done))
                                                                | (
                                                                    refine soff rfl rfl rfl rfl ?_
                                                                    refine soff rfl rfl rfl rfl ?_
                                                                    refine soff rfl rfl rfl rfl ?_
                                                                    first | (refine sv rfl (opv_pick_t rfl rfl) ?_) | (refine sv rfl (opv_pick_f rfl rfl) ?_)
                                                                    first | (refine sv rfl (opv_as rfl) ?_) | (refine sv rfl (opv_ast rfl) ?_)
                                                                    refine snil ?_
                                                                    refine cret ?_
                                                                    refine ⟨Or.inr rfl, _, _, _, (resVs_cons (ResV.tmp _ _ rfl) resVs_nil), (pubA_id rfl), ?_⟩
                                                                    first | rfl | (refine avb ?_; simp_all; done)))
                                                        · first
                                                          | (exfalso; first | omega | contradiction | (simp_all; done))
                                                          | (
                                                              refine soff rfl rfl rfl rfl ?_
                                                              refine soff rfl rfl rfl rfl ?_
                                                              refine soff rfl rfl rfl rfl ?_
                                                              first | (refine sv rfl (opv_pick_t rfl rfl) ?_) | (refine sv rfl (opv_pick_f rfl rfl) ?_)
                                                              first | (refine sv rfl (opv_mv rfl) ?_) | (refine sv rfl (opv_mvt rfl) ?_)
                                                              refine soff rfl rfl rfl rfl ?_
                                                              refine soff rfl rfl rfl rfl ?_
                                                              refine soff rfl rfl rfl rfl ?_
                                                              first | (refine sv rfl (opv_pick_t rfl rfl) ?_) | (refine sv rfl (opv_pick_f rfl rfl) ?_)
                                                              first | (refine sv rfl (opv_as rfl) ?_) | (refine sv rfl (opv_ast rfl) ?_)
                                                              refine snil ?_
                                                              refine cret ?_
                                                              refine ⟨Or.inr rfl, _, _, _, (resVs_cons (ResV.tmp _ _ rfl) resVs_nil), (pubA_id rfl), ?_⟩
                                                              first | rfl | (refine avb ?_; simp_all; done))))
                                            · first
                                              | (exfalso; first | omega | contradiction | (simp_all; done))
                                              | (
                                                  refine soff rfl rfl rfl rfl ?_
                                                  refine soff rfl rfl rfl rfl ?_
                                                  refine soff rfl rfl rfl rfl ?_
                                                  first | (refine sv rfl (opv_pick_t rfl rfl) ?_) | (refine sv rfl (opv_pick_f rfl rfl) ?_)
                                                  first | (refine sv rfl (opv_as rfl) ?_) | (refine sv rfl (opv_ast rfl) ?_)
                                                  refine snil ?_
                                                  refine cseq ?_
                                                  refine cregion ?_
                                                  first | (refine sv rfl (opv_mv rfl) ?_) | (refine sv rfl (opv_mvt rfl) ?_)
                                                  first | (refine sv rfl (opv_mv rfl) ?_) | (refine sv rfl (opv_mvt rfl) ?_)
                                                  refine ssplit 93 rfl (fun hg70 => ?_) (fun hg70 => ?_)
                                                  · first
                                                    | (exfalso; first | omega | contradiction | (simp_all; done))
                                                    | (
                                                        refine son rfl rfl rfl ?_
                                                        first | (refine sv rfl (opv_mv rfl) ?_) | (refine sv rfl (opv_mvt rfl) ?_)
                                                        first | (refine sv rfl (opv_pick_t rfl rfl) ?_) | (refine sv rfl (opv_pick_f rfl rfl) ?_)
                                                        first | (refine sv rfl (opv_mv rfl) ?_) | (refine sv rfl (opv_mvt rfl) ?_)
                                                        refine ssplit 96 rfl (fun hg71 => ?_) (fun hg71 => ?_)
                                                        · first
                                                          | (exfalso; first | omega | contradiction | (simp_all; done))
                                                          | (
                                                              refine son rfl rfl rfl ?_
                                                              first | (refine sv rfl (opv_loadN ti24 rfl (.lp _ _ _ rfl) (Nat.le_of_ble_eq_true rfl)) ?_) | (refine sv rfl (opv_loadN ti24 rfl (.cp _) (Nat.le_of_ble_eq_true rfl)) ?_)
                                                              refine son rfl rfl rfl ?_
                                                              first | (refine sv rfl (opv_mv rfl) ?_) | (refine sv rfl (opv_mvt rfl) ?_)
                                                              refine son rfl rfl rfl ?_
                                                              refine scall1 rfl fn29 (opnds_cons rfl (opnds_cons rfl opnds_nil)) (pubC rfl) (has_c) ?_
                                                              first | (refine sv rfl (opv_pick_t rfl rfl) ?_) | (refine sv rfl (opv_pick_f rfl rfl) ?_)
                                                              first | (refine sv rfl (opv_as rfl) ?_) | (refine sv rfl (opv_ast rfl) ?_)
                                                              refine snil ?_
                                                              refine cseq ?_
                                                              refine cregion ?_
                                                              first | (refine sv rfl (opv_mv rfl) ?_) | (refine sv rfl (opv_mvt rfl) ?_)
                                                              first | (refine sv rfl (opv_mv rfl) ?_) | (refine sv rfl (opv_mvt rfl) ?_)
                                                              refine ssplit 102 rfl (fun hg72 => ?_) (fun hg72 => ?_)
                                                              · first
                                                                | (exfalso; first | omega | contradiction | (simp_all; done))
                                                                | (
                                                                    refine son rfl rfl rfl ?_
                                                                    first | (refine sv rfl (opv_mv rfl) ?_) | (refine sv rfl (opv_mvt rfl) ?_)
                                                                    refine son rfl rfl rfl ?_
                                                                    first | (refine sv rfl (opv_mv rfl) ?_) | (refine sv rfl (opv_mvt rfl) ?_)
                                                                    refine son rfl rfl rfl ?_
                                                                    refine sv rfl (opv_beql Try.underlying4 rfl rfl) ?_
                                                                    first | (refine sv rfl (opv_pick_t rfl rfl) ?_) | (refine sv rfl (opv_pick_f rfl rfl) ?_)
                                                                    first | (refine sv rfl (opv_mv rfl) ?_) | (refine sv rfl (opv_mvt rfl) ?_)
                                                                    refine ssplit 107 rfl (fun hg73 => ?_) (fun hg73 => ?_)
                                                                    · first
                                                                      | (exfalso; first | omega | contradiction | (simp_all; done))
                                                                      | (
                                                                          refine son rfl rfl rfl ?_
                                                                          first | (refine sv rfl (opv_mv rfl) ?_) | (refine sv rfl (opv_mvt rfl) ?_)
                                                                          refine son rfl rfl rfl ?_
                                                                          first | (refine sv rfl (opv_mv rfl) ?_) | (refine sv rfl (opv_mvt rfl) ?_)
                                                                          refine son rfl rfl rfl ?_
                                                                          refine sv rfl (opv_beql Try.underlying4 rfl rfl) ?_
                                                                          first | (refine sv rfl (opv_pick_t rfl rfl) ?_) | (refine sv rfl (opv_pick_f rfl rfl) ?_)
                                                                          first | (refine sv rfl (opv_as rfl) ?_) | (refine sv rfl (opv_ast rfl) ?_)
                                                                          refine snil ?_
                                                                          refine cret ?_
                                                                          refine ⟨Or.inr rfl, _, _, _, (resVs_cons (ResV.tmp _ _ rfl) resVs_nil), (pubA_id rfl), ?_⟩
                                                                          first | rfl | (refine avb ?_; simp_all; done))
                                                                    · first
                                                                      | (exfalso; first | omega | contradiction | (simp_all; done))
                                                                      | (
                                                                          refine soff rfl rfl rfl rfl ?_
                                                                          refine soff rfl rfl rfl rfl ?_
                                                                          refine soff rfl rfl rfl rfl ?_
                                                                          first | (refine sv rfl (opv_pick_t rfl rfl) ?_) | (refine sv rfl (opv_pick_f rfl rfl) ?_)
                                                                          first | (refine sv rfl (opv_as rfl) ?_) | (refine sv rfl (opv_ast rfl) ?_)
                                                                          refine snil ?_
                                                                          refine cret ?_
                                                                          refine ⟨Or.inr rfl, _, _, _, (resVs_cons (ResV.tmp _ _ rfl) resVs_nil), (pubA_id rfl), ?_⟩
                                                                          first | rfl | (refine avb ?_; simp_all; done)))
                                                              · first
                                                                | (exfalso; first | omega | contradiction | (simp_all; done))
                                                                | (
                                                                    refine soff rfl rfl rfl rfl ?_
                                                                    refine soff rfl rfl rfl rfl ?_
                                                                    refine soff rfl rfl rfl rfl ?_
                                                                    first | (refine sv rfl (opv_pick_t rfl rfl) ?_) | (refine sv rfl (opv_pick_f rfl rfl) ?_)
                                                                    first | (refine sv rfl (opv_mv rfl) ?_) | (refine sv rfl (opv_mvt rfl) ?_)
                                                                    refine soff rfl rfl rfl rfl ?_
                                                                    refine soff rfl rfl rfl rfl ?_
                                                                    refine soff rfl rfl rfl rfl ?_
                                                                    first | (refine sv rfl (opv_pick_t rfl rfl) ?_) | (refine sv rfl (opv_pick_f rfl rfl) ?_)
                                                                    first | (refine sv rfl (opv_as rfl) ?_) | (refine sv rfl (opv_ast rfl) ?_)
                                                                    refine snil ?_
                                                                    refine cret ?_
                                                                    refine ⟨Or.inr rfl, _, _, _, (resVs_cons (ResV.tmp _ _ rfl) resVs_nil), (pubA_id rfl), ?_⟩
                                                                    first | rfl | (refine avb ?_; simp_all; done)))
                                                        · first
                                                          | (exfalso; first | omega | contradiction | (simp_all; done))
                                                          | (
                                                              refine soff rfl rfl rfl rfl ?_
                                                              refine soff rfl rfl rfl rfl ?_
                                                              refine soff rfl rfl rfl rfl ?_
                                                              first | (refine sv rfl (opv_pick_t rfl rfl) ?_) | (refine sv rfl (opv_pick_f rfl rfl) ?_)
                                                              first | (refine sv rfl (opv_as rfl) ?_) | (refine sv rfl (opv_ast rfl) ?_)
                                                              refine snil ?_
                                                              refine cseq ?_
                                                              refine cregion ?_
                                                              first | (refine sv rfl (opv_mv rfl) ?_) | (refine sv rfl (opv_mvt rfl) ?_)
                                                              first | (refine sv rfl (opv_mv rfl) ?_) | (refine sv rfl (opv_mvt rfl) ?_)
                                                              refine ssplit 102 rfl (fun hg74 => ?_) (fun hg74 => ?_)
                                                              · first
                                                                | (exfalso; first | omega | contradiction | (simp_all; done))
                                                                | (
                                                                    refine son rfl rfl rfl ?_
                                                                    first | (refine sv rfl (opv_mv rfl) ?_) | (refine sv rfl (opv_mvt rfl) ?_)
                                                                    refine son rfl rfl rfl ?_
                                                                    first | (refine sv rfl (opv_mv rfl) ?_) | (refine sv rfl (opv_mvt rfl) ?_)
                                                                    refine son rfl rfl rfl ?_
                                                                    refine sv rfl (opv_beql Try.underlying4 rfl rfl) ?_
                                                                    first | (refine sv rfl (opv_pick_t rfl rfl) ?_) | (refine sv rfl (opv_pick_f rfl rfl) ?_)
                                                                    first | (refine sv rfl (opv_mv rfl) ?_) | (refine sv rfl (opv_mvt rfl) ?_)
                                                                    refine ssplit 107 rfl (fun hg75 => ?_) (fun hg75 => ?_)
                                                                    · first
                                                                      | (exfalso; first | omega | contradiction | (simp_all; done))
                                                                      | (
                                                                          refine son rfl rfl rfl ?_
                                                                          first | (refine sv rfl (opv_mv rfl) ?_) | (refine sv rfl (opv_mvt rfl) ?_)
                                                                          refine son rfl rfl rfl ?_
                                                                          first | (refine sv rfl (opv_mv rfl) ?_) | (refine sv rfl (opv_mvt rfl) ?_)
                                                                          refine son rfl rfl rfl ?_
                                                                          refine sv rfl (opv_beql Try.underlying4 rfl rfl) ?_
                                                                          first | (refine sv rfl (opv_pick_t rfl rfl) ?_) | (refine sv rfl (opv_pick_f rfl rfl) ?_)
                                                                          first | (refine sv rfl (opv_as rfl) ?_) | (refine sv rfl (opv_ast rfl) ?_)
                                                                          refine snil ?_
                                                                          refine cret ?_
                                                                          refine ⟨Or.inr rfl, _, _, _, (resVs_cons (ResV.tmp _ _ rfl) resVs_nil), (pubA_id rfl), ?_⟩
                                                                          first | rfl | (refine avb ?_; simp_all; done))
                                                                    · first
                                                                      | (exfalso; first | omega | contradiction | (simp_all; done))
                                                                      | (
                                                                          refine soff rfl rfl rfl rfl ?_
                                                                          refine soff rfl rfl rfl rfl ?_
                                                                          refine soff rfl rfl rfl rfl ?_
                                                                          first | (refine sv rfl (opv_pick_t rfl rfl) ?_) | (refine sv rfl (opv_pick_f rfl rfl) ?_)
                                                                          first | (refine sv rfl (opv_as rfl) ?_) | (refine sv rfl (opv_ast rfl) ?_)
                                                                          refine snil ?_
                                                                          refine cret ?_
                                                                          refine ⟨Or.inr rfl, _, _, _, (resVs_cons (ResV.tmp _ _ rfl) resVs_nil), (pubA_id rfl), ?_⟩
                                                                          first | rfl | (refine avb ?_; simp_all; done)))
                                                              · first
                                                                | (exfalso; first | omega | contradiction | (simp_all; done))
                                                                | (
                                                                    refine soff rfl rfl rfl rfl ?_
                                                                    refine soff rfl rfl rfl rfl ?_
                                                                    refine soff rfl rfl rfl rfl ?_
                                                                    first | (refine sv rfl (opv_pick_t rfl rfl) ?_) | (refine sv rfl (opv_pick_f rfl rfl) ?_)
                                                                    first | (refine sv rfl (opv_mv rfl) ?_) | (refine sv rfl (opv_mvt rfl) ?_)
                                                                    refine soff rfl rfl rfl rfl ?_
                                                                    refine soff rfl rfl rfl rfl ?_
                                                                    refine soff rfl rfl rfl rfl ?_
                                                                    first | (refine sv rfl (opv_pick_t rfl rfl) ?_) | (refine sv rfl (opv_pick_f rfl rfl) ?_)
                                                                    first | (refine sv rfl (opv_as rfl) ?_) | (refine sv rfl (opv_ast rfl) ?_)
                                                                    refine snil ?_
                                                                    refine cret ?_
                                                                    refine ⟨Or.inr rfl, _, _, _, (resVs_cons (ResV.tmp _ _ rfl) resVs_nil), (pubA_id rfl), ?_⟩
                                                                    first | rfl | (refine avb ?_; simp_all; done))))
                                                  · first
                                                    | (exfalso; first | omega | contradiction | (simp_all; done))
                                                    | (
                                                        refine soff rfl rfl rfl rfl ?_
                                                        first | (refine sv rfl (opv_pick_t rfl rfl) ?_) | (refine sv rfl (opv_pick_f rfl rfl) ?_)
                                                        first | (refine sv rfl (opv_mv rfl) ?_) | (refine sv rfl (opv_mvt rfl) ?_)
                                                        refine soff rfl rfl rfl rfl ?_
                                                        refine soff rfl rfl rfl rfl ?_
                                                        refine soff rfl rfl rfl rfl ?_
                                                        first | (refine sv rfl (opv_pick_t rfl rfl) ?_) | (refine sv rfl (opv_pick_f rfl rfl) ?_)
                                                        first | (refine sv rfl (opv_as rfl) ?_) | (refine sv rfl (opv_ast rfl) ?_)
                                                        refine snil ?_
                                                        refine cseq ?_
                                                        refine cregion ?_
                                                        first | (refine sv rfl (opv_mv rfl) ?_) | (refine sv rfl (opv_mvt rfl) ?_)
                                                        first | (refine sv rfl (opv_mv rfl) ?_) | (refine sv rfl (opv_mvt rfl) ?_)
                                                        refine ssplit 102 rfl (fun hg76 => ?_) (fun hg76 => ?_)
                                                        · first
                                                          | (exfalso; first | omega | contradiction | (simp_all; done))
                                                          | (
                                                              refine son rfl rfl rfl ?_
                                                              first | (refine sv rfl (opv_mv rfl) ?_) | (refine sv rfl (opv_mvt rfl) ?_)
                                                              refine son rfl rfl rfl ?_
                                                              first | (refine sv rfl (opv_mv rfl) ?_) | (refine sv rfl (opv_mvt rfl) ?_)
                                                              refine son rfl rfl rfl ?_
                                                              refine sv rfl (opv_beql Try.underlying4 rfl rfl) ?_
                                                              first | (refine sv rfl (opv_pick_t rfl rfl) ?_) | (refine sv rfl (opv_pick_f rfl rfl) ?_)
                                                              first | (refine sv rfl (opv_mv rfl) ?_) | (refine sv rfl (opv_mvt rfl) ?_)
                                                              refine ssplit 107 rfl (fun hg77 => ?_) (fun hg77 => ?_)
                                                              · first
                                                                | (exfalso; first | omega | contradiction | (simp_all; done))
                                                                | (
                                                                    refine son rfl rfl rfl ?_
                                                                    first | (refine sv rfl (opv_mv rfl) ?_) | (refine sv rfl (opv_mvt rfl) ?_)
                                                                    refine son rfl rfl rfl ?_
                                                                    first | (refine sv rfl (opv_mv rfl) ?_) | (refine sv rfl (opv_mvt rfl) ?_)
                                                                    refine son rfl rfl rfl ?_
                                                                    refine sv rfl (opv_beql Try.underlying4 rfl rfl) ?_
                                                                    first | (refine sv rfl (opv_pick_t rfl rfl) ?_) | (refine sv rfl (opv_pick_f rfl rfl) ?_)
                                                                    first | (refine sv rfl (opv_as rfl) ?_) | (refine sv rfl (opv_ast rfl) ?_)
                                                                    refine snil ?_
                                                                    refine cret ?_
                                                                    refine ⟨Or.inr rfl, _, _, _, (resVs_cons (ResV.tmp _ _ rfl) resVs_nil), (pubA_id rfl), ?_⟩
                                                                    first | rfl | (refine avb ?_; simp_all; done))
                                                              · first
                                                                | (exfalso; first | omega | contradiction | (simp_all; done))
                                                                | (
                                                                    refine soff rfl rfl rfl rfl ?_
                                                                    refine soff rfl rfl rfl rfl ?_
                                                                    refine soff rfl rfl rfl rfl ?_
                                                                    first | (refine sv rfl (opv_pick_t rfl rfl) ?_) | (refine sv rfl (opv_pick_f rfl rfl) ?_)
                                                                    first | (refine sv rfl (opv_as rfl) ?_) | (refine sv rfl (opv_ast rfl) ?_)
                                                                    refine snil ?_
                                                                    refine cret ?_
                                                                    refine ⟨Or.inr rfl, _, _, _, (resVs_cons (ResV.tmp _ _ rfl) resVs_nil), (pubA_id rfl), ?_⟩
                                                                    first | rfl | (refine avb ?_; simp_all; done)))
                                                        · first
                                                          | (exfalso; first | omega | contradiction | (simp_all; done))
                                                          | (
                                                              refine soff rfl rfl rfl rfl ?_
                                                              refine soff rfl rfl rfl rfl ?_
                                                              refine soff rfl rfl rfl rfl ?_
                                                              first | (refine sv rfl (opv_pick_t rfl rfl) ?_) | (refine sv rfl (opv_pick_f rfl rfl) ?_)
                                                              first | (refine sv rfl (opv_mv rfl) ?_) | (refine sv rfl (opv_mvt rfl) ?_)
                                                              refine soff rfl rfl rfl rfl ?_
                                                              refine soff rfl rfl rfl rfl ?_
                                                              refine soff rfl rfl rfl rfl ?_
                                                              first | (refine sv rfl (opv_pick_t rfl rfl) ?_) | (refine sv rfl (opv_pick_f rfl rfl) ?_)
                                                              first | (refine sv rfl (opv_as rfl) ?_) | (refine sv rfl (opv_ast rfl) ?_)
                                                              refine snil ?_
                                                              refine cret ?_
                                                              refine ⟨Or.inr rfl, _, _, _, (resVs_cons (ResV.tmp _ _ rfl) resVs_nil), (pubA_id rfl), ?_⟩
                                                              first | rfl | (refine avb ?_; simp_all; done)))))
                                      · first
                                        | (exfalso; first | omega | contradiction | (simp_all; done))
                                        | (
                                            refine soff rfl rfl rfl rfl ?_
                                            first | (refine sv rfl (opv_pick_t rfl rfl) ?_) | (refine sv rfl (opv_pick_f rfl rfl) ?_)
                                            first | (refine sv rfl (opv_mv rfl) ?_) | (refine sv rfl (opv_mvt rfl) ?_)
                                            refine soff rfl rfl rfl rfl ?_
                                            refine soff rfl rfl rfl rfl ?_
                                            refine soff rfl rfl rfl rfl ?_
                                            first | (refine sv rfl (opv_pick_t rfl rfl) ?_) | (refine sv rfl (opv_pick_f rfl rfl) ?_)
                                            first | (refine sv rfl (opv_as rfl) ?_) | (refine sv rfl (opv_ast rfl) ?_)
                                            refine snil ?_
                                            refine cseq ?_
                                            refine cregion ?_
                                            first | (refine sv rfl (opv_mv rfl) ?_) | (refine sv rfl (opv_mvt rfl) ?_)
                                            first | (refine sv rfl (opv_mv rfl) ?_) | (refine sv rfl (opv_mvt rfl) ?_)
                                            refine ssplit 93 rfl (fun hg78 => ?_) (fun hg78 => ?_)
                                            · first
                                              | (exfalso; first | omega | contradiction | (simp_all; done))
                                              | (
                                                  refine son rfl rfl rfl ?_
                                                  first | (refine sv rfl (opv_mv rfl) ?_) | (refine sv rfl (opv_mvt rfl) ?_)
                                                  first | (refine sv rfl (opv_pick_t rfl rfl) ?_) | (refine sv rfl (opv_pick_f rfl rfl) ?_)
                                                  first | (refine sv rfl (opv_mv rfl) ?_) | (refine sv rfl (opv_mvt rfl) ?_)
                                                  refine ssplit 96 rfl (fun hg79 => ?_) (fun hg79 => ?_)
                                                  · first
                                                    | (exfalso; first | omega | contradiction | (simp_all; done))
                                                    | (
                                                        refine son rfl rfl rfl ?_
                                                        first | (refine sv rfl (opv_loadN ti24 rfl (.lp _ _ _ rfl) (Nat.le_of_ble_eq_true rfl)) ?_) | (refine sv rfl (opv_loadN ti24 rfl (.cp _) (Nat.le_of_ble_eq_true rfl)) ?_)
                                                        refine son rfl rfl rfl ?_
                                                        first | (refine sv rfl (opv_mv rfl) ?_) | (refine sv rfl (opv_mvt rfl) ?_)
                                                        refine son rfl rfl rfl ?_
                                                        refine scall1 rfl fn29 (opnds_cons rfl (opnds_cons rfl opnds_nil)) (pubC rfl) (has_c) ?_
                                                        first | (refine sv rfl (opv_pick_t rfl rfl) ?_) | (refine sv rfl (opv_pick_f rfl rfl) ?_)
                                                        first | (refine sv rfl (opv_as rfl) ?_) | (refine sv rfl (opv_ast rfl) ?_)
                                                        refine snil ?_
                                                        refine cseq ?_
                                                        refine cregion ?_
                                                        first | (refine sv rfl (opv_mv rfl) ?_) | (refine sv rfl (opv_mvt rfl) ?_)
                                                        first | (refine sv rfl (opv_mv rfl) ?_) | (refine sv rfl (opv_mvt rfl) ?_)
                                                        refine ssplit 102 rfl (fun hg80 => ?_) (fun hg80 => ?_)
                                                        · first
                                                          | (exfalso; first | omega | contradiction | (simp_all; done))
                                                          | (
                                                              refine son rfl rfl rfl ?_
                                                              first | (refine sv rfl (opv_mv rfl) ?_) | (refine sv rfl (opv_mvt rfl) ?_)
                                                              refine son rfl rfl rfl ?_
                                                              first | (refine sv rfl (opv_mv rfl) ?_) | (refine sv rfl (opv_mvt rfl) ?_)
                                                              refine son rfl rfl rfl ?_
                                                              refine sv rfl (opv_beql Try.underlying4 rfl rfl) ?_
                                                              first | (refine sv rfl (opv_pick_t rfl rfl) ?_) | (refine sv rfl (opv_pick_f rfl rfl) ?_)
                                                              first | (refine sv rfl (opv_mv rfl) ?_) | (refine sv rfl (opv_mvt rfl) ?_)
                                                              refine ssplit 107 rfl (fun hg81 => ?_) (fun hg81 => ?_)
                                                              · first
                                                                | (exfalso; first | omega | contradiction | (simp_all; done))
                                                                | (
                                                                    refine son rfl rfl rfl ?_
                                                                    first | (refine sv rfl (opv_mv rfl) ?_) | (refine sv rfl (opv_mvt rfl) ?_)
                                                                    refine son rfl rfl rfl ?_
                                                                    first | (refine sv rfl (opv_mv rfl) ?_) | (refine sv rfl (opv_mvt rfl) ?_)
                                                                    refine son rfl rfl rfl ?_
                                                                    refine sv rfl (opv_beql Try.underlying4 rfl rfl) ?_
                                                                    first | (refine sv rfl (opv_pick_t rfl rfl) ?_) | (refine sv rfl (opv_pick_f rfl rfl) ?_)
                                                                    first | (refine sv rfl (opv_as rfl) ?_) | (refine sv rfl (opv_ast rfl) ?_)
                                                                    refine snil ?_
                                                                    refine cret ?_
                                                                    refine ⟨Or.inr rfl, _, _, _, (resVs_cons (ResV.tmp _ _ rfl) resVs_nil), (pubA_id rfl), ?_⟩
                                                                    first | rfl | (refine avb ?_; simp_all; done))
                                                              · first
                                                                | (exfalso; first | omega | contradiction | (simp_all; done))
                                                                | (
                                                                    refine soff rfl rfl rfl rfl ?_
                                                                    refine soff rfl rfl rfl rfl ?_
                                                                    refine soff rfl rfl rfl rfl ?_
                                                                    first | (refine sv rfl (opv_pick_t rfl rfl) ?_) | (refine sv rfl (opv_pick_f rfl rfl) ?_)
                                                                    first | (refine sv rfl (opv_as rfl) ?_) | (refine sv rfl (opv_ast rfl) ?_)
                                                                    refine snil ?_
                                                                    refine cret ?_
                                                                    refine ⟨Or.inr rfl, _, _, _, (resVs_cons (ResV.tmp _ _ rfl) resVs_nil), (pubA_id rfl), ?_⟩
                                                                    first | rfl | (refine avb ?_; simp_all; done)))
                                                        · first
                                                          | (exfalso; first | omega | contradiction | (simp_all; done))
                                                          | (
                                                              refine soff rfl rfl rfl rfl ?_
                                                              refine soff rfl rfl rfl rfl ?_
                                                              refine soff rfl rfl rfl rfl ?_
                                                              first | (refine sv rfl (opv_pick_t rfl rfl) ?_) | (refine sv rfl (opv_pick_f rfl rfl) ?_)
                                                              first | (refine sv rfl (opv_mv rfl) ?_) | (refine sv rfl (opv_mvt rfl) ?_)
                                                              refine soff rfl rfl rfl rfl ?_
                                                              refine soff rfl rfl rfl rfl ?_
                                                              refine soff rfl rfl rfl rfl ?_
                                                              first | (refine sv rfl (opv_pick_t rfl rfl) ?_) | (refine sv rfl (opv_pick_f rfl rfl) ?_)
                                                              first | (refine sv rfl (opv_as rfl) ?_) | (refine sv rfl (opv_ast rfl) ?_)
                                                              refine snil ?_
                                                              refine cret ?_
                                                              refine ⟨Or.inr rfl, _, _, _, (resVs_cons (ResV.tmp _ _ rfl) resVs_nil), (pubA_id rfl), ?_⟩
                                                              first | rfl | (refine avb ?_; simp_all; done)))
                                                  · first
                                                    | (exfalso; first | omega | contradiction | (simp_all; done))
                                                    | (
                                                        refine soff rfl rfl rfl rfl ?_
                                                        refine soff rfl rfl rfl rfl ?_
                                                        refine soff rfl rfl rfl rfl ?_
                                                        first | (refine sv rfl (opv_pick_t rfl rfl) ?_) | (refine sv rfl (opv_pick_f rfl rfl) ?_)
                                                        first | (refine sv rfl (opv_as rfl) ?_) | (refine sv rfl (opv_ast rfl) ?_)
                                                        refine snil ?_
                                                        refine cseq ?_
                                                        refine cregion ?_
                                                        first | (refine sv rfl (opv_mv rfl) ?_) | (refine sv rfl (opv_mvt rfl) ?_)
                                                        first | (refine sv rfl (opv_mv rfl) ?_) | (refine sv rfl (opv_mvt rfl) ?_)
                                                        refine ssplit 102 rfl (fun hg82 => ?_) (fun hg82 => ?_)
                                                        · first
                                                          | (exfalso; first | omega | contradiction | (simp_all; done))
                                                          | (
                                                              refine son rfl rfl rfl ?_
                                                              first | (refine sv rfl (opv_mv rfl) ?_) | (refine sv rfl (opv_mvt rfl) ?_)
                                                              refine son rfl rfl rfl ?_
                                                              first | (refine sv rfl (opv_mv rfl) ?_) | (refine sv rfl (opv_mvt rfl) ?_)
                                                              refine son rfl rfl rfl ?_
                                                              refine sv rfl (opv_beql Try.underlying4 rfl rfl) ?_
                                                              first | (refine sv rfl (opv_pick_t rfl rfl) ?_) | (refine sv rfl (opv_pick_f rfl rfl) ?_)
                                                              first | (refine sv rfl (opv_mv rfl) ?_) | (refine sv rfl (opv_mvt rfl) ?_)
                                                              refine ssplit 107 rfl (fun hg83 => ?_) (fun hg83 => ?_)
                                                              · first
                                                                | (exfalso; first | omega | contradiction | (simp_all; done))
                                                                | (
                                                                    refine son rfl rfl rfl ?_
                                                                    first | (refine sv rfl (opv_mv rfl) ?_) | (refine sv rfl (opv_mvt rfl) ?_)
                                                                    refine son rfl rfl rfl ?_
                                                                    first | (refine sv rfl (opv_mv rfl) ?_) | (refine sv rfl (opv_mvt rfl) ?_)
                                                                    refine son rfl rfl rfl ?_
                                                                    refine sv rfl (opv_beql Try.underlying4 rfl rfl) ?_
                                                                    first | (refine sv rfl (opv_pick_t rfl rfl) ?_) | (refine sv rfl (opv_pick_f rfl rfl) ?_)
                                                                    first | (refine sv rfl (opv_as rfl) ?_) | (refine sv rfl (opv_ast rfl) ?_)
                                                                    refine snil ?_
                                                                    refine cret ?_
                                                                    refine ⟨Or.inr rfl, _, _, _, (resVs_cons (ResV.tmp _ _ rfl) resVs_nil), (pubA_id rfl), ?_⟩
                                                                    first | rfl | (refine avb ?_; simp_all; done))
                                                              · first
                                                                | (exfalso; first | omega | contradiction | (simp_all; done))
                                                                | (
                                                                    refine soff rfl rfl rfl rfl ?_
                                                                    refine soff rfl rfl rfl rfl ?_
                                                                    refine soff rfl rfl rfl rfl ?_
                                                                    first | (refine sv rfl (opv_pick_t rfl rfl) ?_) | (refine sv rfl (opv_pick_f rfl rfl) ?_)
                                                                    first | (refine sv rfl (opv_as rfl) ?_) | (refine sv rfl (opv_ast rfl) ?_)
                                                                    refine snil ?_
                                                                    refine cret ?_
                                                                    refine ⟨Or.inr rfl, _, _, _, (resVs_cons (ResV.tmp _ _ rfl) resVs_nil), (pubA_id rfl), ?_⟩
                                                                    first | rfl | (refine avb ?_; simp_all; done)))
                                                        · first
                                                          | (exfalso; first | omega | contradiction | (simp_all; done))
                                                          | (
                                                              refine soff rfl rfl rfl rfl ?_
                                                              refine soff rfl rfl rfl rfl ?_
                                                              refine soff rfl rfl rfl rfl ?_
                                                              first | (refine sv rfl (opv_pick_t rfl rfl) ?_) | (refine sv rfl (opv_pick_f rfl rfl) ?_)
                                                              first | (refine sv rfl (opv_mv rfl) ?_) | (refine sv rfl (opv_mvt rfl) ?_)
                                                              refine soff rfl rfl rfl rfl ?_
                                                              refine soff rfl rfl rfl rfl ?_
                                                              refine soff rfl rfl rfl rfl ?_
                                                              first | (refine sv rfl (opv_pick_t rfl rfl) ?_) | (refine sv rfl (opv_pick_f rfl rfl) ?_)
                                                              first | (refine sv rfl (opv_as rfl) ?_) | (refine sv rfl (opv_ast rfl) ?_)
                                                              refine snil ?_
                                                              refine cret ?_
                                                              refine ⟨Or.inr rfl, _, _, _, (resVs_cons (ResV.tmp _ _ rfl) resVs_nil), (pubA_id rfl), ?_⟩
                                                              first | rfl | (refine avb ?_; simp_all; done))))
                                            · first
                                              | (exfalso; first | omega | contradiction | (simp_all; done))
                                              | (
                                                  refine soff rfl rfl rfl rfl ?_
                                                  first | (refine sv rfl (opv_pick_t rfl rfl) ?_) | (refine sv rfl (opv_pick_f rfl rfl) ?_)
                                                  first | (refine sv rfl (opv_mv rfl) ?_) | (refine sv rfl (opv_mvt rfl) ?_)
                                                  refine soff rfl rfl rfl rfl ?_
                                                  refine soff rfl rfl rfl rfl ?_
                                                  refine soff rfl rfl rfl rfl ?_
                                                  first | (refine sv rfl (opv_pick_t rfl rfl) ?_) | (refine sv rfl (opv_pick_f rfl rfl) ?_)
                                                  first | (refine sv rfl (opv_as rfl) ?_) | (refine sv rfl (opv_ast rfl) ?_)
                                                  refine snil ?_
                                                  refine cseq ?_
                                                  refine cregion ?_
                                                  first | (refine sv rfl (opv_mv rfl) ?_) | (refine sv rfl (opv_mvt rfl) ?_)
                                                  first | (refine sv rfl (opv_mv rfl) ?_) | (refine sv rfl (opv_mvt rfl) ?_)
                                                  refine ssplit 102 rfl (fun hg84 => ?_) (fun hg84 => ?_)
                                                  · first
                                                    | (exfalso; first | omega | contradiction | (simp_all; done))
                                                    | (
                                                        refine son rfl rfl rfl ?_
                                                        first | (refine sv rfl (opv_mv rfl) ?_) | (refine sv rfl (opv_mvt rfl) ?_)
                                                        refine son rfl rfl rfl ?_
                                                        first | (refine sv rfl (opv_mv rfl) ?_) | (refine sv rfl (opv_mvt rfl) ?_)
                                                        refine son rfl rfl rfl ?_
                                                        refine sv rfl (opv_beql Try.underlying4 rfl rfl) ?_
                                                        first | (refine sv rfl (opv_pick_t rfl rfl) ?_) | (refine sv rfl (opv_pick_f rfl rfl) ?_)
                                                        first | (refine sv rfl (opv_mv rfl) ?_) | (refine sv rfl (opv_mvt rfl) ?_)
                                                        refine ssplit 107 rfl (fun hg85 => ?_) (fun hg85 => ?_)
                                                        · first
                                                          | (exfalso; first | omega | contradiction | (simp_all; done))
                                                          | (
                                                              refine son rfl rfl rfl ?_
                                                              first | (refine sv rfl (opv_mv rfl) ?_) | (refine sv rfl (opv_mvt rfl) ?_)
                                                              refine son rfl rfl rfl ?_
                                                              first | (refine sv rfl (opv_mv rfl) ?_) | (refine sv rfl (opv_mvt rfl) ?_)
                                                              refine son rfl rfl rfl ?_
                                                              refine sv rfl (opv_beql Try.underlying4 rfl rfl) ?_
                                                              first | (refine sv rfl (opv_pick_t rfl rfl) ?_) | (refine sv rfl (opv_pick_f rfl rfl) ?_)
                                                              first | (refine sv rfl (opv_as rfl) ?_) | (refine sv rfl (opv_ast rfl) ?_)
                                                              refine snil ?_
                                                              refine cret ?_
                                                              refine ⟨Or.inr rfl, _, _, _, (resVs_cons (ResV.tmp _ _ rfl) resVs_nil), (pubA_id rfl), ?_⟩
                                                              first | rfl | (refine avb ?_; simp_all; done))
                                                        · first
                                                          | (exfalso; first | omega | contradiction | (simp_all; done))
                                                          | (
                                                              refine soff rfl rfl rfl rfl ?_
                                                              refine soff rfl rfl rfl rfl ?_
                                                              refine soff rfl rfl rfl rfl ?_
                                                              first | (refine sv rfl (opv_pick_t rfl rfl) ?_) | (refine sv rfl (opv_pick_f rfl rfl) ?_)
                                                              first | (refine sv rfl (opv_as rfl) ?_) | (refine sv rfl (opv_ast rfl) ?_)
                                                              refine snil ?_
                                                              refine cret ?_
                                                              refine ⟨Or.inr rfl, _, _, _, (resVs_cons (ResV.tmp _ _ rfl) resVs_nil), (pubA_id rfl), ?_⟩
                                                              first | rfl | (refine avb ?_; simp_all; done)))
                                                  · first
                                                    | (exfalso; first | omega | contradiction | (simp_all; done))
                                                    | (
                                                        refine soff rfl rfl rfl rfl ?_
                                                        refine soff rfl rfl rfl rfl ?_
                                                        refine soff rfl rfl rfl rfl ?_
                                                        first | (refine sv rfl (opv_pick_t rfl rfl) ?_) | (refine sv rfl (opv_pick_f rfl rfl) ?_)
                                                        first | (refine sv rfl (opv_mv rfl) ?_) | (refine sv rfl (opv_mvt rfl) ?_)
                                                        refine soff rfl rfl rfl rfl ?_
                                                        refine soff rfl rfl rfl rfl ?_
                                                        refine soff rfl rfl rfl rfl ?_
                                                        first | (refine sv rfl (opv_pick_t rfl rfl) ?_) | (refine sv rfl (opv_pick_f rfl rfl) ?_)
                                                        first | (refine sv rfl (opv_as rfl) ?_) | (refine sv rfl (opv_ast rfl) ?_)
                                                        refine snil ?_
                                                        refine cret ?_
                                                        refine ⟨Or.inr rfl, _, _, _, (resVs_cons (ResV.tmp _ _ rfl) resVs_nil), (pubA_id rfl), ?_⟩
                                                        first | rfl | (refine avb ?_; simp_all; done))))))))))

end Go.Proofs.Ytiadgkkebmclgaa.Abs
