/-
  KeysMeet: the walk
-/
import Derived.Test.YtiadgkkebmclgaaK4
namespace Go.Proofs.Ytiadgkkebmclgaa.Abs
open Go.RowKit Go.Proofs
set_option maxRecDepth 100000

theorem mixed : Try.prog.follows .mixedOrders = true := by kernel_rfl

set_option maxHeartbeats 8000000 in
theorem keysMeet_c {lo hi lo1 hi1 k : List UInt8} {o o1 : Bool} : CallsA Try.prog 5 [rsv lo hi o, rsv lo1 hi1 o1, .one (bsv k)] (· = .s (.one (.b true))) := by
  refine callsA_of Try.func5 rfl (nt := 124) rfl (Nat.le_of_ble_eq_true rfl) ?_
  intro w0 S0
  refine cseq ?_
  refine cregion ?_
  refine sbox rfl rfl ?_
  refine sbox rfl rfl ?_
  first | (refine sv rfl (opv_as rfl) ?_) | (refine sv rfl (opv_ast rfl) ?_)
  refine snil ?_
  refine cseq ?_
  refine cregion ?_
  refine scall1 rfl fn10 opnds_nil (pubA_id rfl) (awake_c) ?_
  first | (refine sv rfl (opv_as rfl) ?_) | (refine sv rfl (opv_ast rfl) ?_)
  refine snil ?_
  refine cseq ?_
  refine cseq ?_
  refine cregion ?_
  first | (refine sv rfl (opv_loadN ti24 rfl (.lp _ _ _ rfl) (Nat.le_of_ble_eq_true rfl)) ?_) | (refine sv rfl (opv_loadN ti24 rfl (.cp _) (Nat.le_of_ble_eq_true rfl)) ?_)
  refine scall1 rfl fn11 (opnds_cons rfl opnds_nil) (pubC rfl) (short_c) ?_
  refine sv rfl (opv_not rfl) ?_
  first | (refine sv rfl (opv_mv rfl) ?_) | (refine sv rfl (opv_mvt rfl) ?_)
  refine ssplit 19 rfl (fun hg1 => ?_) (fun hg1 => ?_)
  · replace hg1 := bnot_t hg1
    first
    | (exfalso; first | omega | contradiction | (simp_all; done))
    | (
        refine soff rfl rfl rfl rfl ?_
        refine soff rfl rfl rfl rfl ?_
        refine soff rfl rfl rfl rfl ?_
        first | (refine sv rfl (opv_pick_t rfl rfl) ?_) | (refine sv rfl (opv_pick_f rfl rfl) ?_)
        first | (refine sv rfl (opv_mv rfl) ?_) | (refine sv rfl (opv_mvt rfl) ?_)
        refine soff rfl rfl rfl rfl ?_
        refine soff rfl rfl rfl rfl ?_
        refine soff rfl rfl rfl rfl ?_
        first | (refine sv rfl (opv_pick_t rfl rfl) ?_) | (refine sv rfl (opv_pick_f rfl rfl) ?_)
        first | (refine sv rfl (opv_mv rfl) ?_) | (refine sv rfl (opv_mvt rfl) ?_)
        refine soff rfl rfl rfl rfl ?_
        refine soff rfl rfl rfl rfl ?_
        refine soff rfl rfl rfl rfl ?_
        first | (refine sv rfl (opv_pick_t rfl rfl) ?_) | (refine sv rfl (opv_pick_f rfl rfl) ?_)
        refine snil ?_
        refine ccond rfl (fun _ => ?_) (fun hx => Bool.noConfusion hx)
        refine cseq ?_
        refine cregion ?_
        first | (refine sv rfl (opv_mv rfl) ?_) | (refine sv rfl (opv_mvt rfl) ?_)
        first | (refine sv rfl (opv_as rfl) ?_) | (refine sv rfl (opv_ast rfl) ?_)
        refine snil ?_
        refine cret ?_
        refine then_ret ?_
        refine ⟨Or.inr rfl, _, _, _, (resVs_cons (ResV.tmp _ _ rfl) resVs_nil), (pubA_id rfl), ?_⟩
        first | rfl | (refine avb ?_; simp_all; done))
  · replace hg1 := bnot_f hg1
    first
    | (exfalso; first | omega | contradiction | (simp_all; done))
    | (
        refine son rfl rfl rfl ?_
        first | (refine sv rfl (opv_loadN ti24 rfl (.lp _ _ _ rfl) (Nat.le_of_ble_eq_true rfl)) ?_) | (refine sv rfl (opv_loadN ti24 rfl (.cp _) (Nat.le_of_ble_eq_true rfl)) ?_)
        refine son rfl rfl rfl ?_
        refine scall1 rfl fn11 (opnds_cons rfl opnds_nil) (pubC rfl) (short_c) ?_
        refine son rfl rfl rfl ?_
        refine sv rfl (opv_not rfl) ?_
        first | (refine sv rfl (opv_pick_t rfl rfl) ?_) | (refine sv rfl (opv_pick_f rfl rfl) ?_)
        first | (refine sv rfl (opv_mv rfl) ?_) | (refine sv rfl (opv_mvt rfl) ?_)
        refine ssplit 24 rfl (fun hg2 => ?_) (fun hg2 => ?_)
        · replace hg2 := bnot_t hg2
          first
          | (exfalso; first | omega | contradiction | (simp_all; done))
          | (
              refine soff rfl rfl rfl rfl ?_
              refine soff rfl rfl rfl rfl ?_
              refine soff rfl rfl rfl rfl ?_
              first | (refine sv rfl (opv_pick_t rfl rfl) ?_) | (refine sv rfl (opv_pick_f rfl rfl) ?_)
              first | (refine sv rfl (opv_mv rfl) ?_) | (refine sv rfl (opv_mvt rfl) ?_)
              refine soff rfl rfl rfl rfl ?_
              refine soff rfl rfl rfl rfl ?_
              refine soff rfl rfl rfl rfl ?_
              first | (refine sv rfl (opv_pick_t rfl rfl) ?_) | (refine sv rfl (opv_pick_f rfl rfl) ?_)
              refine snil ?_
              refine ccond rfl (fun _ => ?_) (fun hx => Bool.noConfusion hx)
              refine cseq ?_
              refine cregion ?_
              first | (refine sv rfl (opv_mv rfl) ?_) | (refine sv rfl (opv_mvt rfl) ?_)
              first | (refine sv rfl (opv_as rfl) ?_) | (refine sv rfl (opv_ast rfl) ?_)
              refine snil ?_
              refine cret ?_
              refine then_ret ?_
              refine ⟨Or.inr rfl, _, _, _, (resVs_cons (ResV.tmp _ _ rfl) resVs_nil), (pubA_id rfl), ?_⟩
              first | rfl | (refine avb ?_; simp_all; done))
        · replace hg2 := bnot_f hg2
          first
          | (exfalso; first | omega | contradiction | (simp_all; done))
          | (
              refine son rfl rfl rfl ?_
              first | (refine sv rfl (opv_mv rfl) ?_) | (refine sv rfl (opv_mvt rfl) ?_)
              refine son rfl rfl rfl ?_
              first | (refine sv rfl (opv_len_sl si22 rfl) ?_) | (refine sv rfl (opv_len_nil si22 rfl) ?_) | (refine sv rfl (opv_len_ls si22 rfl rfl (by first | rfl | omega)) ?_)
              refine son rfl rfl rfl ?_
              refine sv rfl (opv_gtr rfl rfl) ?_
              first | (refine sv rfl (opv_pick_t rfl rfl) ?_) | (refine sv rfl (opv_pick_f rfl rfl) ?_)
              first | (refine sv rfl (opv_mv rfl) ?_) | (refine sv rfl (opv_mvt rfl) ?_)
              refine ssplit 29 rfl (fun hg3 => ?_) (fun hg3 => ?_)
              · replace hg3 := of_decide_eq_true hg3
                first
                | (exfalso; first | omega | contradiction | (simp_all; done))
                | (
                    refine soff rfl rfl rfl rfl ?_
                    refine soff rfl rfl rfl rfl ?_
                    refine soff rfl rfl rfl rfl ?_
                    first | (refine sv rfl (opv_pick_t rfl rfl) ?_) | (refine sv rfl (opv_pick_f rfl rfl) ?_)
                    refine snil ?_
                    refine ccond rfl (fun _ => ?_) (fun hx => Bool.noConfusion hx)
                    refine cseq ?_
                    refine cregion ?_
                    first | (refine sv rfl (opv_mv rfl) ?_) | (refine sv rfl (opv_mvt rfl) ?_)
                    first | (refine sv rfl (opv_as rfl) ?_) | (refine sv rfl (opv_ast rfl) ?_)
                    refine snil ?_
                    refine cret ?_
                    refine then_ret ?_
                    refine ⟨Or.inr rfl, _, _, _, (resVs_cons (ResV.tmp _ _ rfl) resVs_nil), (pubA_id rfl), ?_⟩
                    first | rfl | (refine avb ?_; simp_all; done))
              · replace hg3 := of_decide_eq_false hg3
                first
                | (exfalso; first | omega | contradiction | (simp_all; done))
                | (
                    refine son rfl rfl rfl ?_
                    first | (refine sv rfl (opv_mv rfl) ?_) | (refine sv rfl (opv_mvt rfl) ?_)
                    refine son rfl rfl rfl ?_
                    first | (refine sv rfl (opv_len_sl si22 rfl) ?_) | (refine sv rfl (opv_len_nil si22 rfl) ?_) | (refine sv rfl (opv_len_ls si22 rfl rfl (by first | rfl | omega)) ?_)
                    refine son rfl rfl rfl ?_
                    refine sv rfl (opv_ieql rfl rfl) ?_
                    first | (refine sv rfl (opv_pick_t rfl rfl) ?_) | (refine sv rfl (opv_pick_f rfl rfl) ?_)
                    refine snil ?_
                    refine ccond rfl (fun hc4 => ?_) (fun hc4 => ?_)
                    · replace hc4 := of_decide_eq_true hc4
                      first
                      | (exfalso; first | omega | contradiction | (simp_all; done))
                      | (
                          refine cseq ?_
                          refine cregion ?_
                          first | (refine sv rfl (opv_mv rfl) ?_) | (refine sv rfl (opv_mvt rfl) ?_)
                          first | (refine sv rfl (opv_as rfl) ?_) | (refine sv rfl (opv_ast rfl) ?_)
                          refine snil ?_
                          refine cret ?_
                          refine then_ret ?_
                          refine ⟨Or.inr rfl, _, _, _, (resVs_cons (ResV.tmp _ _ rfl) resVs_nil), (pubA_id rfl), ?_⟩
                          first | rfl | (refine avb ?_; simp_all; done))
                    · replace hc4 := of_decide_eq_false hc4
                      have hk := ne_nil_of hc4
                      have E1 := meet_has (lo := lo) (hi := hi) (o := o) (lo1 := lo1) (hi1 := hi1) (o1 := o1) hk
                      have E2 := meet_has (lo := lo1) (hi := hi1) (o := o1) (lo1 := lo) (hi1 := hi) (o1 := o) hk
                      have E3 := meet_has (lo := lo) (hi := hi) (o := o) (lo1 := lo) (hi1 := hi) (o1 := o) hk
                      have E4 := mE_comm lo hi o lo1 hi1 o1
                      have E5 := mE_self lo hi o
                      have E6 := fun h => empty_has (lo := lo) (hi := hi) (o := o) (k := k) h hk
                      have E7 := @meet_ok lo hi o lo1 hi1 o1
                      first
                      | (exfalso; first | omega | contradiction | (simp_all; done))
                      | (
                          refine cskip ?_
                          refine then_normal ?_
                          refine cseq ?_
                          refine cregion ?_
                          first | (refine sv rfl (opv_loadN ti24 rfl (.lp _ _ _ rfl) (Nat.le_of_ble_eq_true rfl)) ?_) | (refine sv rfl (opv_loadN ti24 rfl (.cp _) (Nat.le_of_ble_eq_true rfl)) ?_)
                          first | (refine sv rfl (opv_loadN ti24 rfl (.lp _ _ _ rfl) (Nat.le_of_ble_eq_true rfl)) ?_) | (refine sv rfl (opv_loadN ti24 rfl (.cp _) (Nat.le_of_ble_eq_true rfl)) ?_)
                          refine scall1 rfl fn13 (opnds_cons rfl (opnds_cons rfl opnds_nil)) (pubC rfl) (meet_c) ?_
                          first | (refine sv rfl (opv_mv rfl) ?_) | (refine sv rfl (opv_mvt rfl) ?_)
                          refine sv rfl (opv_extract rfl rfl) ?_
                          refine sv rfl (opv_extract rfl rfl) ?_
                          refine salloc rfl zi24 ?_
                          first | (refine sstore sz24 rfl rfl rfl rfl (Nat.le_of_ble_eq_true rfl) ?_) | (refine sstore_ap sz24 rfl rfl rfl (by first | rfl | omega) rfl (List.all_eq_true.1 rfl) (by omega) (by omega) ?_)
                          first | (refine sv rfl (opv_as rfl) ?_) | (refine sv rfl (opv_ast rfl) ?_)
                          refine snil ?_
                          refine cseq ?_
                          refine cregion ?_
                          first | (refine sv rfl (opv_loadN ti24 rfl (.lp _ _ _ rfl) (Nat.le_of_ble_eq_true rfl)) ?_) | (refine sv rfl (opv_loadN ti24 rfl (.cp _) (Nat.le_of_ble_eq_true rfl)) ?_)
                          first | (refine sv rfl (opv_loadN ti24 rfl (.lp _ _ _ rfl) (Nat.le_of_ble_eq_true rfl)) ?_) | (refine sv rfl (opv_loadN ti24 rfl (.cp _) (Nat.le_of_ble_eq_true rfl)) ?_)
                          refine scall1 rfl fn13 (opnds_cons rfl (opnds_cons rfl opnds_nil)) (pubC rfl) (meet_c) ?_
                          first | (refine sv rfl (opv_mv rfl) ?_) | (refine sv rfl (opv_mvt rfl) ?_)
                          refine sv rfl (opv_extract rfl rfl) ?_
                          refine sv rfl (opv_extract rfl rfl) ?_
                          refine salloc rfl zi24 ?_
                          first | (refine sstore sz24 rfl rfl rfl rfl (Nat.le_of_ble_eq_true rfl) ?_) | (refine sstore_ap sz24 rfl rfl rfl (by first | rfl | omega) rfl (List.all_eq_true.1 rfl) (by omega) (by omega) ?_)
                          first | (refine sv rfl (opv_as rfl) ?_) | (refine sv rfl (opv_ast rfl) ?_)
                          refine snil ?_
                          refine cseq ?_
                          refine cregion ?_
                          first | (refine sv rfl (opv_loadN ti24 rfl (.lp _ _ _ rfl) (Nat.le_of_ble_eq_true rfl)) ?_) | (refine sv rfl (opv_loadN ti24 rfl (.cp _) (Nat.le_of_ble_eq_true rfl)) ?_)
                          first | (refine sv rfl (opv_loadN ti24 rfl (.lp _ _ _ rfl) (Nat.le_of_ble_eq_true rfl)) ?_) | (refine sv rfl (opv_loadN ti24 rfl (.cp _) (Nat.le_of_ble_eq_true rfl)) ?_)
                          refine scall1 rfl fn13 (opnds_cons rfl (opnds_cons rfl opnds_nil)) (pubC rfl) (meet_c) ?_
                          first | (refine sv rfl (opv_mv rfl) ?_) | (refine sv rfl (opv_mvt rfl) ?_)
                          refine sv rfl (opv_extract rfl rfl) ?_
                          refine sv rfl (opv_extract rfl rfl) ?_
                          refine salloc rfl zi24 ?_
                          first | (refine sstore sz24 rfl rfl rfl rfl (Nat.le_of_ble_eq_true rfl) ?_) | (refine sstore_ap sz24 rfl rfl rfl (by first | rfl | omega) rfl (List.all_eq_true.1 rfl) (by omega) (by omega) ?_)
                          first | (refine sv rfl (opv_as rfl) ?_) | (refine sv rfl (opv_ast rfl) ?_)
                          refine snil ?_
                          refine cseq ?_
                          refine cregion ?_
                          first | (refine sv rfl (opv_loadN ti24 rfl (.lp _ _ _ rfl) (Nat.le_of_ble_eq_true rfl)) ?_) | (refine sv rfl (opv_loadN ti24 rfl (.cp _) (Nat.le_of_ble_eq_true rfl)) ?_)
                          first | (refine sv rfl (opv_mv rfl) ?_) | (refine sv rfl (opv_mvt rfl) ?_)
                          refine scall1 rfl fn29 (opnds_cons rfl (opnds_cons rfl opnds_nil)) (pubC rfl) (has_c) ?_
                          first | (refine sv rfl (opv_mv rfl) ?_) | (refine sv rfl (opv_mvt rfl) ?_)
                          refine ssplit 56 rfl (fun hg5 => ?_) (fun hg5 => ?_)
                          · first
                            | (exfalso; first | omega | contradiction | (simp_all; done))
                            | (
                                refine son rfl rfl rfl ?_
                                first | (refine sv rfl (opv_loadN ti24 rfl (.lp _ _ _ rfl) (Nat.le_of_ble_eq_true rfl)) ?_) | (refine sv rfl (opv_loadN ti24 rfl (.cp _) (Nat.le_of_ble_eq_true rfl)) ?_)
                                refine son rfl rfl rfl ?_
                                first | (refine sv rfl (opv_mv rfl) ?_) | (refine sv rfl (opv_mvt rfl) ?_)
                                refine son rfl rfl rfl ?_
                                refine scall1 rfl fn29 (opnds_cons rfl (opnds_cons rfl opnds_nil)) (pubC rfl) (has_c) ?_
                                first | (refine sv rfl (opv_pick_t rfl rfl) ?_) | (refine sv rfl (opv_pick_f rfl rfl) ?_)
                                first | (refine sv rfl (opv_as rfl) ?_) | (refine sv rfl (opv_ast rfl) ?_)
                                refine snil ?_
                                refine cseq ?_
                                refine cseq ?_
                                refine cregion ?_
                                first | (refine sv rfl (opv_mv rfl) ?_) | (refine sv rfl (opv_mvt rfl) ?_)
                                first | (refine sv rfl (opv_mv rfl) ?_) | (refine sv rfl (opv_mvt rfl) ?_)
                                refine sv rfl (opv_bneq Try.underlying4 rfl rfl) ?_
                                first | (refine sv rfl (opv_mv rfl) ?_) | (refine sv rfl (opv_mvt rfl) ?_)
                                refine ssplit 64 rfl (fun hg6 => ?_) (fun hg6 => ?_)
                                · replace hg6 := bnot_t hg6
                                  first
                                  | (exfalso; first | omega | contradiction | (simp_all; done))
                                  | (
                                      refine soff rfl rfl rfl rfl ?_
                                      refine soff rfl rfl rfl rfl ?_
                                      refine soffu rfl rfl rfl ?_
                                      refine soffu rfl rfl rfl ?_
                                      refine soffu rfl rfl rfl ?_
                                      refine soffu rfl rfl rfl ?_
                                      refine soffu rfl rfl rfl ?_
                                      refine soffu rfl rfl rfl ?_
                                      refine soffu rfl rfl rfl ?_
                                      refine soffu rfl rfl rfl ?_
                                      refine soffu rfl rfl rfl ?_
                                      refine soffu rfl rfl rfl ?_
                                      refine soffu rfl rfl rfl ?_
                                      refine soffu rfl rfl rfl ?_
                                      refine soffu rfl rfl rfl ?_
                                      refine soffu rfl rfl rfl ?_
                                      refine soffu rfl rfl rfl ?_
                                      refine soffu rfl rfl rfl ?_
                                      refine soff rfl rfl rfl rfl ?_
                                      first | (refine sv rfl (opv_pick_t rfl rfl) ?_) | (refine sv rfl (opv_pick_f rfl rfl) ?_)
                                      first | (refine sv rfl (opv_mv rfl) ?_) | (refine sv rfl (opv_mvt rfl) ?_)
                                      refine soff rfl rfl rfl rfl ?_
                                      refine soff rfl rfl rfl rfl ?_
                                      refine soff rfl rfl rfl rfl ?_
                                      refine soffu rfl rfl rfl ?_
                                      refine soff rfl rfl rfl rfl ?_
                                      first | (refine sv rfl (opv_pick_t rfl rfl) ?_) | (refine sv rfl (opv_pick_f rfl rfl) ?_)
                                      refine snil ?_
                                      refine ccond rfl (fun _ => ?_) (fun hx => Bool.noConfusion hx)
                                      refine cseq ?_
                                      refine cregion ?_
                                      first | (refine sv rfl (opv_as rfl) ?_) | (refine sv rfl (opv_ast rfl) ?_)
                                      refine snil ?_
                                      refine cret ?_
                                      refine then_ret ?_
                                      refine ⟨Or.inr rfl, _, _, _, (resVs_cons (ResV.tmp _ _ rfl) resVs_nil), (pubA_id rfl), ?_⟩
                                      first | rfl | (refine avb ?_; simp_all; done))
                                · replace hg6 := bnot_f hg6
                                  first
                                  | (exfalso; first | omega | contradiction | (simp_all; done))
                                  | (
                                      refine son rfl rfl rfl ?_
                                      first | (refine sv rfl (opv_mv rfl) ?_) | (refine sv rfl (opv_mvt rfl) ?_)
                                      refine son rfl rfl rfl ?_
                                      first | (refine sv rfl (opv_mv rfl) ?_) | (refine sv rfl (opv_mvt rfl) ?_)
                                      refine ssplit 66 rfl (fun hg7 => ?_) (fun hg7 => ?_)
                                      · first
                                        | (exfalso; first | omega | contradiction | (simp_all; done))
                                        | (
                                            refine son rfl rfl rfl ?_
                                            first | (refine sv rfl (opv_loadN ti24 rfl (.lp _ _ _ rfl) (Nat.le_of_ble_eq_true rfl)) ?_) | (refine sv rfl (opv_loadN ti24 rfl (.cp _) (Nat.le_of_ble_eq_true rfl)) ?_)
                                            refine son rfl rfl rfl ?_
                                            first | (refine sv rfl (opv_mv rfl) ?_) | (refine sv rfl (opv_mvt rfl) ?_)
                                            refine son rfl rfl rfl ?_
                                            refine scall1 rfl fn29 (opnds_cons rfl (opnds_cons rfl opnds_nil)) (pubC rfl) (has_c) ?_
                                            refine son rfl rfl rfl ?_
                                            first | (refine sv rfl (opv_mv rfl) ?_) | (refine sv rfl (opv_mvt rfl) ?_)
                                            refine son rfl rfl rfl ?_
                                            refine sv rfl (opv_bneq Try.underlying4 rfl rfl) ?_
                                            refine son rfl rfl rfl ?_
                                            first | (refine sv rfl (opv_mv rfl) ?_) | (refine sv rfl (opv_mvt rfl) ?_)
                                            refine ssplit 72 rfl (fun hg8 => ?_) (fun hg8 => ?_)
                                            · replace hg8 := bnot_t hg8
                                              first
                                              | (exfalso; first | omega | contradiction | (simp_all; done))
                                              | (
                                                  refine soff rfl rfl rfl rfl ?_
                                                  refine soff rfl rfl rfl rfl ?_
                                                  refine soff rfl rfl rfl rfl ?_
                                                  refine soff rfl rfl rfl rfl ?_
                                                  refine soff rfl rfl rfl rfl ?_
                                                  refine son rfl rfl rfl ?_
                                                  first | (refine sv rfl (opv_pick_t rfl rfl) ?_) | (refine sv rfl (opv_pick_f rfl rfl) ?_)
                                                  refine son rfl rfl rfl ?_
                                                  first | (refine sv rfl (opv_mv rfl) ?_) | (refine sv rfl (opv_mvt rfl) ?_)
                                                  refine soff rfl rfl rfl rfl ?_
                                                  refine soff rfl rfl rfl rfl ?_
                                                  refine son rfl rfl rfl ?_
                                                  first | (refine sv rfl (opv_pick_t rfl rfl) ?_) | (refine sv rfl (opv_pick_f rfl rfl) ?_)
                                                  refine son rfl rfl rfl ?_
                                                  first | (refine sv rfl (opv_pick_t rfl rfl) ?_) | (refine sv rfl (opv_pick_f rfl rfl) ?_)
                                                  first | (refine sv rfl (opv_pick_t rfl rfl) ?_) | (refine sv rfl (opv_pick_f rfl rfl) ?_)
                                                  first | (refine sv rfl (opv_mv rfl) ?_) | (refine sv rfl (opv_mvt rfl) ?_)
                                                  refine soff rfl rfl rfl rfl ?_
                                                  refine soff rfl rfl rfl rfl ?_
                                                  refine soff rfl rfl rfl rfl ?_
                                                  refine soffu rfl rfl rfl ?_
                                                  refine soff rfl rfl rfl rfl ?_
                                                  first | (refine sv rfl (opv_pick_t rfl rfl) ?_) | (refine sv rfl (opv_pick_f rfl rfl) ?_)
                                                  refine snil ?_
                                                  refine ccond rfl (fun _ => ?_) (fun hx => Bool.noConfusion hx)
                                                  refine cseq ?_
                                                  refine cregion ?_
                                                  first | (refine sv rfl (opv_as rfl) ?_) | (refine sv rfl (opv_ast rfl) ?_)
                                                  refine snil ?_
                                                  refine cret ?_
                                                  refine then_ret ?_
                                                  refine ⟨Or.inr rfl, _, _, _, (resVs_cons (ResV.tmp _ _ rfl) resVs_nil), (pubA_id rfl), ?_⟩
                                                  first | rfl | (refine avb ?_; simp_all; done))
                                            · replace hg8 := bnot_f hg8
                                              first
                                              | (exfalso; first | omega | contradiction | (simp_all; done))
                                              | (
                                                  refine son rfl rfl rfl ?_
                                                  first | (refine sv rfl (opv_loadN ti24 rfl (.lp _ _ _ rfl) (Nat.le_of_ble_eq_true rfl)) ?_) | (refine sv rfl (opv_loadN ti24 rfl (.cp _) (Nat.le_of_ble_eq_true rfl)) ?_)
                                                  refine son rfl rfl rfl ?_
                                                  first | (refine sv rfl (opv_mv rfl) ?_) | (refine sv rfl (opv_mvt rfl) ?_)
                                                  refine son rfl rfl rfl ?_
                                                  refine scall1 rfl fn29 (opnds_cons rfl (opnds_cons rfl opnds_nil)) (pubC rfl) (has_c) ?_
                                                  refine son rfl rfl rfl ?_
                                                  first | (refine sv rfl (opv_mv rfl) ?_) | (refine sv rfl (opv_mvt rfl) ?_)
                                                  refine son rfl rfl rfl ?_
                                                  refine sv rfl (opv_bneq Try.underlying4 rfl rfl) ?_
                                                  refine son rfl rfl rfl ?_
                                                  first | (refine sv rfl (opv_pick_t rfl rfl) ?_) | (refine sv rfl (opv_pick_f rfl rfl) ?_)
                                                  refine son rfl rfl rfl ?_
                                                  first | (refine sv rfl (opv_mv rfl) ?_) | (refine sv rfl (opv_mvt rfl) ?_)
                                                  refine ssplit 79 rfl (fun hg9 => ?_) (fun hg9 => ?_)
                                                  · replace hg9 := bnot_t hg9
                                                    first
                                                    | (exfalso; first | omega | contradiction | (simp_all; done))
                                                    | (
                                                        refine soff rfl rfl rfl rfl ?_
                                                        refine soff rfl rfl rfl rfl ?_
                                                        refine son rfl rfl rfl ?_
                                                        first | (refine sv rfl (opv_pick_t rfl rfl) ?_) | (refine sv rfl (opv_pick_f rfl rfl) ?_)
                                                        refine son rfl rfl rfl ?_
                                                        first | (refine sv rfl (opv_pick_t rfl rfl) ?_) | (refine sv rfl (opv_pick_f rfl rfl) ?_)
                                                        first | (refine sv rfl (opv_pick_t rfl rfl) ?_) | (refine sv rfl (opv_pick_f rfl rfl) ?_)
                                                        first | (refine sv rfl (opv_mv rfl) ?_) | (refine sv rfl (opv_mvt rfl) ?_)
                                                        refine soff rfl rfl rfl rfl ?_
                                                        refine soff rfl rfl rfl rfl ?_
                                                        refine soff rfl rfl rfl rfl ?_
                                                        refine soffu rfl rfl rfl ?_
                                                        refine soff rfl rfl rfl rfl ?_
                                                        first | (refine sv rfl (opv_pick_t rfl rfl) ?_) | (refine sv rfl (opv_pick_f rfl rfl) ?_)
                                                        refine snil ?_
                                                        refine ccond rfl (fun _ => ?_) (fun hx => Bool.noConfusion hx)
                                                        refine cseq ?_
                                                        refine cregion ?_
                                                        first | (refine sv rfl (opv_as rfl) ?_) | (refine sv rfl (opv_ast rfl) ?_)
                                                        refine snil ?_
                                                        refine cret ?_
                                                        refine then_ret ?_
                                                        refine ⟨Or.inr rfl, _, _, _, (resVs_cons (ResV.tmp _ _ rfl) resVs_nil), (pubA_id rfl), ?_⟩
                                                        first | rfl | (refine avb ?_; simp_all; done))
                                                  · replace hg9 := bnot_f hg9
                                                    first
                                                    | (exfalso; first | omega | contradiction | (simp_all; done))
                                                    | (
                                                        refine son rfl rfl rfl ?_
                                                        first | (refine sv rfl (opv_loadN ti24 rfl (.lp _ _ _ rfl) (Nat.le_of_ble_eq_true rfl)) ?_) | (refine sv rfl (opv_loadN ti24 rfl (.cp _) (Nat.le_of_ble_eq_true rfl)) ?_)
                                                        refine son rfl rfl rfl ?_
                                                        refine scall1 rfl fn31 (opnds_cons rfl opnds_nil) (pubC rfl) (empty_c) ?_
                                                        refine son rfl rfl rfl ?_
                                                        first | (refine sv rfl (opv_pick_t rfl rfl) ?_) | (refine sv rfl (opv_pick_f rfl rfl) ?_)
                                                        refine son rfl rfl rfl ?_
                                                        first | (refine sv rfl (opv_pick_t rfl rfl) ?_) | (refine sv rfl (opv_pick_f rfl rfl) ?_)
                                                        first | (refine sv rfl (opv_pick_t rfl rfl) ?_) | (refine sv rfl (opv_pick_f rfl rfl) ?_)
                                                        first | (refine sv rfl (opv_mv rfl) ?_) | (refine sv rfl (opv_mvt rfl) ?_)
                                                        refine ssplit 85 rfl (fun hg10 => ?_) (fun hg10 => ?_)
                                                        · first
                                                          | (exfalso; first | omega | contradiction | (simp_all; done))
                                                          | (
                                                              refine soff rfl rfl rfl rfl ?_
                                                              refine soff rfl rfl rfl rfl ?_
                                                              refine soff rfl rfl rfl rfl ?_
                                                              refine soffu rfl rfl rfl ?_
                                                              refine soff rfl rfl rfl rfl ?_
                                                              first | (refine sv rfl (opv_pick_t rfl rfl) ?_) | (refine sv rfl (opv_pick_f rfl rfl) ?_)
                                                              refine snil ?_
                                                              refine ccond rfl (fun _ => ?_) (fun hx => Bool.noConfusion hx)
                                                              refine cseq ?_
                                                              refine cregion ?_
                                                              first | (refine sv rfl (opv_as rfl) ?_) | (refine sv rfl (opv_ast rfl) ?_)
                                                              refine snil ?_
                                                              refine cret ?_
                                                              refine then_ret ?_
                                                              refine ⟨Or.inr rfl, _, _, _, (resVs_cons (ResV.tmp _ _ rfl) resVs_nil), (pubA_id rfl), ?_⟩
                                                              first | rfl | (refine avb ?_; simp_all; done))
                                                        · first
                                                          | (exfalso; first | omega | contradiction | (simp_all; done))
                                                          | (
                                                              refine son rfl rfl rfl ?_
                                                              first | (refine sv rfl (opv_mv rfl) ?_) | (refine sv rfl (opv_mvt rfl) ?_)
                                                              refine son rfl rfl rfl ?_
                                                              refine sv rfl (opv_not rfl) ?_
                                                              refine son rfl rfl rfl ?_
                                                              first | (refine sv rfl (opv_mv rfl) ?_) | (refine sv rfl (opv_mvt rfl) ?_)
                                                              refine ssplit 88 rfl (fun hg11 => ?_) (fun hg11 => ?_)
                                                              · replace hg11 := bnot_t hg11
                                                                first
                                                                | (exfalso; first | omega | contradiction | (simp_all; done))
                                                                | (
                                                                    refine son rfl rfl rfl ?_
                                                                    first | (refine sv rfl (opv_mv rfl) ?_) | (refine sv rfl (opv_mvt rfl) ?_)
                                                                    refine son rfl rfl rfl ?_
                                                                    first | (refine sv rfl (opv_pick_t rfl rfl) ?_) | (refine sv rfl (opv_pick_f rfl rfl) ?_)
                                                                    first | (refine sv rfl (opv_pick_t rfl rfl) ?_) | (refine sv rfl (opv_pick_f rfl rfl) ?_)
                                                                    refine snil ?_
                                                                    refine ccond rfl (fun hc12 => ?_) (fun hc12 => ?_)
                                                                    · first
                                                                      | (exfalso; first | omega | contradiction | (simp_all; done))
                                                                      | (
                                                                          refine cseq ?_
                                                                          refine cregion ?_
                                                                          first | (refine sv rfl (opv_as rfl) ?_) | (refine sv rfl (opv_ast rfl) ?_)
                                                                          refine snil ?_
                                                                          refine cret ?_
                                                                          refine then_ret ?_
                                                                          refine ⟨Or.inr rfl, _, _, _, (resVs_cons (ResV.tmp _ _ rfl) resVs_nil), (pubA_id rfl), ?_⟩
                                                                          first | rfl | (refine avb ?_; simp_all; done))
                                                                    · first
                                                                      | (exfalso; first | omega | contradiction | (simp_all; done))
                                                                      | (
                                                                          refine cskip ?_
                                                                          refine then_normal ?_
                                                                          refine cseq ?_
                                                                          refine cdraw mixed (by kernel_rfl) ?_
                                                                          first | (refine dv rfl (opv_mv rfl) ?_) | (refine dv rfl (opv_mvt rfl) ?_)
                                                                          first | (refine dv rfl (opv_mv rfl) ?_) | (refine dv rfl (opv_mvt rfl) ?_)
                                                                          refine dsplit 93 rfl (fun hg13 => ?_) (fun hg13 => ?_)
                                                                          · first
                                                                            | (exfalso; first | omega | contradiction | (simp_all; done))
                                                                            | (
                                                                                first | (refine dvg rfl rfl rfl (opv_mv rfl) ?_) | (refine dvg rfl rfl rfl (opv_mvt rfl) ?_)
                                                                                first | (refine dvg rfl rfl rfl (opv_loadN ti24 rfl (.lp _ _ _ rfl) (Nat.le_of_ble_eq_true rfl)) ?_) | (refine dvg rfl rfl rfl (opv_loadN ti24 rfl (.cp _) (Nat.le_of_ble_eq_true rfl)) ?_)
                                                                                refine ddg rfl rfl rfl (opD_call fn31 (opnds_cons rfl opnds_nil) rfl (empty_c)) ?_
                                                                                refine dvg rfl rfl rfl (opv_not rfl) ?_
                                                                                refine dvg rfl rfl rfl (opv_beql Try.underlying4 rfl rfl) ?_
                                                                                first | (refine dv rfl (opv_pick_t rfl rfl) ?_) | (refine dv rfl (opv_pick_f rfl rfl) ?_)
                                                                                first | (refine dv rfl (opv_mv rfl) ?_) | (refine dv rfl (opv_mvt rfl) ?_)
                                                                                refine dsplit 100 rfl (fun hg14 => ?_) (fun hg14 => ?_)
                                                                                · first
                                                                                  | (exfalso; first | omega | contradiction | (simp_all; done))
                                                                                  | (
                                                                                      first | (refine dvg rfl rfl rfl (opv_mv rfl) ?_) | (refine dvg rfl rfl rfl (opv_mvt rfl) ?_)
                                                                                      refine dvg rfl rfl rfl (opv_not rfl) ?_
                                                                                      first | (refine dvg rfl rfl rfl (opv_mv rfl) ?_) | (refine dvg rfl rfl rfl (opv_mvt rfl) ?_)
                                                                                      refine dsplit 103 rfl (fun hg15 => ?_) (fun hg15 => ?_)
                                                                                      · replace hg15 := bnot_t hg15
                                                                                        first
                                                                                        | (exfalso; first | omega | contradiction | (simp_all; done))
                                                                                        | (
                                                                                            refine doff rfl rfl rfl rfl ?_
                                                                                            refine doff rfl rfl rfl rfl ?_
                                                                                            refine doff rfl rfl rfl rfl ?_
                                                                                            refine doff rfl rfl rfl rfl ?_
                                                                                            refine doff rfl rfl rfl rfl ?_
                                                                                            refine doff rfl rfl rfl rfl ?_
                                                                                            refine doff rfl rfl rfl rfl ?_
                                                                                            first | (refine dvg rfl rfl rfl (opv_pick_t rfl rfl) ?_) | (refine dvg rfl rfl rfl (opv_pick_f rfl rfl) ?_)
                                                                                            first | (refine dv rfl (opv_pick_t rfl rfl) ?_) | (refine dv rfl (opv_pick_f rfl rfl) ?_)
                                                                                            first | (refine dv rfl (opv_mv rfl) ?_) | (refine dv rfl (opv_mvt rfl) ?_)
                                                                                            first | (refine dvg rfl rfl rfl (opv_loadN ti24 rfl (.lp _ _ _ rfl) (Nat.le_of_ble_eq_true rfl)) ?_) | (refine dvg rfl rfl rfl (opv_loadN ti24 rfl (.cp _) (Nat.le_of_ble_eq_true rfl)) ?_)
                                                                                            refine ddg rfl rfl rfl (opD_call fn31 (opnds_cons rfl opnds_nil) rfl (empty_c)) ?_
                                                                                            refine dvg rfl rfl rfl (opv_not rfl) ?_
                                                                                            first | (refine dvg rfl rfl rfl (opv_mv rfl) ?_) | (refine dvg rfl rfl rfl (opv_mvt rfl) ?_)
                                                                                            refine dsplit 117 rfl (fun hg16 => ?_) (fun hg16 => ?_)
                                                                                            · replace hg16 := bnot_t hg16
                                                                                              first
                                                                                              | (exfalso; first | omega | contradiction | (simp_all; done))
                                                                                              | (
                                                                                                  refine doff rfl rfl rfl rfl ?_
                                                                                                  refine doff rfl rfl rfl rfl ?_
                                                                                                  refine doff rfl rfl rfl rfl ?_
                                                                                                  refine doff rfl rfl rfl rfl ?_
                                                                                                  first | (refine dvg rfl rfl rfl (opv_pick_t rfl rfl) ?_) | (refine dvg rfl rfl rfl (opv_pick_f rfl rfl) ?_)
                                                                                                  first | (refine dv rfl (opv_pick_t rfl rfl) ?_) | (refine dv rfl (opv_pick_f rfl rfl) ?_)
                                                                                                  first | (refine dv rfl (opv_as rfl) ?_) | (refine dv rfl (opv_ast rfl) ?_)
                                                                                                  refine dnil ?_
                                                                                                  refine then_normal ?_
                                                                                                  refine cret ?_
                                                                                                  refine ⟨Or.inr rfl, _, _, _, (resVs_cons (ResV.tmp _ _ rfl) resVs_nil), (pubA_id rfl), ?_⟩
                                                                                                  first | rfl | (refine avb ?_; simp_all; done))
                                                                                            · replace hg16 := bnot_f hg16
                                                                                              first
                                                                                              | (exfalso; first | omega | contradiction | (simp_all; done))
                                                                                              | (
                                                                                                  first | (refine dvg rfl rfl rfl (opv_loadN ti24 rfl (.lp _ _ _ rfl) (Nat.le_of_ble_eq_true rfl)) ?_) | (refine dvg rfl rfl rfl (opv_loadN ti24 rfl (.cp _) (Nat.le_of_ble_eq_true rfl)) ?_)
                                                                                                  first | (refine dvg rfl rfl rfl (opv_mv rfl) ?_) | (refine dvg rfl rfl rfl (opv_mvt rfl) ?_)
                                                                                                  refine ddg rfl rfl rfl (opD_call fn29 (opnds_cons rfl (opnds_cons rfl opnds_nil)) rfl (has_c)) ?_
                                                                                                  refine dvg rfl rfl rfl (opv_not rfl) ?_
                                                                                                  first | (refine dvg rfl rfl rfl (opv_pick_t rfl rfl) ?_) | (refine dvg rfl rfl rfl (opv_pick_f rfl rfl) ?_)
                                                                                                  first | (refine dv rfl (opv_pick_t rfl rfl) ?_) | (refine dv rfl (opv_pick_f rfl rfl) ?_)
                                                                                                  first | (refine dv rfl (opv_as rfl) ?_) | (refine dv rfl (opv_ast rfl) ?_)
                                                                                                  refine dnil ?_
                                                                                                  refine then_normal ?_
                                                                                                  refine cret ?_
                                                                                                  refine ⟨Or.inr rfl, _, _, _, (resVs_cons (ResV.tmp _ _ rfl) resVs_nil), (pubA_id rfl), ?_⟩
                                                                                                  first | rfl | (refine avb ?_; simp_all; done)))
                                                                                      · replace hg15 := bnot_f hg15
                                                                                        first
                                                                                        | (exfalso; first | omega | contradiction | (simp_all; done))
                                                                                        | (
                                                                                            first | (refine dvg rfl rfl rfl (opv_loadN ti24 rfl (.lp _ _ _ rfl) (Nat.le_of_ble_eq_true rfl)) ?_) | (refine dvg rfl rfl rfl (opv_loadN ti24 rfl (.cp _) (Nat.le_of_ble_eq_true rfl)) ?_)
                                                                                            first | (refine dvg rfl rfl rfl (opv_mv rfl) ?_) | (refine dvg rfl rfl rfl (opv_mvt rfl) ?_)
                                                                                            refine ddg rfl rfl rfl (opD_call fn29 (opnds_cons rfl (opnds_cons rfl opnds_nil)) rfl (has_c)) ?_
                                                                                            first | (refine dvg rfl rfl rfl (opv_loadN ti24 rfl (.lp _ _ _ rfl) (Nat.le_of_ble_eq_true rfl)) ?_) | (refine dvg rfl rfl rfl (opv_loadN ti24 rfl (.cp _) (Nat.le_of_ble_eq_true rfl)) ?_)
                                                                                            first | (refine dvg rfl rfl rfl (opv_mv rfl) ?_) | (refine dvg rfl rfl rfl (opv_mvt rfl) ?_)
                                                                                            refine ddg rfl rfl rfl (opD_call fn29 (opnds_cons rfl (opnds_cons rfl opnds_nil)) rfl (has_c)) ?_
                                                                                            refine dvg rfl rfl rfl (opv_beql Try.underlying4 rfl rfl) ?_
                                                                                            first | (refine dvg rfl rfl rfl (opv_pick_t rfl rfl) ?_) | (refine dvg rfl rfl rfl (opv_pick_f rfl rfl) ?_)
                                                                                            first | (refine dv rfl (opv_pick_t rfl rfl) ?_) | (refine dv rfl (opv_pick_f rfl rfl) ?_)
                                                                                            first | (refine dv rfl (opv_mv rfl) ?_) | (refine dv rfl (opv_mvt rfl) ?_)
                                                                                            refine dsplit 113 rfl (fun hg17 => ?_) (fun hg17 => ?_)
                                                                                            · first
                                                                                              | (exfalso; first | omega | contradiction | (simp_all; done))
                                                                                              | (
                                                                                                  first | (refine dvg rfl rfl rfl (opv_loadN ti24 rfl (.lp _ _ _ rfl) (Nat.le_of_ble_eq_true rfl)) ?_) | (refine dvg rfl rfl rfl (opv_loadN ti24 rfl (.cp _) (Nat.le_of_ble_eq_true rfl)) ?_)
                                                                                                  refine ddg rfl rfl rfl (opD_call fn31 (opnds_cons rfl opnds_nil) rfl (empty_c)) ?_
                                                                                                  refine dvg rfl rfl rfl (opv_not rfl) ?_
                                                                                                  first | (refine dvg rfl rfl rfl (opv_mv rfl) ?_) | (refine dvg rfl rfl rfl (opv_mvt rfl) ?_)
                                                                                                  refine dsplit 117 rfl (fun hg18 => ?_) (fun hg18 => ?_)
                                                                                                  · replace hg18 := bnot_t hg18
                                                                                                    first
                                                                                                    | (exfalso; first | omega | contradiction | (simp_all; done))
                                                                                                    | (
                                                                                                        refine doff rfl rfl rfl rfl ?_
                                                                                                        refine doff rfl rfl rfl rfl ?_
                                                                                                        refine doff rfl rfl rfl rfl ?_
                                                                                                        refine doff rfl rfl rfl rfl ?_
                                                                                                        first | (refine dvg rfl rfl rfl (opv_pick_t rfl rfl) ?_) | (refine dvg rfl rfl rfl (opv_pick_f rfl rfl) ?_)
                                                                                                        first | (refine dv rfl (opv_pick_t rfl rfl) ?_) | (refine dv rfl (opv_pick_f rfl rfl) ?_)
                                                                                                        first | (refine dv rfl (opv_as rfl) ?_) | (refine dv rfl (opv_ast rfl) ?_)
                                                                                                        refine dnil ?_
                                                                                                        refine then_normal ?_
                                                                                                        refine cret ?_
                                                                                                        refine ⟨Or.inr rfl, _, _, _, (resVs_cons (ResV.tmp _ _ rfl) resVs_nil), (pubA_id rfl), ?_⟩
                                                                                                        first | rfl | (refine avb ?_; simp_all; done))
                                                                                                  · replace hg18 := bnot_f hg18
                                                                                                    first
                                                                                                    | (exfalso; first | omega | contradiction | (simp_all; done))
                                                                                                    | (
                                                                                                        first | (refine dvg rfl rfl rfl (opv_loadN ti24 rfl (.lp _ _ _ rfl) (Nat.le_of_ble_eq_true rfl)) ?_) | (refine dvg rfl rfl rfl (opv_loadN ti24 rfl (.cp _) (Nat.le_of_ble_eq_true rfl)) ?_)
                                                                                                        first | (refine dvg rfl rfl rfl (opv_mv rfl) ?_) | (refine dvg rfl rfl rfl (opv_mvt rfl) ?_)
                                                                                                        refine ddg rfl rfl rfl (opD_call fn29 (opnds_cons rfl (opnds_cons rfl opnds_nil)) rfl (has_c)) ?_
                                                                                                        refine dvg rfl rfl rfl (opv_not rfl) ?_
                                                                                                        first | (refine dvg rfl rfl rfl (opv_pick_t rfl rfl) ?_) | (refine dvg rfl rfl rfl (opv_pick_f rfl rfl) ?_)
                                                                                                        first | (refine dv rfl (opv_pick_t rfl rfl) ?_) | (refine dv rfl (opv_pick_f rfl rfl) ?_)
                                                                                                        first | (refine dv rfl (opv_as rfl) ?_) | (refine dv rfl (opv_ast rfl) ?_)
                                                                                                        refine dnil ?_
                                                                                                        refine then_normal ?_
                                                                                                        refine cret ?_
                                                                                                        refine ⟨Or.inr rfl, _, _, _, (resVs_cons (ResV.tmp _ _ rfl) resVs_nil), (pubA_id rfl), ?_⟩
                                                                                                        first | rfl | (refine avb ?_; simp_all; done)))
                                                                                            · first
                                                                                              | (exfalso; first | omega | contradiction | (simp_all; done))
                                                                                              | (
                                                                                                  refine doff rfl rfl rfl rfl ?_
                                                                                                  refine doff rfl rfl rfl rfl ?_
                                                                                                  refine doff rfl rfl rfl rfl ?_
                                                                                                  refine doff rfl rfl rfl rfl ?_
                                                                                                  refine doffu rfl rfl rfl ?_
                                                                                                  refine doffu rfl rfl rfl ?_
                                                                                                  refine doffu rfl rfl rfl ?_
                                                                                                  refine doffu rfl rfl rfl ?_
                                                                                                  refine doff rfl rfl rfl rfl ?_
                                                                                                  first | (refine dv rfl (opv_pick_t rfl rfl) ?_) | (refine dv rfl (opv_pick_f rfl rfl) ?_)
                                                                                                  first | (refine dv rfl (opv_as rfl) ?_) | (refine dv rfl (opv_ast rfl) ?_)
                                                                                                  refine dnil ?_
                                                                                                  refine then_normal ?_
                                                                                                  refine cret ?_
                                                                                                  refine ⟨Or.inr rfl, _, _, _, (resVs_cons (ResV.tmp _ _ rfl) resVs_nil), (pubA_id rfl), ?_⟩
                                                                                                  first | rfl | (refine avb ?_; simp_all; done))))
                                                                                · first
                                                                                  | (exfalso; first | omega | contradiction | (simp_all; done))
                                                                                  | (
                                                                                      refine doff rfl rfl rfl rfl ?_
                                                                                      refine doff rfl rfl rfl rfl ?_
                                                                                      refine doff rfl rfl rfl rfl ?_
                                                                                      refine doffu rfl rfl rfl ?_
                                                                                      refine doffu rfl rfl rfl ?_
                                                                                      refine doffu rfl rfl rfl ?_
                                                                                      refine doffu rfl rfl rfl ?_
                                                                                      refine doffu rfl rfl rfl ?_
                                                                                      refine doffu rfl rfl rfl ?_
                                                                                      refine doffu rfl rfl rfl ?_
                                                                                      refine doff rfl rfl rfl rfl ?_
                                                                                      first | (refine dv rfl (opv_pick_t rfl rfl) ?_) | (refine dv rfl (opv_pick_f rfl rfl) ?_)
                                                                                      first | (refine dv rfl (opv_mv rfl) ?_) | (refine dv rfl (opv_mvt rfl) ?_)
                                                                                      refine doff rfl rfl rfl rfl ?_
                                                                                      refine doff rfl rfl rfl rfl ?_
                                                                                      refine doff rfl rfl rfl rfl ?_
                                                                                      refine doff rfl rfl rfl rfl ?_
                                                                                      refine doffu rfl rfl rfl ?_
                                                                                      refine doffu rfl rfl rfl ?_
                                                                                      refine doffu rfl rfl rfl ?_
                                                                                      refine doffu rfl rfl rfl ?_
                                                                                      refine doff rfl rfl rfl rfl ?_
                                                                                      first | (refine dv rfl (opv_pick_t rfl rfl) ?_) | (refine dv rfl (opv_pick_f rfl rfl) ?_)
                                                                                      first | (refine dv rfl (opv_as rfl) ?_) | (refine dv rfl (opv_ast rfl) ?_)
                                                                                      refine dnil ?_
                                                                                      refine then_normal ?_
                                                                                      refine cret ?_
                                                                                      refine ⟨Or.inr rfl, _, _, _, (resVs_cons (ResV.tmp _ _ rfl) resVs_nil), (pubA_id rfl), ?_⟩
                                                                                      first | rfl | (refine avb ?_; simp_all; done)))
                                                                          · first
                                                                            | (exfalso; first | omega | contradiction | (simp_all; done))
                                                                            | (
                                                                                refine doff rfl rfl rfl rfl ?_
                                                                                refine doff rfl rfl rfl rfl ?_
                                                                                refine doff rfl rfl rfl rfl ?_
                                                                                refine doff rfl rfl rfl rfl ?_
                                                                                refine doff rfl rfl rfl rfl ?_
                                                                                first | (refine dv rfl (opv_pick_t rfl rfl) ?_) | (refine dv rfl (opv_pick_f rfl rfl) ?_)
                                                                                first | (refine dv rfl (opv_mv rfl) ?_) | (refine dv rfl (opv_mvt rfl) ?_)
                                                                                refine doff rfl rfl rfl rfl ?_
                                                                                refine doff rfl rfl rfl rfl ?_
                                                                                refine doff rfl rfl rfl rfl ?_
                                                                                refine doffu rfl rfl rfl ?_
                                                                                refine doffu rfl rfl rfl ?_
                                                                                refine doffu rfl rfl rfl ?_
                                                                                refine doffu rfl rfl rfl ?_
                                                                                refine doffu rfl rfl rfl ?_
                                                                                refine doffu rfl rfl rfl ?_
                                                                                refine doffu rfl rfl rfl ?_
                                                                                refine doff rfl rfl rfl rfl ?_
                                                                                first | (refine dv rfl (opv_pick_t rfl rfl) ?_) | (refine dv rfl (opv_pick_f rfl rfl) ?_)
                                                                                first | (refine dv rfl (opv_mv rfl) ?_) | (refine dv rfl (opv_mvt rfl) ?_)
                                                                                refine doff rfl rfl rfl rfl ?_
                                                                                refine doff rfl rfl rfl rfl ?_
                                                                                refine doff rfl rfl rfl rfl ?_
                                                                                refine doff rfl rfl rfl rfl ?_
                                                                                refine doffu rfl rfl rfl ?_
                                                                                refine doffu rfl rfl rfl ?_
                                                                                refine doffu rfl rfl rfl ?_
                                                                                refine doffu rfl rfl rfl ?_
                                                                                refine doff rfl rfl rfl rfl ?_
                                                                                first | (refine dv rfl (opv_pick_t rfl rfl) ?_) | (refine dv rfl (opv_pick_f rfl rfl) ?_)
                                                                                first | (refine dv rfl (opv_as rfl) ?_) | (refine dv rfl (opv_ast rfl) ?_)
                                                                                refine dnil ?_
                                                                                refine then_normal ?_
                                                                                refine cret ?_
                                                                                refine ⟨Or.inr rfl, _, _, _, (resVs_cons (ResV.tmp _ _ rfl) resVs_nil), (pubA_id rfl), ?_⟩
                                                                                first | rfl | (refine avb ?_; simp_all; done))))
                                                              · replace hg11 := bnot_f hg11
                                                                first
                                                                | (exfalso; first | omega | contradiction | (simp_all; done))
                                                                | (
                                                                    refine soff rfl rfl rfl rfl ?_
                                                                    refine son rfl rfl rfl ?_
                                                                    first | (refine sv rfl (opv_pick_t rfl rfl) ?_) | (refine sv rfl (opv_pick_f rfl rfl) ?_)
                                                                    first | (refine sv rfl (opv_pick_t rfl rfl) ?_) | (refine sv rfl (opv_pick_f rfl rfl) ?_)
                                                                    refine snil ?_
                                                                    refine ccond rfl (fun hx => Bool.noConfusion hx) (fun _ => ?_)
                                                                    refine cskip ?_
                                                                    refine then_normal ?_
                                                                    refine cseq ?_
                                                                    refine cdraw mixed (by kernel_rfl) ?_
                                                                    first | (refine dv rfl (opv_mv rfl) ?_) | (refine dv rfl (opv_mvt rfl) ?_)
                                                                    first | (refine dv rfl (opv_mv rfl) ?_) | (refine dv rfl (opv_mvt rfl) ?_)
                                                                    refine dsplit 93 rfl (fun hg19 => ?_) (fun hg19 => ?_)
                                                                    · first
                                                                      | (exfalso; first | omega | contradiction | (simp_all; done))
                                                                      | (
                                                                          first | (refine dvg rfl rfl rfl (opv_mv rfl) ?_) | (refine dvg rfl rfl rfl (opv_mvt rfl) ?_)
                                                                          first | (refine dvg rfl rfl rfl (opv_loadN ti24 rfl (.lp _ _ _ rfl) (Nat.le_of_ble_eq_true rfl)) ?_) | (refine dvg rfl rfl rfl (opv_loadN ti24 rfl (.cp _) (Nat.le_of_ble_eq_true rfl)) ?_)
                                                                          refine ddg rfl rfl rfl (opD_call fn31 (opnds_cons rfl opnds_nil) rfl (empty_c)) ?_
                                                                          refine dvg rfl rfl rfl (opv_not rfl) ?_
                                                                          refine dvg rfl rfl rfl (opv_beql Try.underlying4 rfl rfl) ?_
                                                                          first | (refine dv rfl (opv_pick_t rfl rfl) ?_) | (refine dv rfl (opv_pick_f rfl rfl) ?_)
                                                                          first | (refine dv rfl (opv_mv rfl) ?_) | (refine dv rfl (opv_mvt rfl) ?_)
                                                                          refine dsplit 100 rfl (fun hg20 => ?_) (fun hg20 => ?_)
                                                                          · first
                                                                            | (exfalso; first | omega | contradiction | (simp_all; done))
                                                                            | (
                                                                                first | (refine dvg rfl rfl rfl (opv_mv rfl) ?_) | (refine dvg rfl rfl rfl (opv_mvt rfl) ?_)
                                                                                refine dvg rfl rfl rfl (opv_not rfl) ?_
                                                                                first | (refine dvg rfl rfl rfl (opv_mv rfl) ?_) | (refine dvg rfl rfl rfl (opv_mvt rfl) ?_)
                                                                                refine dsplit 103 rfl (fun hg21 => ?_) (fun hg21 => ?_)
                                                                                · replace hg21 := bnot_t hg21
                                                                                  first
                                                                                  | (exfalso; first | omega | contradiction | (simp_all; done))
                                                                                  | (
                                                                                      refine doff rfl rfl rfl rfl ?_
                                                                                      refine doff rfl rfl rfl rfl ?_
                                                                                      refine doff rfl rfl rfl rfl ?_
                                                                                      refine doff rfl rfl rfl rfl ?_
                                                                                      refine doff rfl rfl rfl rfl ?_
                                                                                      refine doff rfl rfl rfl rfl ?_
                                                                                      refine doff rfl rfl rfl rfl ?_
                                                                                      first | (refine dvg rfl rfl rfl (opv_pick_t rfl rfl) ?_) | (refine dvg rfl rfl rfl (opv_pick_f rfl rfl) ?_)
                                                                                      first | (refine dv rfl (opv_pick_t rfl rfl) ?_) | (refine dv rfl (opv_pick_f rfl rfl) ?_)
                                                                                      first | (refine dv rfl (opv_mv rfl) ?_) | (refine dv rfl (opv_mvt rfl) ?_)
                                                                                      first | (refine dvg rfl rfl rfl (opv_loadN ti24 rfl (.lp _ _ _ rfl) (Nat.le_of_ble_eq_true rfl)) ?_) | (refine dvg rfl rfl rfl (opv_loadN ti24 rfl (.cp _) (Nat.le_of_ble_eq_true rfl)) ?_)
                                                                                      refine ddg rfl rfl rfl (opD_call fn31 (opnds_cons rfl opnds_nil) rfl (empty_c)) ?_
                                                                                      refine dvg rfl rfl rfl (opv_not rfl) ?_
                                                                                      first | (refine dvg rfl rfl rfl (opv_mv rfl) ?_) | (refine dvg rfl rfl rfl (opv_mvt rfl) ?_)
                                                                                      refine dsplit 117 rfl (fun hg22 => ?_) (fun hg22 => ?_)
                                                                                      · replace hg22 := bnot_t hg22
                                                                                        first
                                                                                        | (exfalso; first | omega | contradiction | (simp_all; done))
                                                                                        | (
                                                                                            refine doff rfl rfl rfl rfl ?_
                                                                                            refine doff rfl rfl rfl rfl ?_
                                                                                            refine doff rfl rfl rfl rfl ?_
                                                                                            refine doff rfl rfl rfl rfl ?_
                                                                                            first | (refine dvg rfl rfl rfl (opv_pick_t rfl rfl) ?_) | (refine dvg rfl rfl rfl (opv_pick_f rfl rfl) ?_)
                                                                                            first | (refine dv rfl (opv_pick_t rfl rfl) ?_) | (refine dv rfl (opv_pick_f rfl rfl) ?_)
                                                                                            first | (refine dv rfl (opv_as rfl) ?_) | (refine dv rfl (opv_ast rfl) ?_)
                                                                                            refine dnil ?_
                                                                                            refine then_normal ?_
                                                                                            refine cret ?_
                                                                                            refine ⟨Or.inr rfl, _, _, _, (resVs_cons (ResV.tmp _ _ rfl) resVs_nil), (pubA_id rfl), ?_⟩
                                                                                            first | rfl | (refine avb ?_; simp_all; done))
                                                                                      · replace hg22 := bnot_f hg22
                                                                                        first
                                                                                        | (exfalso; first | omega | contradiction | (simp_all; done))
                                                                                        | (
                                                                                            first | (refine dvg rfl rfl rfl (opv_loadN ti24 rfl (.lp _ _ _ rfl) (Nat.le_of_ble_eq_true rfl)) ?_) | (refine dvg rfl rfl rfl (opv_loadN ti24 rfl (.cp _) (Nat.le_of_ble_eq_true rfl)) ?_)
                                                                                            first | (refine dvg rfl rfl rfl (opv_mv rfl) ?_) | (refine dvg rfl rfl rfl (opv_mvt rfl) ?_)
                                                                                            refine ddg rfl rfl rfl (opD_call fn29 (opnds_cons rfl (opnds_cons rfl opnds_nil)) rfl (has_c)) ?_
                                                                                            refine dvg rfl rfl rfl (opv_not rfl) ?_
                                                                                            first | (refine dvg rfl rfl rfl (opv_pick_t rfl rfl) ?_) | (refine dvg rfl rfl rfl (opv_pick_f rfl rfl) ?_)
                                                                                            first | (refine dv rfl (opv_pick_t rfl rfl) ?_) | (refine dv rfl (opv_pick_f rfl rfl) ?_)
                                                                                            first | (refine dv rfl (opv_as rfl) ?_) | (refine dv rfl (opv_ast rfl) ?_)
                                                                                            refine dnil ?_
                                                                                            refine then_normal ?_
                                                                                            refine cret ?_
                                                                                            refine ⟨Or.inr rfl, _, _, _, (resVs_cons (ResV.tmp _ _ rfl) resVs_nil), (pubA_id rfl), ?_⟩
                                                                                            first | rfl | (refine avb ?_; simp_all; done)))
                                                                                · replace hg21 := bnot_f hg21
                                                                                  first
                                                                                  | (exfalso; first | omega | contradiction | (simp_all; done))
                                                                                  | (
                                                                                      first | (refine dvg rfl rfl rfl (opv_loadN ti24 rfl (.lp _ _ _ rfl) (Nat.le_of_ble_eq_true rfl)) ?_) | (refine dvg rfl rfl rfl (opv_loadN ti24 rfl (.cp _) (Nat.le_of_ble_eq_true rfl)) ?_)
                                                                                      first | (refine dvg rfl rfl rfl (opv_mv rfl) ?_) | (refine dvg rfl rfl rfl (opv_mvt rfl) ?_)
                                                                                      refine ddg rfl rfl rfl (opD_call fn29 (opnds_cons rfl (opnds_cons rfl opnds_nil)) rfl (has_c)) ?_
                                                                                      first | (refine dvg rfl rfl rfl (opv_loadN ti24 rfl (.lp _ _ _ rfl) (Nat.le_of_ble_eq_true rfl)) ?_) | (refine dvg rfl rfl rfl (opv_loadN ti24 rfl (.cp _) (Nat.le_of_ble_eq_true rfl)) ?_)
                                                                                      first | (refine dvg rfl rfl rfl (opv_mv rfl) ?_) | (refine dvg rfl rfl rfl (opv_mvt rfl) ?_)
                                                                                      refine ddg rfl rfl rfl (opD_call fn29 (opnds_cons rfl (opnds_cons rfl opnds_nil)) rfl (has_c)) ?_
                                                                                      refine dvg rfl rfl rfl (opv_beql Try.underlying4 rfl rfl) ?_
                                                                                      first | (refine dvg rfl rfl rfl (opv_pick_t rfl rfl) ?_) | (refine dvg rfl rfl rfl (opv_pick_f rfl rfl) ?_)
                                                                                      first | (refine dv rfl (opv_pick_t rfl rfl) ?_) | (refine dv rfl (opv_pick_f rfl rfl) ?_)
                                                                                      first | (refine dv rfl (opv_mv rfl) ?_) | (refine dv rfl (opv_mvt rfl) ?_)
                                                                                      refine dsplit 113 rfl (fun hg23 => ?_) (fun hg23 => ?_)
                                                                                      · first
                                                                                        | (exfalso; first | omega | contradiction | (simp_all; done))
                                                                                        | (
                                                                                            first | (refine dvg rfl rfl rfl (opv_loadN ti24 rfl (.lp _ _ _ rfl) (Nat.le_of_ble_eq_true rfl)) ?_) | (refine dvg rfl rfl rfl (opv_loadN ti24 rfl (.cp _) (Nat.le_of_ble_eq_true rfl)) ?_)
                                                                                            refine ddg rfl rfl rfl (opD_call fn31 (opnds_cons rfl opnds_nil) rfl (empty_c)) ?_
                                                                                            refine dvg rfl rfl rfl (opv_not rfl) ?_
                                                                                            first | (refine dvg rfl rfl rfl (opv_mv rfl) ?_) | (refine dvg rfl rfl rfl (opv_mvt rfl) ?_)
                                                                                            refine dsplit 117 rfl (fun hg24 => ?_) (fun hg24 => ?_)
                                                                                            · replace hg24 := bnot_t hg24
                                                                                              first
                                                                                              | (exfalso; first | omega | contradiction | (simp_all; done))
                                                                                              | (
                                                                                                  refine doff rfl rfl rfl rfl ?_
                                                                                                  refine doff rfl rfl rfl rfl ?_
                                                                                                  refine doff rfl rfl rfl rfl ?_
                                                                                                  refine doff rfl rfl rfl rfl ?_
                                                                                                  first | (refine dvg rfl rfl rfl (opv_pick_t rfl rfl) ?_) | (refine dvg rfl rfl rfl (opv_pick_f rfl rfl) ?_)
                                                                                                  first | (refine dv rfl (opv_pick_t rfl rfl) ?_) | (refine dv rfl (opv_pick_f rfl rfl) ?_)
                                                                                                  first | (refine dv rfl (opv_as rfl) ?_) | (refine dv rfl (opv_ast rfl) ?_)
                                                                                                  refine dnil ?_
                                                                                                  refine then_normal ?_
                                                                                                  refine cret ?_
                                                                                                  refine ⟨Or.inr rfl, _, _, _, (resVs_cons (ResV.tmp _ _ rfl) resVs_nil), (pubA_id rfl), ?_⟩
                                                                                                  first | rfl | (refine avb ?_; simp_all; done))
                                                                                            · replace hg24 := bnot_f hg24
                                                                                              first
                                                                                              | (exfalso; first | omega | contradiction | (simp_all; done))
                                                                                              | (
                                                                                                  first | (refine dvg rfl rfl rfl (opv_loadN ti24 rfl (.lp _ _ _ rfl) (Nat.le_of_ble_eq_true rfl)) ?_) | (refine dvg rfl rfl rfl (opv_loadN ti24 rfl (.cp _) (Nat.le_of_ble_eq_true rfl)) ?_)
                                                                                                  first | (refine dvg rfl rfl rfl (opv_mv rfl) ?_) | (refine dvg rfl rfl rfl (opv_mvt rfl) ?_)
                                                                                                  refine ddg rfl rfl rfl (opD_call fn29 (opnds_cons rfl (opnds_cons rfl opnds_nil)) rfl (has_c)) ?_
                                                                                                  refine dvg rfl rfl rfl (opv_not rfl) ?_
                                                                                                  first | (refine dvg rfl rfl rfl (opv_pick_t rfl rfl) ?_) | (refine dvg rfl rfl rfl (opv_pick_f rfl rfl) ?_)
                                                                                                  first | (refine dv rfl (opv_pick_t rfl rfl) ?_) | (refine dv rfl (opv_pick_f rfl rfl) ?_)
                                                                                                  first | (refine dv rfl (opv_as rfl) ?_) | (refine dv rfl (opv_ast rfl) ?_)
                                                                                                  refine dnil ?_
                                                                                                  refine then_normal ?_
                                                                                                  refine cret ?_
                                                                                                  refine ⟨Or.inr rfl, _, _, _, (resVs_cons (ResV.tmp _ _ rfl) resVs_nil), (pubA_id rfl), ?_⟩
                                                                                                  first | rfl | (refine avb ?_; simp_all; done)))
                                                                                      · first
                                                                                        | (exfalso; first | omega | contradiction | (simp_all; done))
                                                                                        | (
                                                                                            refine doff rfl rfl rfl rfl ?_
                                                                                            refine doff rfl rfl rfl rfl ?_
                                                                                            refine doff rfl rfl rfl rfl ?_
                                                                                            refine doff rfl rfl rfl rfl ?_
                                                                                            refine doffu rfl rfl rfl ?_
                                                                                            refine doffu rfl rfl rfl ?_
                                                                                            refine doffu rfl rfl rfl ?_
                                                                                            refine doffu rfl rfl rfl ?_
                                                                                            refine doff rfl rfl rfl rfl ?_
                                                                                            first | (refine dv rfl (opv_pick_t rfl rfl) ?_) | (refine dv rfl (opv_pick_f rfl rfl) ?_)
                                                                                            first | (refine dv rfl (opv_as rfl) ?_) | (refine dv rfl (opv_ast rfl) ?_)
                                                                                            refine dnil ?_
                                                                                            refine then_normal ?_
                                                                                            refine cret ?_
                                                                                            refine ⟨Or.inr rfl, _, _, _, (resVs_cons (ResV.tmp _ _ rfl) resVs_nil), (pubA_id rfl), ?_⟩
                                                                                            first | rfl | (refine avb ?_; simp_all; done))))
                                                                          · first
                                                                            | (exfalso; first | omega | contradiction | (simp_all; done))
                                                                            | (
                                                                                refine doff rfl rfl rfl rfl ?_
                                                                                refine doff rfl rfl rfl rfl ?_
                                                                                refine doff rfl rfl rfl rfl ?_
                                                                                refine doffu rfl rfl rfl ?_
                                                                                refine doffu rfl rfl rfl ?_
                                                                                refine doffu rfl rfl rfl ?_
                                                                                refine doffu rfl rfl rfl ?_
                                                                                refine doffu rfl rfl rfl ?_
                                                                                refine doffu rfl rfl rfl ?_
                                                                                refine doffu rfl rfl rfl ?_
                                                                                refine doff rfl rfl rfl rfl ?_
                                                                                first | (refine dv rfl (opv_pick_t rfl rfl) ?_) | (refine dv rfl (opv_pick_f rfl rfl) ?_)
                                                                                first | (refine dv rfl (opv_mv rfl) ?_) | (refine dv rfl (opv_mvt rfl) ?_)
                                                                                refine doff rfl rfl rfl rfl ?_
                                                                                refine doff rfl rfl rfl rfl ?_
                                                                                refine doff rfl rfl rfl rfl ?_
                                                                                refine doff rfl rfl rfl rfl ?_
                                                                                refine doffu rfl rfl rfl ?_
                                                                                refine doffu rfl rfl rfl ?_
                                                                                refine doffu rfl rfl rfl ?_
                                                                                refine doffu rfl rfl rfl ?_
                                                                                refine doff rfl rfl rfl rfl ?_
                                                                                first | (refine dv rfl (opv_pick_t rfl rfl) ?_) | (refine dv rfl (opv_pick_f rfl rfl) ?_)
                                                                                first | (refine dv rfl (opv_as rfl) ?_) | (refine dv rfl (opv_ast rfl) ?_)
                                                                                refine dnil ?_
                                                                                refine then_normal ?_
                                                                                refine cret ?_
                                                                                refine ⟨Or.inr rfl, _, _, _, (resVs_cons (ResV.tmp _ _ rfl) resVs_nil), (pubA_id rfl), ?_⟩
                                                                                first | rfl | (refine avb ?_; simp_all; done)))
                                                                    · first
                                                                      | (exfalso; first | omega | contradiction | (simp_all; done))
                                                                      | (
                                                                          refine doff rfl rfl rfl rfl ?_
                                                                          refine doff rfl rfl rfl rfl ?_
                                                                          refine doff rfl rfl rfl rfl ?_
                                                                          refine doff rfl rfl rfl rfl ?_
                                                                          refine doff rfl rfl rfl rfl ?_
                                                                          first | (refine dv rfl (opv_pick_t rfl rfl) ?_) | (refine dv rfl (opv_pick_f rfl rfl) ?_)
                                                                          first | (refine dv rfl (opv_mv rfl) ?_) | (refine dv rfl (opv_mvt rfl) ?_)
                                                                          refine doff rfl rfl rfl rfl ?_
                                                                          refine doff rfl rfl rfl rfl ?_
                                                                          refine doff rfl rfl rfl rfl ?_
                                                                          refine doffu rfl rfl rfl ?_
                                                                          refine doffu rfl rfl rfl ?_
                                                                          refine doffu rfl rfl rfl ?_
                                                                          refine doffu rfl rfl rfl ?_
                                                                          refine doffu rfl rfl rfl ?_
                                                                          refine doffu rfl rfl rfl ?_
                                                                          refine doffu rfl rfl rfl ?_
                                                                          refine doff rfl rfl rfl rfl ?_
                                                                          first | (refine dv rfl (opv_pick_t rfl rfl) ?_) | (refine dv rfl (opv_pick_f rfl rfl) ?_)
                                                                          first | (refine dv rfl (opv_mv rfl) ?_) | (refine dv rfl (opv_mvt rfl) ?_)
                                                                          refine doff rfl rfl rfl rfl ?_
                                                                          refine doff rfl rfl rfl rfl ?_
                                                                          refine doff rfl rfl rfl rfl ?_
                                                                          refine doff rfl rfl rfl rfl ?_
                                                                          refine doffu rfl rfl rfl ?_
                                                                          refine doffu rfl rfl rfl ?_
                                                                          refine doffu rfl rfl rfl ?_
                                                                          refine doffu rfl rfl rfl ?_
                                                                          refine doff rfl rfl rfl rfl ?_
                                                                          first | (refine dv rfl (opv_pick_t rfl rfl) ?_) | (refine dv rfl (opv_pick_f rfl rfl) ?_)
                                                                          first | (refine dv rfl (opv_as rfl) ?_) | (refine dv rfl (opv_ast rfl) ?_)
                                                                          refine dnil ?_
                                                                          refine then_normal ?_
                                                                          refine cret ?_
                                                                          refine ⟨Or.inr rfl, _, _, _, (resVs_cons (ResV.tmp _ _ rfl) resVs_nil), (pubA_id rfl), ?_⟩
                                                                          first | rfl | (refine avb ?_; simp_all; done)))))))
                                      · first
                                        | (exfalso; first | omega | contradiction | (simp_all; done))
                                        | (
                                            refine soff rfl rfl rfl rfl ?_
                                            refine soff rfl rfl rfl rfl ?_
                                            refine soff rfl rfl rfl rfl ?_
                                            refine soff rfl rfl rfl rfl ?_
                                            refine soff rfl rfl rfl rfl ?_
                                            refine soff rfl rfl rfl rfl ?_
                                            refine soffu rfl rfl rfl ?_
                                            refine soffu rfl rfl rfl ?_
                                            refine soffu rfl rfl rfl ?_
                                            refine soffu rfl rfl rfl ?_
                                            refine soffu rfl rfl rfl ?_
                                            refine soff rfl rfl rfl rfl ?_
                                            refine soff rfl rfl rfl rfl ?_
                                            refine soffu rfl rfl rfl ?_
                                            refine soffu rfl rfl rfl ?_
                                            refine soff rfl rfl rfl rfl ?_
                                            refine son rfl rfl rfl ?_
                                            first | (refine sv rfl (opv_pick_t rfl rfl) ?_) | (refine sv rfl (opv_pick_f rfl rfl) ?_)
                                            first | (refine sv rfl (opv_pick_t rfl rfl) ?_) | (refine sv rfl (opv_pick_f rfl rfl) ?_)
                                            first | (refine sv rfl (opv_mv rfl) ?_) | (refine sv rfl (opv_mvt rfl) ?_)
                                            refine son rfl rfl rfl ?_
                                            first | (refine sv rfl (opv_mv rfl) ?_) | (refine sv rfl (opv_mvt rfl) ?_)
                                            refine son rfl rfl rfl ?_
                                            refine sv rfl (opv_not rfl) ?_
                                            refine son rfl rfl rfl ?_
                                            first | (refine sv rfl (opv_mv rfl) ?_) | (refine sv rfl (opv_mvt rfl) ?_)
                                            refine ssplit 88 rfl (fun hg25 => ?_) (fun hg25 => ?_)
                                            · replace hg25 := bnot_t hg25
                                              first
                                              | (exfalso; first | omega | contradiction | (simp_all; done))
                                              | (
                                                  refine son rfl rfl rfl ?_
                                                  first | (refine sv rfl (opv_mv rfl) ?_) | (refine sv rfl (opv_mvt rfl) ?_)
                                                  refine son rfl rfl rfl ?_
                                                  first | (refine sv rfl (opv_pick_t rfl rfl) ?_) | (refine sv rfl (opv_pick_f rfl rfl) ?_)
                                                  first | (refine sv rfl (opv_pick_t rfl rfl) ?_) | (refine sv rfl (opv_pick_f rfl rfl) ?_)
                                                  refine snil ?_
                                                  refine ccond rfl (fun hc26 => ?_) (fun hc26 => ?_)
                                                  · first
                                                    | (exfalso; first | omega | contradiction | (simp_all; done))
                                                    | (
                                                        refine cseq ?_
                                                        refine cregion ?_
                                                        first | (refine sv rfl (opv_as rfl) ?_) | (refine sv rfl (opv_ast rfl) ?_)
                                                        refine snil ?_
                                                        refine cret ?_
                                                        refine then_ret ?_
                                                        refine ⟨Or.inr rfl, _, _, _, (resVs_cons (ResV.tmp _ _ rfl) resVs_nil), (pubA_id rfl), ?_⟩
                                                        first | rfl | (refine avb ?_; simp_all; done))
                                                  · first
                                                    | (exfalso; first | omega | contradiction | (simp_all; done))
                                                    | (
                                                        refine cskip ?_
                                                        refine then_normal ?_
                                                        refine cseq ?_
                                                        refine cdraw mixed (by kernel_rfl) ?_
                                                        first | (refine dv rfl (opv_mv rfl) ?_) | (refine dv rfl (opv_mvt rfl) ?_)
                                                        first | (refine dv rfl (opv_mv rfl) ?_) | (refine dv rfl (opv_mvt rfl) ?_)
                                                        refine dsplit 93 rfl (fun hg27 => ?_) (fun hg27 => ?_)
                                                        · first
                                                          | (exfalso; first | omega | contradiction | (simp_all; done))
                                                          | (
                                                              first | (refine dvg rfl rfl rfl (opv_mv rfl) ?_) | (refine dvg rfl rfl rfl (opv_mvt rfl) ?_)
                                                              first | (refine dvg rfl rfl rfl (opv_loadN ti24 rfl (.lp _ _ _ rfl) (Nat.le_of_ble_eq_true rfl)) ?_) | (refine dvg rfl rfl rfl (opv_loadN ti24 rfl (.cp _) (Nat.le_of_ble_eq_true rfl)) ?_)
                                                              refine ddg rfl rfl rfl (opD_call fn31 (opnds_cons rfl opnds_nil) rfl (empty_c)) ?_
                                                              refine dvg rfl rfl rfl (opv_not rfl) ?_
                                                              refine dvg rfl rfl rfl (opv_beql Try.underlying4 rfl rfl) ?_
                                                              first | (refine dv rfl (opv_pick_t rfl rfl) ?_) | (refine dv rfl (opv_pick_f rfl rfl) ?_)
                                                              first | (refine dv rfl (opv_mv rfl) ?_) | (refine dv rfl (opv_mvt rfl) ?_)
                                                              refine dsplit 100 rfl (fun hg28 => ?_) (fun hg28 => ?_)
                                                              · first
                                                                | (exfalso; first | omega | contradiction | (simp_all; done))
                                                                | (
                                                                    first | (refine dvg rfl rfl rfl (opv_mv rfl) ?_) | (refine dvg rfl rfl rfl (opv_mvt rfl) ?_)
                                                                    refine dvg rfl rfl rfl (opv_not rfl) ?_
                                                                    first | (refine dvg rfl rfl rfl (opv_mv rfl) ?_) | (refine dvg rfl rfl rfl (opv_mvt rfl) ?_)
                                                                    refine dsplit 103 rfl (fun hg29 => ?_) (fun hg29 => ?_)
                                                                    · replace hg29 := bnot_t hg29
                                                                      first
                                                                      | (exfalso; first | omega | contradiction | (simp_all; done))
                                                                      | (
                                                                          refine doff rfl rfl rfl rfl ?_
                                                                          refine doff rfl rfl rfl rfl ?_
                                                                          refine doff rfl rfl rfl rfl ?_
                                                                          refine doff rfl rfl rfl rfl ?_
                                                                          refine doff rfl rfl rfl rfl ?_
                                                                          refine doff rfl rfl rfl rfl ?_
                                                                          refine doff rfl rfl rfl rfl ?_
                                                                          first | (refine dvg rfl rfl rfl (opv_pick_t rfl rfl) ?_) | (refine dvg rfl rfl rfl (opv_pick_f rfl rfl) ?_)
                                                                          first | (refine dv rfl (opv_pick_t rfl rfl) ?_) | (refine dv rfl (opv_pick_f rfl rfl) ?_)
                                                                          first | (refine dv rfl (opv_mv rfl) ?_) | (refine dv rfl (opv_mvt rfl) ?_)
                                                                          first | (refine dvg rfl rfl rfl (opv_loadN ti24 rfl (.lp _ _ _ rfl) (Nat.le_of_ble_eq_true rfl)) ?_) | (refine dvg rfl rfl rfl (opv_loadN ti24 rfl (.cp _) (Nat.le_of_ble_eq_true rfl)) ?_)
                                                                          refine ddg rfl rfl rfl (opD_call fn31 (opnds_cons rfl opnds_nil) rfl (empty_c)) ?_
                                                                          refine dvg rfl rfl rfl (opv_not rfl) ?_
                                                                          first | (refine dvg rfl rfl rfl (opv_mv rfl) ?_) | (refine dvg rfl rfl rfl (opv_mvt rfl) ?_)
                                                                          refine dsplit 117 rfl (fun hg30 => ?_) (fun hg30 => ?_)
                                                                          · replace hg30 := bnot_t hg30
                                                                            first
                                                                            | (exfalso; first | omega | contradiction | (simp_all; done))
                                                                            | (
                                                                                refine doff rfl rfl rfl rfl ?_
                                                                                refine doff rfl rfl rfl rfl ?_
                                                                                refine doff rfl rfl rfl rfl ?_
                                                                                refine doff rfl rfl rfl rfl ?_
                                                                                first | (refine dvg rfl rfl rfl (opv_pick_t rfl rfl) ?_) | (refine dvg rfl rfl rfl (opv_pick_f rfl rfl) ?_)
                                                                                first | (refine dv rfl (opv_pick_t rfl rfl) ?_) | (refine dv rfl (opv_pick_f rfl rfl) ?_)
                                                                                first | (refine dv rfl (opv_as rfl) ?_) | (refine dv rfl (opv_ast rfl) ?_)
                                                                                refine dnil ?_
                                                                                refine then_normal ?_
                                                                                refine cret ?_
                                                                                refine ⟨Or.inr rfl, _, _, _, (resVs_cons (ResV.tmp _ _ rfl) resVs_nil), (pubA_id rfl), ?_⟩
                                                                                first | rfl | (refine avb ?_; simp_all; done))
                                                                          · replace hg30 := bnot_f hg30
                                                                            first
                                                                            | (exfalso; first | omega | contradiction | (simp_all; done))
                                                                            | (
                                                                                first | (refine dvg rfl rfl rfl (opv_loadN ti24 rfl (.lp _ _ _ rfl) (Nat.le_of_ble_eq_true rfl)) ?_) | (refine dvg rfl rfl rfl (opv_loadN ti24 rfl (.cp _) (Nat.le_of_ble_eq_true rfl)) ?_)
                                                                                first | (refine dvg rfl rfl rfl (opv_mv rfl) ?_) | (refine dvg rfl rfl rfl (opv_mvt rfl) ?_)
                                                                                refine ddg rfl rfl rfl (opD_call fn29 (opnds_cons rfl (opnds_cons rfl opnds_nil)) rfl (has_c)) ?_
                                                                                refine dvg rfl rfl rfl (opv_not rfl) ?_
                                                                                first | (refine dvg rfl rfl rfl (opv_pick_t rfl rfl) ?_) | (refine dvg rfl rfl rfl (opv_pick_f rfl rfl) ?_)
                                                                                first | (refine dv rfl (opv_pick_t rfl rfl) ?_) | (refine dv rfl (opv_pick_f rfl rfl) ?_)
                                                                                first | (refine dv rfl (opv_as rfl) ?_) | (refine dv rfl (opv_ast rfl) ?_)
                                                                                refine dnil ?_
                                                                                refine then_normal ?_
                                                                                refine cret ?_
                                                                                refine ⟨Or.inr rfl, _, _, _, (resVs_cons (ResV.tmp _ _ rfl) resVs_nil), (pubA_id rfl), ?_⟩
                                                                                first | rfl | (refine avb ?_; simp_all; done)))
                                                                    · replace hg29 := bnot_f hg29
                                                                      first
                                                                      | (exfalso; first | omega | contradiction | (simp_all; done))
                                                                      | (
                                                                          first | (refine dvg rfl rfl rfl (opv_loadN ti24 rfl (.lp _ _ _ rfl) (Nat.le_of_ble_eq_true rfl)) ?_) | (refine dvg rfl rfl rfl (opv_loadN ti24 rfl (.cp _) (Nat.le_of_ble_eq_true rfl)) ?_)
                                                                          first | (refine dvg rfl rfl rfl (opv_mv rfl) ?_) | (refine dvg rfl rfl rfl (opv_mvt rfl) ?_)
                                                                          refine ddg rfl rfl rfl (opD_call fn29 (opnds_cons rfl (opnds_cons rfl opnds_nil)) rfl (has_c)) ?_
                                                                          first | (refine dvg rfl rfl rfl (opv_loadN ti24 rfl (.lp _ _ _ rfl) (Nat.le_of_ble_eq_true rfl)) ?_) | (refine dvg rfl rfl rfl (opv_loadN ti24 rfl (.cp _) (Nat.le_of_ble_eq_true rfl)) ?_)
                                                                          first | (refine dvg rfl rfl rfl (opv_mv rfl) ?_) | (refine dvg rfl rfl rfl (opv_mvt rfl) ?_)
                                                                          refine ddg rfl rfl rfl (opD_call fn29 (opnds_cons rfl (opnds_cons rfl opnds_nil)) rfl (has_c)) ?_
                                                                          refine dvg rfl rfl rfl (opv_beql Try.underlying4 rfl rfl) ?_
                                                                          first | (refine dvg rfl rfl rfl (opv_pick_t rfl rfl) ?_) | (refine dvg rfl rfl rfl (opv_pick_f rfl rfl) ?_)
                                                                          first | (refine dv rfl (opv_pick_t rfl rfl) ?_) | (refine dv rfl (opv_pick_f rfl rfl) ?_)
                                                                          first | (refine dv rfl (opv_mv rfl) ?_) | (refine dv rfl (opv_mvt rfl) ?_)
                                                                          refine dsplit 113 rfl (fun hg31 => ?_) (fun hg31 => ?_)
                                                                          · first
                                                                            | (exfalso; first | omega | contradiction | (simp_all; done))
                                                                            | (
                                                                                first | (refine dvg rfl rfl rfl (opv_loadN ti24 rfl (.lp _ _ _ rfl) (Nat.le_of_ble_eq_true rfl)) ?_) | (refine dvg rfl rfl rfl (opv_loadN ti24 rfl (.cp _) (Nat.le_of_ble_eq_true rfl)) ?_)
                                                                                refine ddg rfl rfl rfl (opD_call fn31 (opnds_cons rfl opnds_nil) rfl (empty_c)) ?_
                                                                                refine dvg rfl rfl rfl (opv_not rfl) ?_
                                                                                first | (refine dvg rfl rfl rfl (opv_mv rfl) ?_) | (refine dvg rfl rfl rfl (opv_mvt rfl) ?_)
                                                                                refine dsplit 117 rfl (fun hg32 => ?_) (fun hg32 => ?_)
                                                                                · replace hg32 := bnot_t hg32
                                                                                  first
                                                                                  | (exfalso; first | omega | contradiction | (simp_all; done))
                                                                                  | (
                                                                                      refine doff rfl rfl rfl rfl ?_
                                                                                      refine doff rfl rfl rfl rfl ?_
                                                                                      refine doff rfl rfl rfl rfl ?_
                                                                                      refine doff rfl rfl rfl rfl ?_
                                                                                      first | (refine dvg rfl rfl rfl (opv_pick_t rfl rfl) ?_) | (refine dvg rfl rfl rfl (opv_pick_f rfl rfl) ?_)
                                                                                      first | (refine dv rfl (opv_pick_t rfl rfl) ?_) | (refine dv rfl (opv_pick_f rfl rfl) ?_)
                                                                                      first | (refine dv rfl (opv_as rfl) ?_) | (refine dv rfl (opv_ast rfl) ?_)
                                                                                      refine dnil ?_
                                                                                      refine then_normal ?_
                                                                                      refine cret ?_
                                                                                      refine ⟨Or.inr rfl, _, _, _, (resVs_cons (ResV.tmp _ _ rfl) resVs_nil), (pubA_id rfl), ?_⟩
                                                                                      first | rfl | (refine avb ?_; simp_all; done))
                                                                                · replace hg32 := bnot_f hg32
                                                                                  first
                                                                                  | (exfalso; first | omega | contradiction | (simp_all; done))
                                                                                  | (
                                                                                      first | (refine dvg rfl rfl rfl (opv_loadN ti24 rfl (.lp _ _ _ rfl) (Nat.le_of_ble_eq_true rfl)) ?_) | (refine dvg rfl rfl rfl (opv_loadN ti24 rfl (.cp _) (Nat.le_of_ble_eq_true rfl)) ?_)
                                                                                      first | (refine dvg rfl rfl rfl (opv_mv rfl) ?_) | (refine dvg rfl rfl rfl (opv_mvt rfl) ?_)
                                                                                      refine ddg rfl rfl rfl (opD_call fn29 (opnds_cons rfl (opnds_cons rfl opnds_nil)) rfl (has_c)) ?_
                                                                                      refine dvg rfl rfl rfl (opv_not rfl) ?_
                                                                                      first | (refine dvg rfl rfl rfl (opv_pick_t rfl rfl) ?_) | (refine dvg rfl rfl rfl (opv_pick_f rfl rfl) ?_)
                                                                                      first | (refine dv rfl (opv_pick_t rfl rfl) ?_) | (refine dv rfl (opv_pick_f rfl rfl) ?_)
                                                                                      first | (refine dv rfl (opv_as rfl) ?_) | (refine dv rfl (opv_ast rfl) ?_)
                                                                                      refine dnil ?_
                                                                                      refine then_normal ?_
                                                                                      refine cret ?_
                                                                                      refine ⟨Or.inr rfl, _, _, _, (resVs_cons (ResV.tmp _ _ rfl) resVs_nil), (pubA_id rfl), ?_⟩
                                                                                      first | rfl | (refine avb ?_; simp_all; done)))
                                                                          · first
                                                                            | (exfalso; first | omega | contradiction | (simp_all; done))
                                                                            | (
                                                                                refine doff rfl rfl rfl rfl ?_
                                                                                refine doff rfl rfl rfl rfl ?_
                                                                                refine doff rfl rfl rfl rfl ?_
                                                                                refine doff rfl rfl rfl rfl ?_
                                                                                refine doffu rfl rfl rfl ?_
                                                                                refine doffu rfl rfl rfl ?_
                                                                                refine doffu rfl rfl rfl ?_
                                                                                refine doffu rfl rfl rfl ?_
                                                                                refine doff rfl rfl rfl rfl ?_
                                                                                first | (refine dv rfl (opv_pick_t rfl rfl) ?_) | (refine dv rfl (opv_pick_f rfl rfl) ?_)
                                                                                first | (refine dv rfl (opv_as rfl) ?_) | (refine dv rfl (opv_ast rfl) ?_)
                                                                                refine dnil ?_
                                                                                refine then_normal ?_
                                                                                refine cret ?_
                                                                                refine ⟨Or.inr rfl, _, _, _, (resVs_cons (ResV.tmp _ _ rfl) resVs_nil), (pubA_id rfl), ?_⟩
                                                                                first | rfl | (refine avb ?_; simp_all; done))))
                                                              · first
                                                                | (exfalso; first | omega | contradiction | (simp_all; done))
                                                                | (
                                                                    refine doff rfl rfl rfl rfl ?_
                                                                    refine doff rfl rfl rfl rfl ?_
                                                                    refine doff rfl rfl rfl rfl ?_
                                                                    refine doffu rfl rfl rfl ?_
                                                                    refine doffu rfl rfl rfl ?_
                                                                    refine doffu rfl rfl rfl ?_
                                                                    refine doffu rfl rfl rfl ?_
                                                                    refine doffu rfl rfl rfl ?_
                                                                    refine doffu rfl rfl rfl ?_
                                                                    refine doffu rfl rfl rfl ?_
                                                                    refine doff rfl rfl rfl rfl ?_
                                                                    first | (refine dv rfl (opv_pick_t rfl rfl) ?_) | (refine dv rfl (opv_pick_f rfl rfl) ?_)
                                                                    first | (refine dv rfl (opv_mv rfl) ?_) | (refine dv rfl (opv_mvt rfl) ?_)
                                                                    refine doff rfl rfl rfl rfl ?_
                                                                    refine doff rfl rfl rfl rfl ?_
                                                                    refine doff rfl rfl rfl rfl ?_
                                                                    refine doff rfl rfl rfl rfl ?_
                                                                    refine doffu rfl rfl rfl ?_
                                                                    refine doffu rfl rfl rfl ?_
                                                                    refine doffu rfl rfl rfl ?_
                                                                    refine doffu rfl rfl rfl ?_
                                                                    refine doff rfl rfl rfl rfl ?_
                                                                    first | (refine dv rfl (opv_pick_t rfl rfl) ?_) | (refine dv rfl (opv_pick_f rfl rfl) ?_)
                                                                    first | (refine dv rfl (opv_as rfl) ?_) | (refine dv rfl (opv_ast rfl) ?_)
                                                                    refine dnil ?_
                                                                    refine then_normal ?_
                                                                    refine cret ?_
                                                                    refine ⟨Or.inr rfl, _, _, _, (resVs_cons (ResV.tmp _ _ rfl) resVs_nil), (pubA_id rfl), ?_⟩
                                                                    first | rfl | (refine avb ?_; simp_all; done)))
                                                        · first
                                                          | (exfalso; first | omega | contradiction | (simp_all; done))
                                                          | (
                                                              refine doff rfl rfl rfl rfl ?_
                                                              refine doff rfl rfl rfl rfl ?_
                                                              refine doff rfl rfl rfl rfl ?_
                                                              refine doff rfl rfl rfl rfl ?_
                                                              refine doff rfl rfl rfl rfl ?_
                                                              first | (refine dv rfl (opv_pick_t rfl rfl) ?_) | (refine dv rfl (opv_pick_f rfl rfl) ?_)
                                                              first | (refine dv rfl (opv_mv rfl) ?_) | (refine dv rfl (opv_mvt rfl) ?_)
                                                              refine doff rfl rfl rfl rfl ?_
                                                              refine doff rfl rfl rfl rfl ?_
                                                              refine doff rfl rfl rfl rfl ?_
                                                              refine doffu rfl rfl rfl ?_
                                                              refine doffu rfl rfl rfl ?_
                                                              refine doffu rfl rfl rfl ?_
                                                              refine doffu rfl rfl rfl ?_
                                                              refine doffu rfl rfl rfl ?_
                                                              refine doffu rfl rfl rfl ?_
                                                              refine doffu rfl rfl rfl ?_
                                                              refine doff rfl rfl rfl rfl ?_
                                                              first | (refine dv rfl (opv_pick_t rfl rfl) ?_) | (refine dv rfl (opv_pick_f rfl rfl) ?_)
                                                              first | (refine dv rfl (opv_mv rfl) ?_) | (refine dv rfl (opv_mvt rfl) ?_)
                                                              refine doff rfl rfl rfl rfl ?_
                                                              refine doff rfl rfl rfl rfl ?_
                                                              refine doff rfl rfl rfl rfl ?_
                                                              refine doff rfl rfl rfl rfl ?_
                                                              refine doffu rfl rfl rfl ?_
                                                              refine doffu rfl rfl rfl ?_
                                                              refine doffu rfl rfl rfl ?_
                                                              refine doffu rfl rfl rfl ?_
                                                              refine doff rfl rfl rfl rfl ?_
                                                              first | (refine dv rfl (opv_pick_t rfl rfl) ?_) | (refine dv rfl (opv_pick_f rfl rfl) ?_)
                                                              first | (refine dv rfl (opv_as rfl) ?_) | (refine dv rfl (opv_ast rfl) ?_)
                                                              refine dnil ?_
                                                              refine then_normal ?_
                                                              refine cret ?_
                                                              refine ⟨Or.inr rfl, _, _, _, (resVs_cons (ResV.tmp _ _ rfl) resVs_nil), (pubA_id rfl), ?_⟩
                                                              first | rfl | (refine avb ?_; simp_all; done))))
                                            · replace hg25 := bnot_f hg25
                                              first
                                              | (exfalso; first | omega | contradiction | (simp_all; done))
                                              | (
                                                  refine soff rfl rfl rfl rfl ?_
                                                  refine son rfl rfl rfl ?_
                                                  first | (refine sv rfl (opv_pick_t rfl rfl) ?_) | (refine sv rfl (opv_pick_f rfl rfl) ?_)
                                                  first | (refine sv rfl (opv_pick_t rfl rfl) ?_) | (refine sv rfl (opv_pick_f rfl rfl) ?_)
                                                  refine snil ?_
                                                  refine ccond rfl (fun hx => Bool.noConfusion hx) (fun _ => ?_)
                                                  refine cskip ?_
                                                  refine then_normal ?_
                                                  refine cseq ?_
                                                  refine cdraw mixed (by kernel_rfl) ?_
                                                  first | (refine dv rfl (opv_mv rfl) ?_) | (refine dv rfl (opv_mvt rfl) ?_)
                                                  first | (refine dv rfl (opv_mv rfl) ?_) | (refine dv rfl (opv_mvt rfl) ?_)
                                                  refine dsplit 93 rfl (fun hg33 => ?_) (fun hg33 => ?_)
                                                  · first
                                                    | (exfalso; first | omega | contradiction | (simp_all; done))
                                                    | (
                                                        first | (refine dvg rfl rfl rfl (opv_mv rfl) ?_) | (refine dvg rfl rfl rfl (opv_mvt rfl) ?_)
                                                        first | (refine dvg rfl rfl rfl (opv_loadN ti24 rfl (.lp _ _ _ rfl) (Nat.le_of_ble_eq_true rfl)) ?_) | (refine dvg rfl rfl rfl (opv_loadN ti24 rfl (.cp _) (Nat.le_of_ble_eq_true rfl)) ?_)
                                                        refine ddg rfl rfl rfl (opD_call fn31 (opnds_cons rfl opnds_nil) rfl (empty_c)) ?_
                                                        refine dvg rfl rfl rfl (opv_not rfl) ?_
                                                        refine dvg rfl rfl rfl (opv_beql Try.underlying4 rfl rfl) ?_
                                                        first | (refine dv rfl (opv_pick_t rfl rfl) ?_) | (refine dv rfl (opv_pick_f rfl rfl) ?_)
                                                        first | (refine dv rfl (opv_mv rfl) ?_) | (refine dv rfl (opv_mvt rfl) ?_)
                                                        refine dsplit 100 rfl (fun hg34 => ?_) (fun hg34 => ?_)
                                                        · first
                                                          | (exfalso; first | omega | contradiction | (simp_all; done))
                                                          | (
                                                              first | (refine dvg rfl rfl rfl (opv_mv rfl) ?_) | (refine dvg rfl rfl rfl (opv_mvt rfl) ?_)
                                                              refine dvg rfl rfl rfl (opv_not rfl) ?_
                                                              first | (refine dvg rfl rfl rfl (opv_mv rfl) ?_) | (refine dvg rfl rfl rfl (opv_mvt rfl) ?_)
                                                              refine dsplit 103 rfl (fun hg35 => ?_) (fun hg35 => ?_)
                                                              · replace hg35 := bnot_t hg35
                                                                first
                                                                | (exfalso; first | omega | contradiction | (simp_all; done))
                                                                | (
                                                                    refine doff rfl rfl rfl rfl ?_
                                                                    refine doff rfl rfl rfl rfl ?_
                                                                    refine doff rfl rfl rfl rfl ?_
                                                                    refine doff rfl rfl rfl rfl ?_
                                                                    refine doff rfl rfl rfl rfl ?_
                                                                    refine doff rfl rfl rfl rfl ?_
                                                                    refine doff rfl rfl rfl rfl ?_
                                                                    first | (refine dvg rfl rfl rfl (opv_pick_t rfl rfl) ?_) | (refine dvg rfl rfl rfl (opv_pick_f rfl rfl) ?_)
                                                                    first | (refine dv rfl (opv_pick_t rfl rfl) ?_) | (refine dv rfl (opv_pick_f rfl rfl) ?_)
                                                                    first | (refine dv rfl (opv_mv rfl) ?_) | (refine dv rfl (opv_mvt rfl) ?_)
                                                                    first | (refine dvg rfl rfl rfl (opv_loadN ti24 rfl (.lp _ _ _ rfl) (Nat.le_of_ble_eq_true rfl)) ?_) | (refine dvg rfl rfl rfl (opv_loadN ti24 rfl (.cp _) (Nat.le_of_ble_eq_true rfl)) ?_)
                                                                    refine ddg rfl rfl rfl (opD_call fn31 (opnds_cons rfl opnds_nil) rfl (empty_c)) ?_
                                                                    refine dvg rfl rfl rfl (opv_not rfl) ?_
                                                                    first | (refine dvg rfl rfl rfl (opv_mv rfl) ?_) | (refine dvg rfl rfl rfl (opv_mvt rfl) ?_)
                                                                    refine dsplit 117 rfl (fun hg36 => ?_) (fun hg36 => ?_)
                                                                    · replace hg36 := bnot_t hg36
                                                                      first
                                                                      | (exfalso; first | omega | contradiction | (simp_all; done))
                                                                      | (
                                                                          refine doff rfl rfl rfl rfl ?_
                                                                          refine doff rfl rfl rfl rfl ?_
                                                                          refine doff rfl rfl rfl rfl ?_
                                                                          refine doff rfl rfl rfl rfl ?_
                                                                          first | (refine dvg rfl rfl rfl (opv_pick_t rfl rfl) ?_) | (refine dvg rfl rfl rfl (opv_pick_f rfl rfl) ?_)
                                                                          first | (refine dv rfl (opv_pick_t rfl rfl) ?_) | (refine dv rfl (opv_pick_f rfl rfl) ?_)
                                                                          first | (refine dv rfl (opv_as rfl) ?_) | (refine dv rfl (opv_ast rfl) ?_)
                                                                          refine dnil ?_
                                                                          refine then_normal ?_
                                                                          refine cret ?_
                                                                          refine ⟨Or.inr rfl, _, _, _, (resVs_cons (ResV.tmp _ _ rfl) resVs_nil), (pubA_id rfl), ?_⟩
                                                                          first | rfl | (refine avb ?_; simp_all; done))
                                                                    · replace hg36 := bnot_f hg36
                                                                      first
                                                                      | (exfalso; first | omega | contradiction | (simp_all; done))
                                                                      | (
                                                                          first | (refine dvg rfl rfl rfl (opv_loadN ti24 rfl (.lp _ _ _ rfl) (Nat.le_of_ble_eq_true rfl)) ?_) | (refine dvg rfl rfl rfl (opv_loadN ti24 rfl (.cp _) (Nat.le_of_ble_eq_true rfl)) ?_)
                                                                          first | (refine dvg rfl rfl rfl (opv_mv rfl) ?_) | (refine dvg rfl rfl rfl (opv_mvt rfl) ?_)
                                                                          refine ddg rfl rfl rfl (opD_call fn29 (opnds_cons rfl (opnds_cons rfl opnds_nil)) rfl (has_c)) ?_
                                                                          refine dvg rfl rfl rfl (opv_not rfl) ?_
                                                                          first | (refine dvg rfl rfl rfl (opv_pick_t rfl rfl) ?_) | (refine dvg rfl rfl rfl (opv_pick_f rfl rfl) ?_)
                                                                          first | (refine dv rfl (opv_pick_t rfl rfl) ?_) | (refine dv rfl (opv_pick_f rfl rfl) ?_)
                                                                          first | (refine dv rfl (opv_as rfl) ?_) | (refine dv rfl (opv_ast rfl) ?_)
                                                                          refine dnil ?_
                                                                          refine then_normal ?_
                                                                          refine cret ?_
                                                                          refine ⟨Or.inr rfl, _, _, _, (resVs_cons (ResV.tmp _ _ rfl) resVs_nil), (pubA_id rfl), ?_⟩
                                                                          first | rfl | (refine avb ?_; simp_all; done)))
                                                              · replace hg35 := bnot_f hg35
                                                                first
                                                                | (exfalso; first | omega | contradiction | (simp_all; done))
                                                                | (
                                                                    first | (refine dvg rfl rfl rfl (opv_loadN ti24 rfl (.lp _ _ _ rfl) (Nat.le_of_ble_eq_true rfl)) ?_) | (refine dvg rfl rfl rfl (opv_loadN ti24 rfl (.cp _) (Nat.le_of_ble_eq_true rfl)) ?_)
                                                                    first | (refine dvg rfl rfl rfl (opv_mv rfl) ?_) | (refine dvg rfl rfl rfl (opv_mvt rfl) ?_)
                                                                    refine ddg rfl rfl rfl (opD_call fn29 (opnds_cons rfl (opnds_cons rfl opnds_nil)) rfl (has_c)) ?_
                                                                    first | (refine dvg rfl rfl rfl (opv_loadN ti24 rfl (.lp _ _ _ rfl) (Nat.le_of_ble_eq_true rfl)) ?_) | (refine dvg rfl rfl rfl (opv_loadN ti24 rfl (.cp _) (Nat.le_of_ble_eq_true rfl)) ?_)
                                                                    first | (refine dvg rfl rfl rfl (opv_mv rfl) ?_) | (refine dvg rfl rfl rfl (opv_mvt rfl) ?_)
                                                                    refine ddg rfl rfl rfl (opD_call fn29 (opnds_cons rfl (opnds_cons rfl opnds_nil)) rfl (has_c)) ?_
                                                                    refine dvg rfl rfl rfl (opv_beql Try.underlying4 rfl rfl) ?_
                                                                    first | (refine dvg rfl rfl rfl (opv_pick_t rfl rfl) ?_) | (refine dvg rfl rfl rfl (opv_pick_f rfl rfl) ?_)
                                                                    first | (refine dv rfl (opv_pick_t rfl rfl) ?_) | (refine dv rfl (opv_pick_f rfl rfl) ?_)
                                                                    first | (refine dv rfl (opv_mv rfl) ?_) | (refine dv rfl (opv_mvt rfl) ?_)
                                                                    refine dsplit 113 rfl (fun hg37 => ?_) (fun hg37 => ?_)
                                                                    · first
                                                                      | (exfalso; first | omega | contradiction | (simp_all; done))
                                                                      | (
                                                                          first | (refine dvg rfl rfl rfl (opv_loadN ti24 rfl (.lp _ _ _ rfl) (Nat.le_of_ble_eq_true rfl)) ?_) | (refine dvg rfl rfl rfl (opv_loadN ti24 rfl (.cp _) (Nat.le_of_ble_eq_true rfl)) ?_)
                                                                          refine ddg rfl rfl rfl (opD_call fn31 (opnds_cons rfl opnds_nil) rfl (empty_c)) ?_
                                                                          refine dvg rfl rfl rfl (opv_not rfl) ?_
                                                                          first | (refine dvg rfl rfl rfl (opv_mv rfl) ?_) | (refine dvg rfl rfl rfl (opv_mvt rfl) ?_)
                                                                          refine dsplit 117 rfl (fun hg38 => ?_) (fun hg38 => ?_)
                                                                          · replace hg38 := bnot_t hg38
                                                                            first
                                                                            | (exfalso; first | omega | contradiction | (simp_all; done))
                                                                            | (
                                                                                refine doff rfl rfl rfl rfl ?_
                                                                                refine doff rfl rfl rfl rfl ?_
                                                                                refine doff rfl rfl rfl rfl ?_
                                                                                refine doff rfl rfl rfl rfl ?_
                                                                                first | (refine dvg rfl rfl rfl (opv_pick_t rfl rfl) ?_) | (refine dvg rfl rfl rfl (opv_pick_f rfl rfl) ?_)
                                                                                first | (refine dv rfl (opv_pick_t rfl rfl) ?_) | (refine dv rfl (opv_pick_f rfl rfl) ?_)
                                                                                first | (refine dv rfl (opv_as rfl) ?_) | (refine dv rfl (opv_ast rfl) ?_)
                                                                                refine dnil ?_
                                                                                refine then_normal ?_
                                                                                refine cret ?_
                                                                                refine ⟨Or.inr rfl, _, _, _, (resVs_cons (ResV.tmp _ _ rfl) resVs_nil), (pubA_id rfl), ?_⟩
                                                                                first | rfl | (refine avb ?_; simp_all; done))
                                                                          · replace hg38 := bnot_f hg38
                                                                            first
                                                                            | (exfalso; first | omega | contradiction | (simp_all; done))
                                                                            | (
                                                                                first | (refine dvg rfl rfl rfl (opv_loadN ti24 rfl (.lp _ _ _ rfl) (Nat.le_of_ble_eq_true rfl)) ?_) | (refine dvg rfl rfl rfl (opv_loadN ti24 rfl (.cp _) (Nat.le_of_ble_eq_true rfl)) ?_)
                                                                                first | (refine dvg rfl rfl rfl (opv_mv rfl) ?_) | (refine dvg rfl rfl rfl (opv_mvt rfl) ?_)
                                                                                refine ddg rfl rfl rfl (opD_call fn29 (opnds_cons rfl (opnds_cons rfl opnds_nil)) rfl (has_c)) ?_
                                                                                refine dvg rfl rfl rfl (opv_not rfl) ?_
                                                                                first | (refine dvg rfl rfl rfl (opv_pick_t rfl rfl) ?_) | (refine dvg rfl rfl rfl (opv_pick_f rfl rfl) ?_)
                                                                                first | (refine dv rfl (opv_pick_t rfl rfl) ?_) | (refine dv rfl (opv_pick_f rfl rfl) ?_)
                                                                                first | (refine dv rfl (opv_as rfl) ?_) | (refine dv rfl (opv_ast rfl) ?_)
                                                                                refine dnil ?_
                                                                                refine then_normal ?_
                                                                                refine cret ?_
                                                                                refine ⟨Or.inr rfl, _, _, _, (resVs_cons (ResV.tmp _ _ rfl) resVs_nil), (pubA_id rfl), ?_⟩
                                                                                first | rfl | (refine avb ?_; simp_all; done)))
                                                                    · first
                                                                      | (exfalso; first | omega | contradiction | (simp_all; done))
                                                                      | (
                                                                          refine doff rfl rfl rfl rfl ?_
                                                                          refine doff rfl rfl rfl rfl ?_
                                                                          refine doff rfl rfl rfl rfl ?_
                                                                          refine doff rfl rfl rfl rfl ?_
                                                                          refine doffu rfl rfl rfl ?_
                                                                          refine doffu rfl rfl rfl ?_
                                                                          refine doffu rfl rfl rfl ?_
                                                                          refine doffu rfl rfl rfl ?_
                                                                          refine doff rfl rfl rfl rfl ?_
                                                                          first | (refine dv rfl (opv_pick_t rfl rfl) ?_) | (refine dv rfl (opv_pick_f rfl rfl) ?_)
                                                                          first | (refine dv rfl (opv_as rfl) ?_) | (refine dv rfl (opv_ast rfl) ?_)
                                                                          refine dnil ?_
                                                                          refine then_normal ?_
                                                                          refine cret ?_
                                                                          refine ⟨Or.inr rfl, _, _, _, (resVs_cons (ResV.tmp _ _ rfl) resVs_nil), (pubA_id rfl), ?_⟩
                                                                          first | rfl | (refine avb ?_; simp_all; done))))
                                                        · first
                                                          | (exfalso; first | omega | contradiction | (simp_all; done))
                                                          | (
                                                              refine doff rfl rfl rfl rfl ?_
                                                              refine doff rfl rfl rfl rfl ?_
                                                              refine doff rfl rfl rfl rfl ?_
                                                              refine doffu rfl rfl rfl ?_
                                                              refine doffu rfl rfl rfl ?_
                                                              refine doffu rfl rfl rfl ?_
                                                              refine doffu rfl rfl rfl ?_
                                                              refine doffu rfl rfl rfl ?_
                                                              refine doffu rfl rfl rfl ?_
                                                              refine doffu rfl rfl rfl ?_
                                                              refine doff rfl rfl rfl rfl ?_
                                                              first | (refine dv rfl (opv_pick_t rfl rfl) ?_) | (refine dv rfl (opv_pick_f rfl rfl) ?_)
                                                              first | (refine dv rfl (opv_mv rfl) ?_) | (refine dv rfl (opv_mvt rfl) ?_)
                                                              refine doff rfl rfl rfl rfl ?_
                                                              refine doff rfl rfl rfl rfl ?_
                                                              refine doff rfl rfl rfl rfl ?_
                                                              refine doff rfl rfl rfl rfl ?_
                                                              refine doffu rfl rfl rfl ?_
                                                              refine doffu rfl rfl rfl ?_
                                                              refine doffu rfl rfl rfl ?_
                                                              refine doffu rfl rfl rfl ?_
                                                              refine doff rfl rfl rfl rfl ?_
                                                              first | (refine dv rfl (opv_pick_t rfl rfl) ?_) | (refine dv rfl (opv_pick_f rfl rfl) ?_)
                                                              first | (refine dv rfl (opv_as rfl) ?_) | (refine dv rfl (opv_ast rfl) ?_)
                                                              refine dnil ?_
                                                              refine then_normal ?_
                                                              refine cret ?_
                                                              refine ⟨Or.inr rfl, _, _, _, (resVs_cons (ResV.tmp _ _ rfl) resVs_nil), (pubA_id rfl), ?_⟩
                                                              first | rfl | (refine avb ?_; simp_all; done)))
                                                  · first
                                                    | (exfalso; first | omega | contradiction | (simp_all; done))
                                                    | (
                                                        refine doff rfl rfl rfl rfl ?_
                                                        refine doff rfl rfl rfl rfl ?_
                                                        refine doff rfl rfl rfl rfl ?_
                                                        refine doff rfl rfl rfl rfl ?_
                                                        refine doff rfl rfl rfl rfl ?_
                                                        first | (refine dv rfl (opv_pick_t rfl rfl) ?_) | (refine dv rfl (opv_pick_f rfl rfl) ?_)
                                                        first | (refine dv rfl (opv_mv rfl) ?_) | (refine dv rfl (opv_mvt rfl) ?_)
                                                        refine doff rfl rfl rfl rfl ?_
                                                        refine doff rfl rfl rfl rfl ?_
                                                        refine doff rfl rfl rfl rfl ?_
                                                        refine doffu rfl rfl rfl ?_
                                                        refine doffu rfl rfl rfl ?_
                                                        refine doffu rfl rfl rfl ?_
                                                        refine doffu rfl rfl rfl ?_
                                                        refine doffu rfl rfl rfl ?_
                                                        refine doffu rfl rfl rfl ?_
                                                        refine doffu rfl rfl rfl ?_
                                                        refine doff rfl rfl rfl rfl ?_
                                                        first | (refine dv rfl (opv_pick_t rfl rfl) ?_) | (refine dv rfl (opv_pick_f rfl rfl) ?_)
                                                        first | (refine dv rfl (opv_mv rfl) ?_) | (refine dv rfl (opv_mvt rfl) ?_)
                                                        refine doff rfl rfl rfl rfl ?_
                                                        refine doff rfl rfl rfl rfl ?_
                                                        refine doff rfl rfl rfl rfl ?_
                                                        refine doff rfl rfl rfl rfl ?_
                                                        refine doffu rfl rfl rfl ?_
                                                        refine doffu rfl rfl rfl ?_
                                                        refine doffu rfl rfl rfl ?_
                                                        refine doffu rfl rfl rfl ?_
                                                        refine doff rfl rfl rfl rfl ?_
                                                        first | (refine dv rfl (opv_pick_t rfl rfl) ?_) | (refine dv rfl (opv_pick_f rfl rfl) ?_)
                                                        first | (refine dv rfl (opv_as rfl) ?_) | (refine dv rfl (opv_ast rfl) ?_)
                                                        refine dnil ?_
                                                        refine then_normal ?_
                                                        refine cret ?_
                                                        refine ⟨Or.inr rfl, _, _, _, (resVs_cons (ResV.tmp _ _ rfl) resVs_nil), (pubA_id rfl), ?_⟩
                                                        first | rfl | (refine avb ?_; simp_all; done))))))
                          · first
                            | (exfalso; first | omega | contradiction | (simp_all; done))
                            | (
                                refine soff rfl rfl rfl rfl ?_
                                refine soff rfl rfl rfl rfl ?_
                                refine soff rfl rfl rfl rfl ?_
                                first | (refine sv rfl (opv_pick_t rfl rfl) ?_) | (refine sv rfl (opv_pick_f rfl rfl) ?_)
                                first | (refine sv rfl (opv_as rfl) ?_) | (refine sv rfl (opv_ast rfl) ?_)
                                refine snil ?_
                                refine cseq ?_
                                refine cseq ?_
                                refine cregion ?_
                                first | (refine sv rfl (opv_mv rfl) ?_) | (refine sv rfl (opv_mvt rfl) ?_)
                                first | (refine sv rfl (opv_mv rfl) ?_) | (refine sv rfl (opv_mvt rfl) ?_)
                                refine sv rfl (opv_bneq Try.underlying4 rfl rfl) ?_
                                first | (refine sv rfl (opv_mv rfl) ?_) | (refine sv rfl (opv_mvt rfl) ?_)
                                refine ssplit 64 rfl (fun hg39 => ?_) (fun hg39 => ?_)
                                · replace hg39 := bnot_t hg39
                                  first
                                  | (exfalso; first | omega | contradiction | (simp_all; done))
                                  | (
                                      refine soff rfl rfl rfl rfl ?_
                                      refine soff rfl rfl rfl rfl ?_
                                      refine soffu rfl rfl rfl ?_
                                      refine soffu rfl rfl rfl ?_
                                      refine soffu rfl rfl rfl ?_
                                      refine soffu rfl rfl rfl ?_
                                      refine soffu rfl rfl rfl ?_
                                      refine soffu rfl rfl rfl ?_
                                      refine soffu rfl rfl rfl ?_
                                      refine soffu rfl rfl rfl ?_
                                      refine soffu rfl rfl rfl ?_
                                      refine soffu rfl rfl rfl ?_
                                      refine soffu rfl rfl rfl ?_
                                      refine soffu rfl rfl rfl ?_
                                      refine soffu rfl rfl rfl ?_
                                      refine soffu rfl rfl rfl ?_
                                      refine soffu rfl rfl rfl ?_
                                      refine soffu rfl rfl rfl ?_
                                      refine soff rfl rfl rfl rfl ?_
                                      first | (refine sv rfl (opv_pick_t rfl rfl) ?_) | (refine sv rfl (opv_pick_f rfl rfl) ?_)
                                      first | (refine sv rfl (opv_mv rfl) ?_) | (refine sv rfl (opv_mvt rfl) ?_)
                                      refine soff rfl rfl rfl rfl ?_
                                      refine soff rfl rfl rfl rfl ?_
                                      refine soff rfl rfl rfl rfl ?_
                                      refine soffu rfl rfl rfl ?_
                                      refine soff rfl rfl rfl rfl ?_
                                      first | (refine sv rfl (opv_pick_t rfl rfl) ?_) | (refine sv rfl (opv_pick_f rfl rfl) ?_)
                                      refine snil ?_
                                      refine ccond rfl (fun _ => ?_) (fun hx => Bool.noConfusion hx)
                                      refine cseq ?_
                                      refine cregion ?_
                                      first | (refine sv rfl (opv_as rfl) ?_) | (refine sv rfl (opv_ast rfl) ?_)
                                      refine snil ?_
                                      refine cret ?_
                                      refine then_ret ?_
                                      refine ⟨Or.inr rfl, _, _, _, (resVs_cons (ResV.tmp _ _ rfl) resVs_nil), (pubA_id rfl), ?_⟩
                                      first | rfl | (refine avb ?_; simp_all; done))
                                · replace hg39 := bnot_f hg39
                                  first
                                  | (exfalso; first | omega | contradiction | (simp_all; done))
                                  | (
                                      refine son rfl rfl rfl ?_
                                      first | (refine sv rfl (opv_mv rfl) ?_) | (refine sv rfl (opv_mvt rfl) ?_)
                                      refine son rfl rfl rfl ?_
                                      first | (refine sv rfl (opv_mv rfl) ?_) | (refine sv rfl (opv_mvt rfl) ?_)
                                      refine ssplit 66 rfl (fun hg40 => ?_) (fun hg40 => ?_)
                                      · first
                                        | (exfalso; first | omega | contradiction | (simp_all; done))
                                        | (
                                            refine son rfl rfl rfl ?_
                                            first | (refine sv rfl (opv_loadN ti24 rfl (.lp _ _ _ rfl) (Nat.le_of_ble_eq_true rfl)) ?_) | (refine sv rfl (opv_loadN ti24 rfl (.cp _) (Nat.le_of_ble_eq_true rfl)) ?_)
                                            refine son rfl rfl rfl ?_
                                            first | (refine sv rfl (opv_mv rfl) ?_) | (refine sv rfl (opv_mvt rfl) ?_)
                                            refine son rfl rfl rfl ?_
                                            refine scall1 rfl fn29 (opnds_cons rfl (opnds_cons rfl opnds_nil)) (pubC rfl) (has_c) ?_
                                            refine son rfl rfl rfl ?_
                                            first | (refine sv rfl (opv_mv rfl) ?_) | (refine sv rfl (opv_mvt rfl) ?_)
                                            refine son rfl rfl rfl ?_
                                            refine sv rfl (opv_bneq Try.underlying4 rfl rfl) ?_
                                            refine son rfl rfl rfl ?_
                                            first | (refine sv rfl (opv_mv rfl) ?_) | (refine sv rfl (opv_mvt rfl) ?_)
                                            refine ssplit 72 rfl (fun hg41 => ?_) (fun hg41 => ?_)
                                            · replace hg41 := bnot_t hg41
                                              first
                                              | (exfalso; first | omega | contradiction | (simp_all; done))
                                              | (
                                                  refine soff rfl rfl rfl rfl ?_
                                                  refine soff rfl rfl rfl rfl ?_
                                                  refine soff rfl rfl rfl rfl ?_
                                                  refine soff rfl rfl rfl rfl ?_
                                                  refine soff rfl rfl rfl rfl ?_
                                                  refine son rfl rfl rfl ?_
                                                  first | (refine sv rfl (opv_pick_t rfl rfl) ?_) | (refine sv rfl (opv_pick_f rfl rfl) ?_)
                                                  refine son rfl rfl rfl ?_
                                                  first | (refine sv rfl (opv_mv rfl) ?_) | (refine sv rfl (opv_mvt rfl) ?_)
                                                  refine soff rfl rfl rfl rfl ?_
                                                  refine soff rfl rfl rfl rfl ?_
                                                  refine son rfl rfl rfl ?_
                                                  first | (refine sv rfl (opv_pick_t rfl rfl) ?_) | (refine sv rfl (opv_pick_f rfl rfl) ?_)
                                                  refine son rfl rfl rfl ?_
                                                  first | (refine sv rfl (opv_pick_t rfl rfl) ?_) | (refine sv rfl (opv_pick_f rfl rfl) ?_)
                                                  first | (refine sv rfl (opv_pick_t rfl rfl) ?_) | (refine sv rfl (opv_pick_f rfl rfl) ?_)
                                                  first | (refine sv rfl (opv_mv rfl) ?_) | (refine sv rfl (opv_mvt rfl) ?_)
                                                  refine soff rfl rfl rfl rfl ?_
                                                  refine soff rfl rfl rfl rfl ?_
                                                  refine soff rfl rfl rfl rfl ?_
                                                  refine soffu rfl rfl rfl ?_
                                                  refine soff rfl rfl rfl rfl ?_
                                                  first | (refine sv rfl (opv_pick_t rfl rfl) ?_) | (refine sv rfl (opv_pick_f rfl rfl) ?_)
                                                  refine snil ?_
                                                  refine ccond rfl (fun _ => ?_) (fun hx => Bool.noConfusion hx)
                                                  refine cseq ?_
                                                  refine cregion ?_
                                                  first | (refine sv rfl (opv_as rfl) ?_) | (refine sv rfl (opv_ast rfl) ?_)
                                                  refine snil ?_
                                                  refine cret ?_
                                                  refine then_ret ?_
                                                  refine ⟨Or.inr rfl, _, _, _, (resVs_cons (ResV.tmp _ _ rfl) resVs_nil), (pubA_id rfl), ?_⟩
                                                  first | rfl | (refine avb ?_; simp_all; done))
                                            · replace hg41 := bnot_f hg41
                                              first
                                              | (exfalso; first | omega | contradiction | (simp_all; done))
                                              | (
                                                  refine son rfl rfl rfl ?_
                                                  first | (refine sv rfl (opv_loadN ti24 rfl (.lp _ _ _ rfl) (Nat.le_of_ble_eq_true rfl)) ?_) | (refine sv rfl (opv_loadN ti24 rfl (.cp _) (Nat.le_of_ble_eq_true rfl)) ?_)
                                                  refine son rfl rfl rfl ?_
                                                  first | (refine sv rfl (opv_mv rfl) ?_) | (refine sv rfl (opv_mvt rfl) ?_)
                                                  refine son rfl rfl rfl ?_
                                                  refine scall1 rfl fn29 (opnds_cons rfl (opnds_cons rfl opnds_nil)) (pubC rfl) (has_c) ?_
                                                  refine son rfl rfl rfl ?_
                                                  first | (refine sv rfl (opv_mv rfl) ?_) | (refine sv rfl (opv_mvt rfl) ?_)
                                                  refine son rfl rfl rfl ?_
                                                  refine sv rfl (opv_bneq Try.underlying4 rfl rfl) ?_
                                                  refine son rfl rfl rfl ?_
                                                  first | (refine sv rfl (opv_pick_t rfl rfl) ?_) | (refine sv rfl (opv_pick_f rfl rfl) ?_)
                                                  refine son rfl rfl rfl ?_
                                                  first | (refine sv rfl (opv_mv rfl) ?_) | (refine sv rfl (opv_mvt rfl) ?_)
                                                  refine ssplit 79 rfl (fun hg42 => ?_) (fun hg42 => ?_)
                                                  · replace hg42 := bnot_t hg42
                                                    first
                                                    | (exfalso; first | omega | contradiction | (simp_all; done))
                                                    | (
                                                        refine soff rfl rfl rfl rfl ?_
                                                        refine soff rfl rfl rfl rfl ?_
                                                        refine son rfl rfl rfl ?_
                                                        first | (refine sv rfl (opv_pick_t rfl rfl) ?_) | (refine sv rfl (opv_pick_f rfl rfl) ?_)
                                                        refine son rfl rfl rfl ?_
                                                        first | (refine sv rfl (opv_pick_t rfl rfl) ?_) | (refine sv rfl (opv_pick_f rfl rfl) ?_)
                                                        first | (refine sv rfl (opv_pick_t rfl rfl) ?_) | (refine sv rfl (opv_pick_f rfl rfl) ?_)
                                                        first | (refine sv rfl (opv_mv rfl) ?_) | (refine sv rfl (opv_mvt rfl) ?_)
                                                        refine soff rfl rfl rfl rfl ?_
                                                        refine soff rfl rfl rfl rfl ?_
                                                        refine soff rfl rfl rfl rfl ?_
                                                        refine soffu rfl rfl rfl ?_
                                                        refine soff rfl rfl rfl rfl ?_
                                                        first | (refine sv rfl (opv_pick_t rfl rfl) ?_) | (refine sv rfl (opv_pick_f rfl rfl) ?_)
                                                        refine snil ?_
                                                        refine ccond rfl (fun _ => ?_) (fun hx => Bool.noConfusion hx)
                                                        refine cseq ?_
                                                        refine cregion ?_
                                                        first | (refine sv rfl (opv_as rfl) ?_) | (refine sv rfl (opv_ast rfl) ?_)
                                                        refine snil ?_
                                                        refine cret ?_
                                                        refine then_ret ?_
                                                        refine ⟨Or.inr rfl, _, _, _, (resVs_cons (ResV.tmp _ _ rfl) resVs_nil), (pubA_id rfl), ?_⟩
                                                        first | rfl | (refine avb ?_; simp_all; done))
                                                  · replace hg42 := bnot_f hg42
                                                    first
                                                    | (exfalso; first | omega | contradiction | (simp_all; done))
                                                    | (
                                                        refine son rfl rfl rfl ?_
                                                        first | (refine sv rfl (opv_loadN ti24 rfl (.lp _ _ _ rfl) (Nat.le_of_ble_eq_true rfl)) ?_) | (refine sv rfl (opv_loadN ti24 rfl (.cp _) (Nat.le_of_ble_eq_true rfl)) ?_)
                                                        refine son rfl rfl rfl ?_
                                                        refine scall1 rfl fn31 (opnds_cons rfl opnds_nil) (pubC rfl) (empty_c) ?_
                                                        refine son rfl rfl rfl ?_
                                                        first | (refine sv rfl (opv_pick_t rfl rfl) ?_) | (refine sv rfl (opv_pick_f rfl rfl) ?_)
                                                        refine son rfl rfl rfl ?_
                                                        first | (refine sv rfl (opv_pick_t rfl rfl) ?_) | (refine sv rfl (opv_pick_f rfl rfl) ?_)
                                                        first | (refine sv rfl (opv_pick_t rfl rfl) ?_) | (refine sv rfl (opv_pick_f rfl rfl) ?_)
                                                        first | (refine sv rfl (opv_mv rfl) ?_) | (refine sv rfl (opv_mvt rfl) ?_)
                                                        refine ssplit 85 rfl (fun hg43 => ?_) (fun hg43 => ?_)
                                                        · first
                                                          | (exfalso; first | omega | contradiction | (simp_all; done))
                                                          | (
                                                              refine soff rfl rfl rfl rfl ?_
                                                              refine soff rfl rfl rfl rfl ?_
                                                              refine soff rfl rfl rfl rfl ?_
                                                              refine soffu rfl rfl rfl ?_
                                                              refine soff rfl rfl rfl rfl ?_
                                                              first | (refine sv rfl (opv_pick_t rfl rfl) ?_) | (refine sv rfl (opv_pick_f rfl rfl) ?_)
                                                              refine snil ?_
                                                              refine ccond rfl (fun _ => ?_) (fun hx => Bool.noConfusion hx)
                                                              refine cseq ?_
                                                              refine cregion ?_
                                                              first | (refine sv rfl (opv_as rfl) ?_) | (refine sv rfl (opv_ast rfl) ?_)
                                                              refine snil ?_
                                                              refine cret ?_
                                                              refine then_ret ?_
                                                              refine ⟨Or.inr rfl, _, _, _, (resVs_cons (ResV.tmp _ _ rfl) resVs_nil), (pubA_id rfl), ?_⟩
                                                              first | rfl | (refine avb ?_; simp_all; done))
                                                        · first
                                                          | (exfalso; first | omega | contradiction | (simp_all; done))
                                                          | (
                                                              refine son rfl rfl rfl ?_
                                                              first | (refine sv rfl (opv_mv rfl) ?_) | (refine sv rfl (opv_mvt rfl) ?_)
                                                              refine son rfl rfl rfl ?_
                                                              refine sv rfl (opv_not rfl) ?_
                                                              refine son rfl rfl rfl ?_
                                                              first | (refine sv rfl (opv_mv rfl) ?_) | (refine sv rfl (opv_mvt rfl) ?_)
                                                              refine ssplit 88 rfl (fun hg44 => ?_) (fun hg44 => ?_)
                                                              · replace hg44 := bnot_t hg44
                                                                first
                                                                | (exfalso; first | omega | contradiction | (simp_all; done))
                                                                | (
                                                                    refine son rfl rfl rfl ?_
                                                                    first | (refine sv rfl (opv_mv rfl) ?_) | (refine sv rfl (opv_mvt rfl) ?_)
                                                                    refine son rfl rfl rfl ?_
                                                                    first | (refine sv rfl (opv_pick_t rfl rfl) ?_) | (refine sv rfl (opv_pick_f rfl rfl) ?_)
                                                                    first | (refine sv rfl (opv_pick_t rfl rfl) ?_) | (refine sv rfl (opv_pick_f rfl rfl) ?_)
                                                                    refine snil ?_
                                                                    refine ccond rfl (fun hx => Bool.noConfusion hx) (fun _ => ?_)
                                                                    refine cskip ?_
                                                                    refine then_normal ?_
                                                                    refine cseq ?_
                                                                    refine cdraw mixed (by kernel_rfl) ?_
                                                                    first | (refine dv rfl (opv_mv rfl) ?_) | (refine dv rfl (opv_mvt rfl) ?_)
                                                                    first | (refine dv rfl (opv_mv rfl) ?_) | (refine dv rfl (opv_mvt rfl) ?_)
                                                                    refine dsplit 93 rfl (fun hg45 => ?_) (fun hg45 => ?_)
                                                                    · first
                                                                      | (exfalso; first | omega | contradiction | (simp_all; done))
                                                                      | (
                                                                          first | (refine dvg rfl rfl rfl (opv_mv rfl) ?_) | (refine dvg rfl rfl rfl (opv_mvt rfl) ?_)
                                                                          first | (refine dvg rfl rfl rfl (opv_loadN ti24 rfl (.lp _ _ _ rfl) (Nat.le_of_ble_eq_true rfl)) ?_) | (refine dvg rfl rfl rfl (opv_loadN ti24 rfl (.cp _) (Nat.le_of_ble_eq_true rfl)) ?_)
                                                                          refine ddg rfl rfl rfl (opD_call fn31 (opnds_cons rfl opnds_nil) rfl (empty_c)) ?_
                                                                          refine dvg rfl rfl rfl (opv_not rfl) ?_
                                                                          refine dvg rfl rfl rfl (opv_beql Try.underlying4 rfl rfl) ?_
                                                                          first | (refine dv rfl (opv_pick_t rfl rfl) ?_) | (refine dv rfl (opv_pick_f rfl rfl) ?_)
                                                                          first | (refine dv rfl (opv_mv rfl) ?_) | (refine dv rfl (opv_mvt rfl) ?_)
                                                                          refine dsplit 100 rfl (fun hg46 => ?_) (fun hg46 => ?_)
                                                                          · first
                                                                            | (exfalso; first | omega | contradiction | (simp_all; done))
                                                                            | (
                                                                                first | (refine dvg rfl rfl rfl (opv_mv rfl) ?_) | (refine dvg rfl rfl rfl (opv_mvt rfl) ?_)
                                                                                refine dvg rfl rfl rfl (opv_not rfl) ?_
                                                                                first | (refine dvg rfl rfl rfl (opv_mv rfl) ?_) | (refine dvg rfl rfl rfl (opv_mvt rfl) ?_)
                                                                                refine dsplit 103 rfl (fun hg47 => ?_) (fun hg47 => ?_)
                                                                                · replace hg47 := bnot_t hg47
                                                                                  first
                                                                                  | (exfalso; first | omega | contradiction | (simp_all; done))
                                                                                  | (
                                                                                      refine doff rfl rfl rfl rfl ?_
                                                                                      refine doff rfl rfl rfl rfl ?_
                                                                                      refine doff rfl rfl rfl rfl ?_
                                                                                      refine doff rfl rfl rfl rfl ?_
                                                                                      refine doff rfl rfl rfl rfl ?_
                                                                                      refine doff rfl rfl rfl rfl ?_
                                                                                      refine doff rfl rfl rfl rfl ?_
                                                                                      first | (refine dvg rfl rfl rfl (opv_pick_t rfl rfl) ?_) | (refine dvg rfl rfl rfl (opv_pick_f rfl rfl) ?_)
                                                                                      first | (refine dv rfl (opv_pick_t rfl rfl) ?_) | (refine dv rfl (opv_pick_f rfl rfl) ?_)
                                                                                      first | (refine dv rfl (opv_mv rfl) ?_) | (refine dv rfl (opv_mvt rfl) ?_)
                                                                                      first | (refine dvg rfl rfl rfl (opv_loadN ti24 rfl (.lp _ _ _ rfl) (Nat.le_of_ble_eq_true rfl)) ?_) | (refine dvg rfl rfl rfl (opv_loadN ti24 rfl (.cp _) (Nat.le_of_ble_eq_true rfl)) ?_)
                                                                                      refine ddg rfl rfl rfl (opD_call fn31 (opnds_cons rfl opnds_nil) rfl (empty_c)) ?_
                                                                                      refine dvg rfl rfl rfl (opv_not rfl) ?_
                                                                                      first | (refine dvg rfl rfl rfl (opv_mv rfl) ?_) | (refine dvg rfl rfl rfl (opv_mvt rfl) ?_)
                                                                                      refine dsplit 117 rfl (fun hg48 => ?_) (fun hg48 => ?_)
                                                                                      · replace hg48 := bnot_t hg48
                                                                                        first
                                                                                        | (exfalso; first | omega | contradiction | (simp_all; done))
                                                                                        | (
                                                                                            refine doff rfl rfl rfl rfl ?_
                                                                                            refine doff rfl rfl rfl rfl ?_
                                                                                            refine doff rfl rfl rfl rfl ?_
                                                                                            refine doff rfl rfl rfl rfl ?_
                                                                                            first | (refine dvg rfl rfl rfl (opv_pick_t rfl rfl) ?_) | (refine dvg rfl rfl rfl (opv_pick_f rfl rfl) ?_)
                                                                                            first | (refine dv rfl (opv_pick_t rfl rfl) ?_) | (refine dv rfl (opv_pick_f rfl rfl) ?_)
                                                                                            first | (refine dv rfl (opv_as rfl) ?_) | (refine dv rfl (opv_ast rfl) ?_)
                                                                                            refine dnil ?_
                                                                                            refine then_normal ?_
                                                                                            refine cret ?_
                                                                                            refine ⟨Or.inr rfl, _, _, _, (resVs_cons (ResV.tmp _ _ rfl) resVs_nil), (pubA_id rfl), ?_⟩
                                                                                            first | rfl | (refine avb ?_; simp_all; done))
                                                                                      · replace hg48 := bnot_f hg48
                                                                                        first
                                                                                        | (exfalso; first | omega | contradiction | (simp_all; done))
                                                                                        | (
                                                                                            first | (refine dvg rfl rfl rfl (opv_loadN ti24 rfl (.lp _ _ _ rfl) (Nat.le_of_ble_eq_true rfl)) ?_) | (refine dvg rfl rfl rfl (opv_loadN ti24 rfl (.cp _) (Nat.le_of_ble_eq_true rfl)) ?_)
                                                                                            first | (refine dvg rfl rfl rfl (opv_mv rfl) ?_) | (refine dvg rfl rfl rfl (opv_mvt rfl) ?_)
                                                                                            refine ddg rfl rfl rfl (opD_call fn29 (opnds_cons rfl (opnds_cons rfl opnds_nil)) rfl (has_c)) ?_
                                                                                            refine dvg rfl rfl rfl (opv_not rfl) ?_
                                                                                            first | (refine dvg rfl rfl rfl (opv_pick_t rfl rfl) ?_) | (refine dvg rfl rfl rfl (opv_pick_f rfl rfl) ?_)
                                                                                            first | (refine dv rfl (opv_pick_t rfl rfl) ?_) | (refine dv rfl (opv_pick_f rfl rfl) ?_)
                                                                                            first | (refine dv rfl (opv_as rfl) ?_) | (refine dv rfl (opv_ast rfl) ?_)
                                                                                            refine dnil ?_
                                                                                            refine then_normal ?_
                                                                                            refine cret ?_
                                                                                            refine ⟨Or.inr rfl, _, _, _, (resVs_cons (ResV.tmp _ _ rfl) resVs_nil), (pubA_id rfl), ?_⟩
                                                                                            first | rfl | (refine avb ?_; simp_all; done)))
                                                                                · replace hg47 := bnot_f hg47
                                                                                  first
                                                                                  | (exfalso; first | omega | contradiction | (simp_all; done))
                                                                                  | (
                                                                                      first | (refine dvg rfl rfl rfl (opv_loadN ti24 rfl (.lp _ _ _ rfl) (Nat.le_of_ble_eq_true rfl)) ?_) | (refine dvg rfl rfl rfl (opv_loadN ti24 rfl (.cp _) (Nat.le_of_ble_eq_true rfl)) ?_)
                                                                                      first | (refine dvg rfl rfl rfl (opv_mv rfl) ?_) | (refine dvg rfl rfl rfl (opv_mvt rfl) ?_)
                                                                                      refine ddg rfl rfl rfl (opD_call fn29 (opnds_cons rfl (opnds_cons rfl opnds_nil)) rfl (has_c)) ?_
                                                                                      first | (refine dvg rfl rfl rfl (opv_loadN ti24 rfl (.lp _ _ _ rfl) (Nat.le_of_ble_eq_true rfl)) ?_) | (refine dvg rfl rfl rfl (opv_loadN ti24 rfl (.cp _) (Nat.le_of_ble_eq_true rfl)) ?_)
                                                                                      first | (refine dvg rfl rfl rfl (opv_mv rfl) ?_) | (refine dvg rfl rfl rfl (opv_mvt rfl) ?_)
                                                                                      refine ddg rfl rfl rfl (opD_call fn29 (opnds_cons rfl (opnds_cons rfl opnds_nil)) rfl (has_c)) ?_
                                                                                      refine dvg rfl rfl rfl (opv_beql Try.underlying4 rfl rfl) ?_
                                                                                      first | (refine dvg rfl rfl rfl (opv_pick_t rfl rfl) ?_) | (refine dvg rfl rfl rfl (opv_pick_f rfl rfl) ?_)
                                                                                      first | (refine dv rfl (opv_pick_t rfl rfl) ?_) | (refine dv rfl (opv_pick_f rfl rfl) ?_)
                                                                                      first | (refine dv rfl (opv_mv rfl) ?_) | (refine dv rfl (opv_mvt rfl) ?_)
                                                                                      refine dsplit 113 rfl (fun hg49 => ?_) (fun hg49 => ?_)
                                                                                      · first
                                                                                        | (exfalso; first | omega | contradiction | (simp_all; done))
                                                                                        | (
                                                                                            first | (refine dvg rfl rfl rfl (opv_loadN ti24 rfl (.lp _ _ _ rfl) (Nat.le_of_ble_eq_true rfl)) ?_) | (refine dvg rfl rfl rfl (opv_loadN ti24 rfl (.cp _) (Nat.le_of_ble_eq_true rfl)) ?_)
                                                                                            refine ddg rfl rfl rfl (opD_call fn31 (opnds_cons rfl opnds_nil) rfl (empty_c)) ?_
                                                                                            refine dvg rfl rfl rfl (opv_not rfl) ?_
                                                                                            first | (refine dvg rfl rfl rfl (opv_mv rfl) ?_) | (refine dvg rfl rfl rfl (opv_mvt rfl) ?_)
                                                                                            refine dsplit 117 rfl (fun hg50 => ?_) (fun hg50 => ?_)
                                                                                            · replace hg50 := bnot_t hg50
                                                                                              first
                                                                                              | (exfalso; first | omega | contradiction | (simp_all; done))
                                                                                              | (
                                                                                                  refine doff rfl rfl rfl rfl ?_
                                                                                                  refine doff rfl rfl rfl rfl ?_
                                                                                                  refine doff rfl rfl rfl rfl ?_
                                                                                                  refine doff rfl rfl rfl rfl ?_
                                                                                                  first | (refine dvg rfl rfl rfl (opv_pick_t rfl rfl) ?_) | (refine dvg rfl rfl rfl (opv_pick_f rfl rfl) ?_)
                                                                                                  first | (refine dv rfl (opv_pick_t rfl rfl) ?_) | (refine dv rfl (opv_pick_f rfl rfl) ?_)
                                                                                                  first | (refine dv rfl (opv_as rfl) ?_) | (refine dv rfl (opv_ast rfl) ?_)
                                                                                                  refine dnil ?_
                                                                                                  refine then_normal ?_
                                                                                                  refine cret ?_
                                                                                                  refine ⟨Or.inr rfl, _, _, _, (resVs_cons (ResV.tmp _ _ rfl) resVs_nil), (pubA_id rfl), ?_⟩
                                                                                                  first | rfl | (refine avb ?_; simp_all; done))
                                                                                            · replace hg50 := bnot_f hg50
                                                                                              first
                                                                                              | (exfalso; first | omega | contradiction | (simp_all; done))
                                                                                              | (
                                                                                                  first | (refine dvg rfl rfl rfl (opv_loadN ti24 rfl (.lp _ _ _ rfl) (Nat.le_of_ble_eq_true rfl)) ?_) | (refine dvg rfl rfl rfl (opv_loadN ti24 rfl (.cp _) (Nat.le_of_ble_eq_true rfl)) ?_)
                                                                                                  first | (refine dvg rfl rfl rfl (opv_mv rfl) ?_) | (refine dvg rfl rfl rfl (opv_mvt rfl) ?_)
                                                                                                  refine ddg rfl rfl rfl (opD_call fn29 (opnds_cons rfl (opnds_cons rfl opnds_nil)) rfl (has_c)) ?_
                                                                                                  refine dvg rfl rfl rfl (opv_not rfl) ?_
                                                                                                  first | (refine dvg rfl rfl rfl (opv_pick_t rfl rfl) ?_) | (refine dvg rfl rfl rfl (opv_pick_f rfl rfl) ?_)
                                                                                                  first | (refine dv rfl (opv_pick_t rfl rfl) ?_) | (refine dv rfl (opv_pick_f rfl rfl) ?_)
                                                                                                  first | (refine dv rfl (opv_as rfl) ?_) | (refine dv rfl (opv_ast rfl) ?_)
                                                                                                  refine dnil ?_
                                                                                                  refine then_normal ?_
                                                                                                  refine cret ?_
                                                                                                  refine ⟨Or.inr rfl, _, _, _, (resVs_cons (ResV.tmp _ _ rfl) resVs_nil), (pubA_id rfl), ?_⟩
                                                                                                  first | rfl | (refine avb ?_; simp_all; done)))
                                                                                      · first
                                                                                        | (exfalso; first | omega | contradiction | (simp_all; done))
                                                                                        | (
                                                                                            refine doff rfl rfl rfl rfl ?_
                                                                                            refine doff rfl rfl rfl rfl ?_
                                                                                            refine doff rfl rfl rfl rfl ?_
                                                                                            refine doff rfl rfl rfl rfl ?_
                                                                                            refine doffu rfl rfl rfl ?_
                                                                                            refine doffu rfl rfl rfl ?_
                                                                                            refine doffu rfl rfl rfl ?_
                                                                                            refine doffu rfl rfl rfl ?_
                                                                                            refine doff rfl rfl rfl rfl ?_
                                                                                            first | (refine dv rfl (opv_pick_t rfl rfl) ?_) | (refine dv rfl (opv_pick_f rfl rfl) ?_)
                                                                                            first | (refine dv rfl (opv_as rfl) ?_) | (refine dv rfl (opv_ast rfl) ?_)
                                                                                            refine dnil ?_
                                                                                            refine then_normal ?_
                                                                                            refine cret ?_
                                                                                            refine ⟨Or.inr rfl, _, _, _, (resVs_cons (ResV.tmp _ _ rfl) resVs_nil), (pubA_id rfl), ?_⟩
                                                                                            first | rfl | (refine avb ?_; simp_all; done))))
                                                                          · first
                                                                            | (exfalso; first | omega | contradiction | (simp_all; done))
                                                                            | (
                                                                                refine doff rfl rfl rfl rfl ?_
                                                                                refine doff rfl rfl rfl rfl ?_
                                                                                refine doff rfl rfl rfl rfl ?_
                                                                                refine doffu rfl rfl rfl ?_
                                                                                refine doffu rfl rfl rfl ?_
                                                                                refine doffu rfl rfl rfl ?_
                                                                                refine doffu rfl rfl rfl ?_
                                                                                refine doffu rfl rfl rfl ?_
                                                                                refine doffu rfl rfl rfl ?_
                                                                                refine doffu rfl rfl rfl ?_
                                                                                refine doff rfl rfl rfl rfl ?_
                                                                                first | (refine dv rfl (opv_pick_t rfl rfl) ?_) | (refine dv rfl (opv_pick_f rfl rfl) ?_)
                                                                                first | (refine dv rfl (opv_mv rfl) ?_) | (refine dv rfl (opv_mvt rfl) ?_)
                                                                                refine doff rfl rfl rfl rfl ?_
                                                                                refine doff rfl rfl rfl rfl ?_
                                                                                refine doff rfl rfl rfl rfl ?_
                                                                                refine doff rfl rfl rfl rfl ?_
                                                                                refine doffu rfl rfl rfl ?_
                                                                                refine doffu rfl rfl rfl ?_
                                                                                refine doffu rfl rfl rfl ?_
                                                                                refine doffu rfl rfl rfl ?_
                                                                                refine doff rfl rfl rfl rfl ?_
                                                                                first | (refine dv rfl (opv_pick_t rfl rfl) ?_) | (refine dv rfl (opv_pick_f rfl rfl) ?_)
                                                                                first | (refine dv rfl (opv_as rfl) ?_) | (refine dv rfl (opv_ast rfl) ?_)
                                                                                refine dnil ?_
                                                                                refine then_normal ?_
                                                                                refine cret ?_
                                                                                refine ⟨Or.inr rfl, _, _, _, (resVs_cons (ResV.tmp _ _ rfl) resVs_nil), (pubA_id rfl), ?_⟩
                                                                                first | rfl | (refine avb ?_; simp_all; done)))
                                                                    · first
                                                                      | (exfalso; first | omega | contradiction | (simp_all; done))
                                                                      | (
                                                                          refine doff rfl rfl rfl rfl ?_
                                                                          refine doff rfl rfl rfl rfl ?_
                                                                          refine doff rfl rfl rfl rfl ?_
                                                                          refine doff rfl rfl rfl rfl ?_
                                                                          refine doff rfl rfl rfl rfl ?_
                                                                          first | (refine dv rfl (opv_pick_t rfl rfl) ?_) | (refine dv rfl (opv_pick_f rfl rfl) ?_)
                                                                          first | (refine dv rfl (opv_mv rfl) ?_) | (refine dv rfl (opv_mvt rfl) ?_)
                                                                          refine doff rfl rfl rfl rfl ?_
                                                                          refine doff rfl rfl rfl rfl ?_
                                                                          refine doff rfl rfl rfl rfl ?_
                                                                          refine doffu rfl rfl rfl ?_
                                                                          refine doffu rfl rfl rfl ?_
                                                                          refine doffu rfl rfl rfl ?_
                                                                          refine doffu rfl rfl rfl ?_
                                                                          refine doffu rfl rfl rfl ?_
                                                                          refine doffu rfl rfl rfl ?_
                                                                          refine doffu rfl rfl rfl ?_
                                                                          refine doff rfl rfl rfl rfl ?_
                                                                          first | (refine dv rfl (opv_pick_t rfl rfl) ?_) | (refine dv rfl (opv_pick_f rfl rfl) ?_)
                                                                          first | (refine dv rfl (opv_mv rfl) ?_) | (refine dv rfl (opv_mvt rfl) ?_)
                                                                          refine doff rfl rfl rfl rfl ?_
                                                                          refine doff rfl rfl rfl rfl ?_
                                                                          refine doff rfl rfl rfl rfl ?_
                                                                          refine doff rfl rfl rfl rfl ?_
                                                                          refine doffu rfl rfl rfl ?_
                                                                          refine doffu rfl rfl rfl ?_
                                                                          refine doffu rfl rfl rfl ?_
                                                                          refine doffu rfl rfl rfl ?_
                                                                          refine doff rfl rfl rfl rfl ?_
                                                                          first | (refine dv rfl (opv_pick_t rfl rfl) ?_) | (refine dv rfl (opv_pick_f rfl rfl) ?_)
                                                                          first | (refine dv rfl (opv_as rfl) ?_) | (refine dv rfl (opv_ast rfl) ?_)
                                                                          refine dnil ?_
                                                                          refine then_normal ?_
                                                                          refine cret ?_
                                                                          refine ⟨Or.inr rfl, _, _, _, (resVs_cons (ResV.tmp _ _ rfl) resVs_nil), (pubA_id rfl), ?_⟩
                                                                          first | rfl | (refine avb ?_; simp_all; done)))
                                                              · replace hg44 := bnot_f hg44
                                                                first
                                                                | (exfalso; first | omega | contradiction | (simp_all; done))
                                                                | (
                                                                    refine soff rfl rfl rfl rfl ?_
                                                                    refine son rfl rfl rfl ?_
                                                                    first | (refine sv rfl (opv_pick_t rfl rfl) ?_) | (refine sv rfl (opv_pick_f rfl rfl) ?_)
                                                                    first | (refine sv rfl (opv_pick_t rfl rfl) ?_) | (refine sv rfl (opv_pick_f rfl rfl) ?_)
                                                                    refine snil ?_
                                                                    refine ccond rfl (fun hx => Bool.noConfusion hx) (fun _ => ?_)
                                                                    refine cskip ?_
                                                                    refine then_normal ?_
                                                                    refine cseq ?_
                                                                    refine cdraw mixed (by kernel_rfl) ?_
                                                                    first | (refine dv rfl (opv_mv rfl) ?_) | (refine dv rfl (opv_mvt rfl) ?_)
                                                                    first | (refine dv rfl (opv_mv rfl) ?_) | (refine dv rfl (opv_mvt rfl) ?_)
                                                                    refine dsplit 93 rfl (fun hg51 => ?_) (fun hg51 => ?_)
                                                                    · first
                                                                      | (exfalso; first | omega | contradiction | (simp_all; done))
                                                                      | (
                                                                          first | (refine dvg rfl rfl rfl (opv_mv rfl) ?_) | (refine dvg rfl rfl rfl (opv_mvt rfl) ?_)
                                                                          first | (refine dvg rfl rfl rfl (opv_loadN ti24 rfl (.lp _ _ _ rfl) (Nat.le_of_ble_eq_true rfl)) ?_) | (refine dvg rfl rfl rfl (opv_loadN ti24 rfl (.cp _) (Nat.le_of_ble_eq_true rfl)) ?_)
                                                                          refine ddg rfl rfl rfl (opD_call fn31 (opnds_cons rfl opnds_nil) rfl (empty_c)) ?_
                                                                          refine dvg rfl rfl rfl (opv_not rfl) ?_
                                                                          refine dvg rfl rfl rfl (opv_beql Try.underlying4 rfl rfl) ?_
                                                                          first | (refine dv rfl (opv_pick_t rfl rfl) ?_) | (refine dv rfl (opv_pick_f rfl rfl) ?_)
                                                                          first | (refine dv rfl (opv_mv rfl) ?_) | (refine dv rfl (opv_mvt rfl) ?_)
                                                                          refine dsplit 100 rfl (fun hg52 => ?_) (fun hg52 => ?_)
                                                                          · first
                                                                            | (exfalso; first | omega | contradiction | (simp_all; done))
                                                                            | (
                                                                                first | (refine dvg rfl rfl rfl (opv_mv rfl) ?_) | (refine dvg rfl rfl rfl (opv_mvt rfl) ?_)
                                                                                refine dvg rfl rfl rfl (opv_not rfl) ?_
                                                                                first | (refine dvg rfl rfl rfl (opv_mv rfl) ?_) | (refine dvg rfl rfl rfl (opv_mvt rfl) ?_)
                                                                                refine dsplit 103 rfl (fun hg53 => ?_) (fun hg53 => ?_)
                                                                                · replace hg53 := bnot_t hg53
                                                                                  first
                                                                                  | (exfalso; first | omega | contradiction | (simp_all; done))
                                                                                  | (
                                                                                      refine doff rfl rfl rfl rfl ?_
                                                                                      refine doff rfl rfl rfl rfl ?_
                                                                                      refine doff rfl rfl rfl rfl ?_
                                                                                      refine doff rfl rfl rfl rfl ?_
                                                                                      refine doff rfl rfl rfl rfl ?_
                                                                                      refine doff rfl rfl rfl rfl ?_
                                                                                      refine doff rfl rfl rfl rfl ?_
                                                                                      first | (refine dvg rfl rfl rfl (opv_pick_t rfl rfl) ?_) | (refine dvg rfl rfl rfl (opv_pick_f rfl rfl) ?_)
                                                                                      first | (refine dv rfl (opv_pick_t rfl rfl) ?_) | (refine dv rfl (opv_pick_f rfl rfl) ?_)
                                                                                      first | (refine dv rfl (opv_mv rfl) ?_) | (refine dv rfl (opv_mvt rfl) ?_)
                                                                                      first | (refine dvg rfl rfl rfl (opv_loadN ti24 rfl (.lp _ _ _ rfl) (Nat.le_of_ble_eq_true rfl)) ?_) | (refine dvg rfl rfl rfl (opv_loadN ti24 rfl (.cp _) (Nat.le_of_ble_eq_true rfl)) ?_)
                                                                                      refine ddg rfl rfl rfl (opD_call fn31 (opnds_cons rfl opnds_nil) rfl (empty_c)) ?_
                                                                                      refine dvg rfl rfl rfl (opv_not rfl) ?_
                                                                                      first | (refine dvg rfl rfl rfl (opv_mv rfl) ?_) | (refine dvg rfl rfl rfl (opv_mvt rfl) ?_)
                                                                                      refine dsplit 117 rfl (fun hg54 => ?_) (fun hg54 => ?_)
                                                                                      · replace hg54 := bnot_t hg54
                                                                                        first
                                                                                        | (exfalso; first | omega | contradiction | (simp_all; done))
                                                                                        | (
                                                                                            refine doff rfl rfl rfl rfl ?_
                                                                                            refine doff rfl rfl rfl rfl ?_
                                                                                            refine doff rfl rfl rfl rfl ?_
                                                                                            refine doff rfl rfl rfl rfl ?_
                                                                                            first | (refine dvg rfl rfl rfl (opv_pick_t rfl rfl) ?_) | (refine dvg rfl rfl rfl (opv_pick_f rfl rfl) ?_)
                                                                                            first | (refine dv rfl (opv_pick_t rfl rfl) ?_) | (refine dv rfl (opv_pick_f rfl rfl) ?_)
                                                                                            first | (refine dv rfl (opv_as rfl) ?_) | (refine dv rfl (opv_ast rfl) ?_)
                                                                                            refine dnil ?_
                                                                                            refine then_normal ?_
                                                                                            refine cret ?_
                                                                                            refine ⟨Or.inr rfl, _, _, _, (resVs_cons (ResV.tmp _ _ rfl) resVs_nil), (pubA_id rfl), ?_⟩
                                                                                            first | rfl | (refine avb ?_; simp_all; done))
                                                                                      · replace hg54 := bnot_f hg54
                                                                                        first
                                                                                        | (exfalso; first | omega | contradiction | (simp_all; done))
                                                                                        | (
                                                                                            first | (refine dvg rfl rfl rfl (opv_loadN ti24 rfl (.lp _ _ _ rfl) (Nat.le_of_ble_eq_true rfl)) ?_) | (refine dvg rfl rfl rfl (opv_loadN ti24 rfl (.cp _) (Nat.le_of_ble_eq_true rfl)) ?_)
                                                                                            first | (refine dvg rfl rfl rfl (opv_mv rfl) ?_) | (refine dvg rfl rfl rfl (opv_mvt rfl) ?_)
                                                                                            refine ddg rfl rfl rfl (opD_call fn29 (opnds_cons rfl (opnds_cons rfl opnds_nil)) rfl (has_c)) ?_
                                                                                            refine dvg rfl rfl rfl (opv_not rfl) ?_
                                                                                            first | (refine dvg rfl rfl rfl (opv_pick_t rfl rfl) ?_) | (refine dvg rfl rfl rfl (opv_pick_f rfl rfl) ?_)
                                                                                            first | (refine dv rfl (opv_pick_t rfl rfl) ?_) | (refine dv rfl (opv_pick_f rfl rfl) ?_)
                                                                                            first | (refine dv rfl (opv_as rfl) ?_) | (refine dv rfl (opv_ast rfl) ?_)
                                                                                            refine dnil ?_
                                                                                            refine then_normal ?_
                                                                                            refine cret ?_
                                                                                            refine ⟨Or.inr rfl, _, _, _, (resVs_cons (ResV.tmp _ _ rfl) resVs_nil), (pubA_id rfl), ?_⟩
                                                                                            first | rfl | (refine avb ?_; simp_all; done)))
                                                                                · replace hg53 := bnot_f hg53
                                                                                  first
                                                                                  | (exfalso; first | omega | contradiction | (simp_all; done))
                                                                                  | (
                                                                                      first | (refine dvg rfl rfl rfl (opv_loadN ti24 rfl (.lp _ _ _ rfl) (Nat.le_of_ble_eq_true rfl)) ?_) | (refine dvg rfl rfl rfl (opv_loadN ti24 rfl (.cp _) (Nat.le_of_ble_eq_true rfl)) ?_)
                                                                                      first | (refine dvg rfl rfl rfl (opv_mv rfl) ?_) | (refine dvg rfl rfl rfl (opv_mvt rfl) ?_)
                                                                                      refine ddg rfl rfl rfl (opD_call fn29 (opnds_cons rfl (opnds_cons rfl opnds_nil)) rfl (has_c)) ?_
                                                                                      first | (refine dvg rfl rfl rfl (opv_loadN ti24 rfl (.lp _ _ _ rfl) (Nat.le_of_ble_eq_true rfl)) ?_) | (refine dvg rfl rfl rfl (opv_loadN ti24 rfl (.cp _) (Nat.le_of_ble_eq_true rfl)) ?_)
                                                                                      first | (refine dvg rfl rfl rfl (opv_mv rfl) ?_) | (refine dvg rfl rfl rfl (opv_mvt rfl) ?_)
                                                                                      refine ddg rfl rfl rfl (opD_call fn29 (opnds_cons rfl (opnds_cons rfl opnds_nil)) rfl (has_c)) ?_
                                                                                      refine dvg rfl rfl rfl (opv_beql Try.underlying4 rfl rfl) ?_
                                                                                      first | (refine dvg rfl rfl rfl (opv_pick_t rfl rfl) ?_) | (refine dvg rfl rfl rfl (opv_pick_f rfl rfl) ?_)
                                                                                      first | (refine dv rfl (opv_pick_t rfl rfl) ?_) | (refine dv rfl (opv_pick_f rfl rfl) ?_)
                                                                                      first | (refine dv rfl (opv_mv rfl) ?_) | (refine dv rfl (opv_mvt rfl) ?_)
                                                                                      refine dsplit 113 rfl (fun hg55 => ?_) (fun hg55 => ?_)
                                                                                      · first
                                                                                        | (exfalso; first | omega | contradiction | (simp_all; done))
                                                                                        | (
                                                                                            first | (refine dvg rfl rfl rfl (opv_loadN ti24 rfl (.lp _ _ _ rfl) (Nat.le_of_ble_eq_true rfl)) ?_) | (refine dvg rfl rfl rfl (opv_loadN ti24 rfl (.cp _) (Nat.le_of_ble_eq_true rfl)) ?_)
                                                                                            refine ddg rfl rfl rfl (opD_call fn31 (opnds_cons rfl opnds_nil) rfl (empty_c)) ?_
                                                                                            refine dvg rfl rfl rfl (opv_not rfl) ?_
                                                                                            first | (refine dvg rfl rfl rfl (opv_mv rfl) ?_) | (refine dvg rfl rfl rfl (opv_mvt rfl) ?_)
                                                                                            refine dsplit 117 rfl (fun hg56 => ?_) (fun hg56 => ?_)
                                                                                            · replace hg56 := bnot_t hg56
                                                                                              first
                                                                                              | (exfalso; first | omega | contradiction | (simp_all; done))
                                                                                              | (
                                                                                                  refine doff rfl rfl rfl rfl ?_
                                                                                                  refine doff rfl rfl rfl rfl ?_
                                                                                                  refine doff rfl rfl rfl rfl ?_
                                                                                                  refine doff rfl rfl rfl rfl ?_
                                                                                                  first | (refine dvg rfl rfl rfl (opv_pick_t rfl rfl) ?_) | (refine dvg rfl rfl rfl (opv_pick_f rfl rfl) ?_)
                                                                                                  first | (refine dv rfl (opv_pick_t rfl rfl) ?_) | (refine dv rfl (opv_pick_f rfl rfl) ?_)
                                                                                                  first | (refine dv rfl (opv_as rfl) ?_) | (refine dv rfl (opv_ast rfl) ?_)
                                                                                                  refine dnil ?_
                                                                                                  refine then_normal ?_
                                                                                                  refine cret ?_
                                                                                                  refine ⟨Or.inr rfl, _, _, _, (resVs_cons (ResV.tmp _ _ rfl) resVs_nil), (pubA_id rfl), ?_⟩
                                                                                                  first | rfl | (refine avb ?_; simp_all; done))
                                                                                            · replace hg56 := bnot_f hg56
                                                                                              first
                                                                                              | (exfalso; first | omega | contradiction | (simp_all; done))
                                                                                              | (
                                                                                                  first | (refine dvg rfl rfl rfl (opv_loadN ti24 rfl (.lp _ _ _ rfl) (Nat.le_of_ble_eq_true rfl)) ?_) | (refine dvg rfl rfl rfl (opv_loadN ti24 rfl (.cp _) (Nat.le_of_ble_eq_true rfl)) ?_)
                                                                                                  first | (refine dvg rfl rfl rfl (opv_mv rfl) ?_) | (refine dvg rfl rfl rfl (opv_mvt rfl) ?_)
                                                                                                  refine ddg rfl rfl rfl (opD_call fn29 (opnds_cons rfl (opnds_cons rfl opnds_nil)) rfl (has_c)) ?_
                                                                                                  refine dvg rfl rfl rfl (opv_not rfl) ?_
                                                                                                  first | (refine dvg rfl rfl rfl (opv_pick_t rfl rfl) ?_) | (refine dvg rfl rfl rfl (opv_pick_f rfl rfl) ?_)
                                                                                                  first | (refine dv rfl (opv_pick_t rfl rfl) ?_) | (refine dv rfl (opv_pick_f rfl rfl) ?_)
                                                                                                  first | (refine dv rfl (opv_as rfl) ?_) | (refine dv rfl (opv_ast rfl) ?_)
                                                                                                  refine dnil ?_
                                                                                                  refine then_normal ?_
                                                                                                  refine cret ?_
                                                                                                  refine ⟨Or.inr rfl, _, _, _, (resVs_cons (ResV.tmp _ _ rfl) resVs_nil), (pubA_id rfl), ?_⟩
                                                                                                  first | rfl | (refine avb ?_; simp_all; done)))
                                                                                      · first
                                                                                        | (exfalso; first | omega | contradiction | (simp_all; done))
                                                                                        | (
                                                                                            refine doff rfl rfl rfl rfl ?_
                                                                                            refine doff rfl rfl rfl rfl ?_
                                                                                            refine doff rfl rfl rfl rfl ?_
                                                                                            refine doff rfl rfl rfl rfl ?_
                                                                                            refine doffu rfl rfl rfl ?_
                                                                                            refine doffu rfl rfl rfl ?_
                                                                                            refine doffu rfl rfl rfl ?_
                                                                                            refine doffu rfl rfl rfl ?_
                                                                                            refine doff rfl rfl rfl rfl ?_
                                                                                            first | (refine dv rfl (opv_pick_t rfl rfl) ?_) | (refine dv rfl (opv_pick_f rfl rfl) ?_)
                                                                                            first | (refine dv rfl (opv_as rfl) ?_) | (refine dv rfl (opv_ast rfl) ?_)
                                                                                            refine dnil ?_
                                                                                            refine then_normal ?_
                                                                                            refine cret ?_
                                                                                            refine ⟨Or.inr rfl, _, _, _, (resVs_cons (ResV.tmp _ _ rfl) resVs_nil), (pubA_id rfl), ?_⟩
                                                                                            first | rfl | (refine avb ?_; simp_all; done))))
                                                                          · first
                                                                            | (exfalso; first | omega | contradiction | (simp_all; done))
                                                                            | (
                                                                                refine doff rfl rfl rfl rfl ?_
                                                                                refine doff rfl rfl rfl rfl ?_
                                                                                refine doff rfl rfl rfl rfl ?_
                                                                                refine doffu rfl rfl rfl ?_
                                                                                refine doffu rfl rfl rfl ?_
                                                                                refine doffu rfl rfl rfl ?_
                                                                                refine doffu rfl rfl rfl ?_
                                                                                refine doffu rfl rfl rfl ?_
                                                                                refine doffu rfl rfl rfl ?_
                                                                                refine doffu rfl rfl rfl ?_
                                                                                refine doff rfl rfl rfl rfl ?_
                                                                                first | (refine dv rfl (opv_pick_t rfl rfl) ?_) | (refine dv rfl (opv_pick_f rfl rfl) ?_)
                                                                                first | (refine dv rfl (opv_mv rfl) ?_) | (refine dv rfl (opv_mvt rfl) ?_)
                                                                                refine doff rfl rfl rfl rfl ?_
                                                                                refine doff rfl rfl rfl rfl ?_
                                                                                refine doff rfl rfl rfl rfl ?_
                                                                                refine doff rfl rfl rfl rfl ?_
                                                                                refine doffu rfl rfl rfl ?_
                                                                                refine doffu rfl rfl rfl ?_
                                                                                refine doffu rfl rfl rfl ?_
                                                                                refine doffu rfl rfl rfl ?_
                                                                                refine doff rfl rfl rfl rfl ?_
                                                                                first | (refine dv rfl (opv_pick_t rfl rfl) ?_) | (refine dv rfl (opv_pick_f rfl rfl) ?_)
                                                                                first | (refine dv rfl (opv_as rfl) ?_) | (refine dv rfl (opv_ast rfl) ?_)
                                                                                refine dnil ?_
                                                                                refine then_normal ?_
                                                                                refine cret ?_
                                                                                refine ⟨Or.inr rfl, _, _, _, (resVs_cons (ResV.tmp _ _ rfl) resVs_nil), (pubA_id rfl), ?_⟩
                                                                                first | rfl | (refine avb ?_; simp_all; done)))
                                                                    · first
                                                                      | (exfalso; first | omega | contradiction | (simp_all; done))
                                                                      | (
                                                                          refine doff rfl rfl rfl rfl ?_
                                                                          refine doff rfl rfl rfl rfl ?_
                                                                          refine doff rfl rfl rfl rfl ?_
                                                                          refine doff rfl rfl rfl rfl ?_
                                                                          refine doff rfl rfl rfl rfl ?_
                                                                          first | (refine dv rfl (opv_pick_t rfl rfl) ?_) | (refine dv rfl (opv_pick_f rfl rfl) ?_)
                                                                          first | (refine dv rfl (opv_mv rfl) ?_) | (refine dv rfl (opv_mvt rfl) ?_)
                                                                          refine doff rfl rfl rfl rfl ?_
                                                                          refine doff rfl rfl rfl rfl ?_
                                                                          refine doff rfl rfl rfl rfl ?_
                                                                          refine doffu rfl rfl rfl ?_
                                                                          refine doffu rfl rfl rfl ?_
                                                                          refine doffu rfl rfl rfl ?_
                                                                          refine doffu rfl rfl rfl ?_
                                                                          refine doffu rfl rfl rfl ?_
                                                                          refine doffu rfl rfl rfl ?_
                                                                          refine doffu rfl rfl rfl ?_
                                                                          refine doff rfl rfl rfl rfl ?_
                                                                          first | (refine dv rfl (opv_pick_t rfl rfl) ?_) | (refine dv rfl (opv_pick_f rfl rfl) ?_)
                                                                          first | (refine dv rfl (opv_mv rfl) ?_) | (refine dv rfl (opv_mvt rfl) ?_)
                                                                          refine doff rfl rfl rfl rfl ?_
                                                                          refine doff rfl rfl rfl rfl ?_
                                                                          refine doff rfl rfl rfl rfl ?_
                                                                          refine doff rfl rfl rfl rfl ?_
                                                                          refine doffu rfl rfl rfl ?_
                                                                          refine doffu rfl rfl rfl ?_
                                                                          refine doffu rfl rfl rfl ?_
                                                                          refine doffu rfl rfl rfl ?_
                                                                          refine doff rfl rfl rfl rfl ?_
                                                                          first | (refine dv rfl (opv_pick_t rfl rfl) ?_) | (refine dv rfl (opv_pick_f rfl rfl) ?_)
                                                                          first | (refine dv rfl (opv_as rfl) ?_) | (refine dv rfl (opv_ast rfl) ?_)
                                                                          refine dnil ?_
                                                                          refine then_normal ?_
                                                                          refine cret ?_
                                                                          refine ⟨Or.inr rfl, _, _, _, (resVs_cons (ResV.tmp _ _ rfl) resVs_nil), (pubA_id rfl), ?_⟩
                                                                          first | rfl | (refine avb ?_; simp_all; done)))))))
                                      · first
                                        | (exfalso; first | omega | contradiction | (simp_all; done))
                                        | (
                                            refine soff rfl rfl rfl rfl ?_
                                            refine soff rfl rfl rfl rfl ?_
                                            refine soff rfl rfl rfl rfl ?_
                                            refine soff rfl rfl rfl rfl ?_
                                            refine soff rfl rfl rfl rfl ?_
                                            refine soff rfl rfl rfl rfl ?_
                                            refine soffu rfl rfl rfl ?_
                                            refine soffu rfl rfl rfl ?_
                                            refine soffu rfl rfl rfl ?_
                                            refine soffu rfl rfl rfl ?_
                                            refine soffu rfl rfl rfl ?_
                                            refine soff rfl rfl rfl rfl ?_
                                            refine soff rfl rfl rfl rfl ?_
                                            refine soffu rfl rfl rfl ?_
                                            refine soffu rfl rfl rfl ?_
                                            refine soff rfl rfl rfl rfl ?_
                                            refine son rfl rfl rfl ?_
                                            first | (refine sv rfl (opv_pick_t rfl rfl) ?_) | (refine sv rfl (opv_pick_f rfl rfl) ?_)
                                            first | (refine sv rfl (opv_pick_t rfl rfl) ?_) | (refine sv rfl (opv_pick_f rfl rfl) ?_)
                                            first | (refine sv rfl (opv_mv rfl) ?_) | (refine sv rfl (opv_mvt rfl) ?_)
                                            refine son rfl rfl rfl ?_
                                            first | (refine sv rfl (opv_mv rfl) ?_) | (refine sv rfl (opv_mvt rfl) ?_)
                                            refine son rfl rfl rfl ?_
                                            refine sv rfl (opv_not rfl) ?_
                                            refine son rfl rfl rfl ?_
                                            first | (refine sv rfl (opv_mv rfl) ?_) | (refine sv rfl (opv_mvt rfl) ?_)
                                            refine ssplit 88 rfl (fun hg57 => ?_) (fun hg57 => ?_)
                                            · replace hg57 := bnot_t hg57
                                              first
                                              | (exfalso; first | omega | contradiction | (simp_all; done))
                                              | (
                                                  refine son rfl rfl rfl ?_
                                                  first | (refine sv rfl (opv_mv rfl) ?_) | (refine sv rfl (opv_mvt rfl) ?_)
                                                  refine son rfl rfl rfl ?_
                                                  first | (refine sv rfl (opv_pick_t rfl rfl) ?_) | (refine sv rfl (opv_pick_f rfl rfl) ?_)
                                                  first | (refine sv rfl (opv_pick_t rfl rfl) ?_) | (refine sv rfl (opv_pick_f rfl rfl) ?_)
                                                  refine snil ?_
                                                  refine ccond rfl (fun hx => Bool.noConfusion hx) (fun _ => ?_)
                                                  refine cskip ?_
                                                  refine then_normal ?_
                                                  refine cseq ?_
                                                  refine cdraw mixed (by kernel_rfl) ?_
                                                  first | (refine dv rfl (opv_mv rfl) ?_) | (refine dv rfl (opv_mvt rfl) ?_)
                                                  first | (refine dv rfl (opv_mv rfl) ?_) | (refine dv rfl (opv_mvt rfl) ?_)
                                                  refine dsplit 93 rfl (fun hg58 => ?_) (fun hg58 => ?_)
                                                  · first
                                                    | (exfalso; first | omega | contradiction | (simp_all; done))
                                                    | (
                                                        first | (refine dvg rfl rfl rfl (opv_mv rfl) ?_) | (refine dvg rfl rfl rfl (opv_mvt rfl) ?_)
                                                        first | (refine dvg rfl rfl rfl (opv_loadN ti24 rfl (.lp _ _ _ rfl) (Nat.le_of_ble_eq_true rfl)) ?_) | (refine dvg rfl rfl rfl (opv_loadN ti24 rfl (.cp _) (Nat.le_of_ble_eq_true rfl)) ?_)
                                                        refine ddg rfl rfl rfl (opD_call fn31 (opnds_cons rfl opnds_nil) rfl (empty_c)) ?_
                                                        refine dvg rfl rfl rfl (opv_not rfl) ?_
                                                        refine dvg rfl rfl rfl (opv_beql Try.underlying4 rfl rfl) ?_
                                                        first | (refine dv rfl (opv_pick_t rfl rfl) ?_) | (refine dv rfl (opv_pick_f rfl rfl) ?_)
                                                        first | (refine dv rfl (opv_mv rfl) ?_) | (refine dv rfl (opv_mvt rfl) ?_)
                                                        refine dsplit 100 rfl (fun hg59 => ?_) (fun hg59 => ?_)
                                                        · first
                                                          | (exfalso; first | omega | contradiction | (simp_all; done))
                                                          | (
                                                              first | (refine dvg rfl rfl rfl (opv_mv rfl) ?_) | (refine dvg rfl rfl rfl (opv_mvt rfl) ?_)
                                                              refine dvg rfl rfl rfl (opv_not rfl) ?_
                                                              first | (refine dvg rfl rfl rfl (opv_mv rfl) ?_) | (refine dvg rfl rfl rfl (opv_mvt rfl) ?_)
                                                              refine dsplit 103 rfl (fun hg60 => ?_) (fun hg60 => ?_)
                                                              · replace hg60 := bnot_t hg60
                                                                first
                                                                | (exfalso; first | omega | contradiction | (simp_all; done))
                                                                | (
                                                                    refine doff rfl rfl rfl rfl ?_
                                                                    refine doff rfl rfl rfl rfl ?_
                                                                    refine doff rfl rfl rfl rfl ?_
                                                                    refine doff rfl rfl rfl rfl ?_
                                                                    refine doff rfl rfl rfl rfl ?_
                                                                    refine doff rfl rfl rfl rfl ?_
                                                                    refine doff rfl rfl rfl rfl ?_
                                                                    first | (refine dvg rfl rfl rfl (opv_pick_t rfl rfl) ?_) | (refine dvg rfl rfl rfl (opv_pick_f rfl rfl) ?_)
                                                                    first | (refine dv rfl (opv_pick_t rfl rfl) ?_) | (refine dv rfl (opv_pick_f rfl rfl) ?_)
                                                                    first | (refine dv rfl (opv_mv rfl) ?_) | (refine dv rfl (opv_mvt rfl) ?_)
                                                                    first | (refine dvg rfl rfl rfl (opv_loadN ti24 rfl (.lp _ _ _ rfl) (Nat.le_of_ble_eq_true rfl)) ?_) | (refine dvg rfl rfl rfl (opv_loadN ti24 rfl (.cp _) (Nat.le_of_ble_eq_true rfl)) ?_)
                                                                    refine ddg rfl rfl rfl (opD_call fn31 (opnds_cons rfl opnds_nil) rfl (empty_c)) ?_
                                                                    refine dvg rfl rfl rfl (opv_not rfl) ?_
                                                                    first | (refine dvg rfl rfl rfl (opv_mv rfl) ?_) | (refine dvg rfl rfl rfl (opv_mvt rfl) ?_)
                                                                    refine dsplit 117 rfl (fun hg61 => ?_) (fun hg61 => ?_)
                                                                    · replace hg61 := bnot_t hg61
                                                                      first
                                                                      | (exfalso; first | omega | contradiction | (simp_all; done))
                                                                      | (
                                                                          refine doff rfl rfl rfl rfl ?_
                                                                          refine doff rfl rfl rfl rfl ?_
                                                                          refine doff rfl rfl rfl rfl ?_
                                                                          refine doff rfl rfl rfl rfl ?_
                                                                          first | (refine dvg rfl rfl rfl (opv_pick_t rfl rfl) ?_) | (refine dvg rfl rfl rfl (opv_pick_f rfl rfl) ?_)
                                                                          first | (refine dv rfl (opv_pick_t rfl rfl) ?_) | (refine dv rfl (opv_pick_f rfl rfl) ?_)
                                                                          first | (refine dv rfl (opv_as rfl) ?_) | (refine dv rfl (opv_ast rfl) ?_)
                                                                          refine dnil ?_
                                                                          refine then_normal ?_
                                                                          refine cret ?_
                                                                          refine ⟨Or.inr rfl, _, _, _, (resVs_cons (ResV.tmp _ _ rfl) resVs_nil), (pubA_id rfl), ?_⟩
                                                                          first | rfl | (refine avb ?_; simp_all; done))
                                                                    · replace hg61 := bnot_f hg61
                                                                      first
                                                                      | (exfalso; first | omega | contradiction | (simp_all; done))
                                                                      | (
                                                                          first | (refine dvg rfl rfl rfl (opv_loadN ti24 rfl (.lp _ _ _ rfl) (Nat.le_of_ble_eq_true rfl)) ?_) | (refine dvg rfl rfl rfl (opv_loadN ti24 rfl (.cp _) (Nat.le_of_ble_eq_true rfl)) ?_)
                                                                          first | (refine dvg rfl rfl rfl (opv_mv rfl) ?_) | (refine dvg rfl rfl rfl (opv_mvt rfl) ?_)
                                                                          refine ddg rfl rfl rfl (opD_call fn29 (opnds_cons rfl (opnds_cons rfl opnds_nil)) rfl (has_c)) ?_
                                                                          refine dvg rfl rfl rfl (opv_not rfl) ?_
                                                                          first | (refine dvg rfl rfl rfl (opv_pick_t rfl rfl) ?_) | (refine dvg rfl rfl rfl (opv_pick_f rfl rfl) ?_)
                                                                          first | (refine dv rfl (opv_pick_t rfl rfl) ?_) | (refine dv rfl (opv_pick_f rfl rfl) ?_)
                                                                          first | (refine dv rfl (opv_as rfl) ?_) | (refine dv rfl (opv_ast rfl) ?_)
                                                                          refine dnil ?_
                                                                          refine then_normal ?_
                                                                          refine cret ?_
                                                                          refine ⟨Or.inr rfl, _, _, _, (resVs_cons (ResV.tmp _ _ rfl) resVs_nil), (pubA_id rfl), ?_⟩
                                                                          first | rfl | (refine avb ?_; simp_all; done)))
                                                              · replace hg60 := bnot_f hg60
                                                                first
                                                                | (exfalso; first | omega | contradiction | (simp_all; done))
                                                                | (
                                                                    first | (refine dvg rfl rfl rfl (opv_loadN ti24 rfl (.lp _ _ _ rfl) (Nat.le_of_ble_eq_true rfl)) ?_) | (refine dvg rfl rfl rfl (opv_loadN ti24 rfl (.cp _) (Nat.le_of_ble_eq_true rfl)) ?_)
                                                                    first | (refine dvg rfl rfl rfl (opv_mv rfl) ?_) | (refine dvg rfl rfl rfl (opv_mvt rfl) ?_)
                                                                    refine ddg rfl rfl rfl (opD_call fn29 (opnds_cons rfl (opnds_cons rfl opnds_nil)) rfl (has_c)) ?_
                                                                    first | (refine dvg rfl rfl rfl (opv_loadN ti24 rfl (.lp _ _ _ rfl) (Nat.le_of_ble_eq_true rfl)) ?_) | (refine dvg rfl rfl rfl (opv_loadN ti24 rfl (.cp _) (Nat.le_of_ble_eq_true rfl)) ?_)
                                                                    first | (refine dvg rfl rfl rfl (opv_mv rfl) ?_) | (refine dvg rfl rfl rfl (opv_mvt rfl) ?_)
                                                                    refine ddg rfl rfl rfl (opD_call fn29 (opnds_cons rfl (opnds_cons rfl opnds_nil)) rfl (has_c)) ?_
                                                                    refine dvg rfl rfl rfl (opv_beql Try.underlying4 rfl rfl) ?_
                                                                    first | (refine dvg rfl rfl rfl (opv_pick_t rfl rfl) ?_) | (refine dvg rfl rfl rfl (opv_pick_f rfl rfl) ?_)
                                                                    first | (refine dv rfl (opv_pick_t rfl rfl) ?_) | (refine dv rfl (opv_pick_f rfl rfl) ?_)
                                                                    first | (refine dv rfl (opv_mv rfl) ?_) | (refine dv rfl (opv_mvt rfl) ?_)
                                                                    refine dsplit 113 rfl (fun hg62 => ?_) (fun hg62 => ?_)
                                                                    · first
                                                                      | (exfalso; first | omega | contradiction | (simp_all; done))
                                                                      | (
                                                                          first | (refine dvg rfl rfl rfl (opv_loadN ti24 rfl (.lp _ _ _ rfl) (Nat.le_of_ble_eq_true rfl)) ?_) | (refine dvg rfl rfl rfl (opv_loadN ti24 rfl (.cp _) (Nat.le_of_ble_eq_true rfl)) ?_)
                                                                          refine ddg rfl rfl rfl (opD_call fn31 (opnds_cons rfl opnds_nil) rfl (empty_c)) ?_
                                                                          refine dvg rfl rfl rfl (opv_not rfl) ?_
                                                                          first | (refine dvg rfl rfl rfl (opv_mv rfl) ?_) | (refine dvg rfl rfl rfl (opv_mvt rfl) ?_)
                                                                          refine dsplit 117 rfl (fun hg63 => ?_) (fun hg63 => ?_)
                                                                          · replace hg63 := bnot_t hg63
                                                                            first
                                                                            | (exfalso; first | omega | contradiction | (simp_all; done))
                                                                            | (
                                                                                refine doff rfl rfl rfl rfl ?_
                                                                                refine doff rfl rfl rfl rfl ?_
                                                                                refine doff rfl rfl rfl rfl ?_
                                                                                refine doff rfl rfl rfl rfl ?_
                                                                                first | (refine dvg rfl rfl rfl (opv_pick_t rfl rfl) ?_) | (refine dvg rfl rfl rfl (opv_pick_f rfl rfl) ?_)
                                                                                first | (refine dv rfl (opv_pick_t rfl rfl) ?_) | (refine dv rfl (opv_pick_f rfl rfl) ?_)
                                                                                first | (refine dv rfl (opv_as rfl) ?_) | (refine dv rfl (opv_ast rfl) ?_)
                                                                                refine dnil ?_
                                                                                refine then_normal ?_
                                                                                refine cret ?_
                                                                                refine ⟨Or.inr rfl, _, _, _, (resVs_cons (ResV.tmp _ _ rfl) resVs_nil), (pubA_id rfl), ?_⟩
                                                                                first | rfl | (refine avb ?_; simp_all; done))
                                                                          · replace hg63 := bnot_f hg63
                                                                            first
                                                                            | (exfalso; first | omega | contradiction | (simp_all; done))
                                                                            | (
                                                                                first | (refine dvg rfl rfl rfl (opv_loadN ti24 rfl (.lp _ _ _ rfl) (Nat.le_of_ble_eq_true rfl)) ?_) | (refine dvg rfl rfl rfl (opv_loadN ti24 rfl (.cp _) (Nat.le_of_ble_eq_true rfl)) ?_)
                                                                                first | (refine dvg rfl rfl rfl (opv_mv rfl) ?_) | (refine dvg rfl rfl rfl (opv_mvt rfl) ?_)
                                                                                refine ddg rfl rfl rfl (opD_call fn29 (opnds_cons rfl (opnds_cons rfl opnds_nil)) rfl (has_c)) ?_
                                                                                refine dvg rfl rfl rfl (opv_not rfl) ?_
                                                                                first | (refine dvg rfl rfl rfl (opv_pick_t rfl rfl) ?_) | (refine dvg rfl rfl rfl (opv_pick_f rfl rfl) ?_)
                                                                                first | (refine dv rfl (opv_pick_t rfl rfl) ?_) | (refine dv rfl (opv_pick_f rfl rfl) ?_)
                                                                                first | (refine dv rfl (opv_as rfl) ?_) | (refine dv rfl (opv_ast rfl) ?_)
                                                                                refine dnil ?_
                                                                                refine then_normal ?_
                                                                                refine cret ?_
                                                                                refine ⟨Or.inr rfl, _, _, _, (resVs_cons (ResV.tmp _ _ rfl) resVs_nil), (pubA_id rfl), ?_⟩
                                                                                first | rfl | (refine avb ?_; simp_all; done)))
                                                                    · first
                                                                      | (exfalso; first | omega | contradiction | (simp_all; done))
                                                                      | (
                                                                          refine doff rfl rfl rfl rfl ?_
                                                                          refine doff rfl rfl rfl rfl ?_
                                                                          refine doff rfl rfl rfl rfl ?_
                                                                          refine doff rfl rfl rfl rfl ?_
                                                                          refine doffu rfl rfl rfl ?_
                                                                          refine doffu rfl rfl rfl ?_
                                                                          refine doffu rfl rfl rfl ?_
                                                                          refine doffu rfl rfl rfl ?_
                                                                          refine doff rfl rfl rfl rfl ?_
                                                                          first | (refine dv rfl (opv_pick_t rfl rfl) ?_) | (refine dv rfl (opv_pick_f rfl rfl) ?_)
                                                                          first | (refine dv rfl (opv_as rfl) ?_) | (refine dv rfl (opv_ast rfl) ?_)
                                                                          refine dnil ?_
                                                                          refine then_normal ?_
                                                                          refine cret ?_
                                                                          refine ⟨Or.inr rfl, _, _, _, (resVs_cons (ResV.tmp _ _ rfl) resVs_nil), (pubA_id rfl), ?_⟩
                                                                          first | rfl | (refine avb ?_; simp_all; done))))
                                                        · first
                                                          | (exfalso; first | omega | contradiction | (simp_all; done))
                                                          | (
                                                              refine doff rfl rfl rfl rfl ?_
                                                              refine doff rfl rfl rfl rfl ?_
                                                              refine doff rfl rfl rfl rfl ?_
                                                              refine doffu rfl rfl rfl ?_
                                                              refine doffu rfl rfl rfl ?_
                                                              refine doffu rfl rfl rfl ?_
                                                              refine doffu rfl rfl rfl ?_
                                                              refine doffu rfl rfl rfl ?_
                                                              refine doffu rfl rfl rfl ?_
                                                              refine doffu rfl rfl rfl ?_
                                                              refine doff rfl rfl rfl rfl ?_
                                                              first | (refine dv rfl (opv_pick_t rfl rfl) ?_) | (refine dv rfl (opv_pick_f rfl rfl) ?_)
                                                              first | (refine dv rfl (opv_mv rfl) ?_) | (refine dv rfl (opv_mvt rfl) ?_)
                                                              refine doff rfl rfl rfl rfl ?_
                                                              refine doff rfl rfl rfl rfl ?_
                                                              refine doff rfl rfl rfl rfl ?_
                                                              refine doff rfl rfl rfl rfl ?_
                                                              refine doffu rfl rfl rfl ?_
                                                              refine doffu rfl rfl rfl ?_
                                                              refine doffu rfl rfl rfl ?_
                                                              refine doffu rfl rfl rfl ?_
                                                              refine doff rfl rfl rfl rfl ?_
                                                              first | (refine dv rfl (opv_pick_t rfl rfl) ?_) | (refine dv rfl (opv_pick_f rfl rfl) ?_)
                                                              first | (refine dv rfl (opv_as rfl) ?_) | (refine dv rfl (opv_ast rfl) ?_)
                                                              refine dnil ?_
                                                              refine then_normal ?_
                                                              refine cret ?_
                                                              refine ⟨Or.inr rfl, _, _, _, (resVs_cons (ResV.tmp _ _ rfl) resVs_nil), (pubA_id rfl), ?_⟩
                                                              first | rfl | (refine avb ?_; simp_all; done)))
                                                  · first
                                                    | (exfalso; first | omega | contradiction | (simp_all; done))
                                                    | (
                                                        refine doff rfl rfl rfl rfl ?_
                                                        refine doff rfl rfl rfl rfl ?_
                                                        refine doff rfl rfl rfl rfl ?_
                                                        refine doff rfl rfl rfl rfl ?_
                                                        refine doff rfl rfl rfl rfl ?_
                                                        first | (refine dv rfl (opv_pick_t rfl rfl) ?_) | (refine dv rfl (opv_pick_f rfl rfl) ?_)
                                                        first | (refine dv rfl (opv_mv rfl) ?_) | (refine dv rfl (opv_mvt rfl) ?_)
                                                        refine doff rfl rfl rfl rfl ?_
                                                        refine doff rfl rfl rfl rfl ?_
                                                        refine doff rfl rfl rfl rfl ?_
                                                        refine doffu rfl rfl rfl ?_
                                                        refine doffu rfl rfl rfl ?_
                                                        refine doffu rfl rfl rfl ?_
                                                        refine doffu rfl rfl rfl ?_
                                                        refine doffu rfl rfl rfl ?_
                                                        refine doffu rfl rfl rfl ?_
                                                        refine doffu rfl rfl rfl ?_
                                                        refine doff rfl rfl rfl rfl ?_
                                                        first | (refine dv rfl (opv_pick_t rfl rfl) ?_) | (refine dv rfl (opv_pick_f rfl rfl) ?_)
                                                        first | (refine dv rfl (opv_mv rfl) ?_) | (refine dv rfl (opv_mvt rfl) ?_)
                                                        refine doff rfl rfl rfl rfl ?_
                                                        refine doff rfl rfl rfl rfl ?_
                                                        refine doff rfl rfl rfl rfl ?_
                                                        refine doff rfl rfl rfl rfl ?_
                                                        refine doffu rfl rfl rfl ?_
                                                        refine doffu rfl rfl rfl ?_
                                                        refine doffu rfl rfl rfl ?_
                                                        refine doffu rfl rfl rfl ?_
                                                        refine doff rfl rfl rfl rfl ?_
                                                        first | (refine dv rfl (opv_pick_t rfl rfl) ?_) | (refine dv rfl (opv_pick_f rfl rfl) ?_)
                                                        first | (refine dv rfl (opv_as rfl) ?_) | (refine dv rfl (opv_ast rfl) ?_)
                                                        refine dnil ?_
                                                        refine then_normal ?_
                                                        refine cret ?_
                                                        refine ⟨Or.inr rfl, _, _, _, (resVs_cons (ResV.tmp _ _ rfl) resVs_nil), (pubA_id rfl), ?_⟩
                                                        first | rfl | (refine avb ?_; simp_all; done)))
                                            · replace hg57 := bnot_f hg57
                                              first
                                              | (exfalso; first | omega | contradiction | (simp_all; done))
                                              | (
                                                  refine soff rfl rfl rfl rfl ?_
                                                  refine son rfl rfl rfl ?_
                                                  first | (refine sv rfl (opv_pick_t rfl rfl) ?_) | (refine sv rfl (opv_pick_f rfl rfl) ?_)
                                                  first | (refine sv rfl (opv_pick_t rfl rfl) ?_) | (refine sv rfl (opv_pick_f rfl rfl) ?_)
                                                  refine snil ?_
                                                  refine ccond rfl (fun hx => Bool.noConfusion hx) (fun _ => ?_)
                                                  refine cskip ?_
                                                  refine then_normal ?_
                                                  refine cseq ?_
                                                  refine cdraw mixed (by kernel_rfl) ?_
                                                  first | (refine dv rfl (opv_mv rfl) ?_) | (refine dv rfl (opv_mvt rfl) ?_)
                                                  first | (refine dv rfl (opv_mv rfl) ?_) | (refine dv rfl (opv_mvt rfl) ?_)
                                                  refine dsplit 93 rfl (fun hg64 => ?_) (fun hg64 => ?_)
                                                  · first
                                                    | (exfalso; first | omega | contradiction | (simp_all; done))
                                                    | (
                                                        first | (refine dvg rfl rfl rfl (opv_mv rfl) ?_) | (refine dvg rfl rfl rfl (opv_mvt rfl) ?_)
                                                        first | (refine dvg rfl rfl rfl (opv_loadN ti24 rfl (.lp _ _ _ rfl) (Nat.le_of_ble_eq_true rfl)) ?_) | (refine dvg rfl rfl rfl (opv_loadN ti24 rfl (.cp _) (Nat.le_of_ble_eq_true rfl)) ?_)
                                                        refine ddg rfl rfl rfl (opD_call fn31 (opnds_cons rfl opnds_nil) rfl (empty_c)) ?_
                                                        refine dvg rfl rfl rfl (opv_not rfl) ?_
                                                        refine dvg rfl rfl rfl (opv_beql Try.underlying4 rfl rfl) ?_
                                                        first | (refine dv rfl (opv_pick_t rfl rfl) ?_) | (refine dv rfl (opv_pick_f rfl rfl) ?_)
                                                        first | (refine dv rfl (opv_mv rfl) ?_) | (refine dv rfl (opv_mvt rfl) ?_)
                                                        refine dsplit 100 rfl (fun hg65 => ?_) (fun hg65 => ?_)
                                                        · first
                                                          | (exfalso; first | omega | contradiction | (simp_all; done))
                                                          | (
                                                              first | (refine dvg rfl rfl rfl (opv_mv rfl) ?_) | (refine dvg rfl rfl rfl (opv_mvt rfl) ?_)
                                                              refine dvg rfl rfl rfl (opv_not rfl) ?_
                                                              first | (refine dvg rfl rfl rfl (opv_mv rfl) ?_) | (refine dvg rfl rfl rfl (opv_mvt rfl) ?_)
                                                              refine dsplit 103 rfl (fun hg66 => ?_) (fun hg66 => ?_)
                                                              · replace hg66 := bnot_t hg66
                                                                first
                                                                | (exfalso; first | omega | contradiction | (simp_all; done))
                                                                | (
                                                                    refine doff rfl rfl rfl rfl ?_
                                                                    refine doff rfl rfl rfl rfl ?_
                                                                    refine doff rfl rfl rfl rfl ?_
                                                                    refine doff rfl rfl rfl rfl ?_
                                                                    refine doff rfl rfl rfl rfl ?_
                                                                    refine doff rfl rfl rfl rfl ?_
                                                                    refine doff rfl rfl rfl rfl ?_
                                                                    first | (refine dvg rfl rfl rfl (opv_pick_t rfl rfl) ?_) | (refine dvg rfl rfl rfl (opv_pick_f rfl rfl) ?_)
                                                                    first | (refine dv rfl (opv_pick_t rfl rfl) ?_) | (refine dv rfl (opv_pick_f rfl rfl) ?_)
                                                                    first | (refine dv rfl (opv_mv rfl) ?_) | (refine dv rfl (opv_mvt rfl) ?_)
                                                                    first | (refine dvg rfl rfl rfl (opv_loadN ti24 rfl (.lp _ _ _ rfl) (Nat.le_of_ble_eq_true rfl)) ?_) | (refine dvg rfl rfl rfl (opv_loadN ti24 rfl (.cp _) (Nat.le_of_ble_eq_true rfl)) ?_)
                                                                    refine ddg rfl rfl rfl (opD_call fn31 (opnds_cons rfl opnds_nil) rfl (empty_c)) ?_
                                                                    refine dvg rfl rfl rfl (opv_not rfl) ?_
                                                                    first | (refine dvg rfl rfl rfl (opv_mv rfl) ?_) | (refine dvg rfl rfl rfl (opv_mvt rfl) ?_)
                                                                    refine dsplit 117 rfl (fun hg67 => ?_) (fun hg67 => ?_)
                                                                    · replace hg67 := bnot_t hg67
                                                                      first
                                                                      | (exfalso; first | omega | contradiction | (simp_all; done))
                                                                      | (
                                                                          refine doff rfl rfl rfl rfl ?_
                                                                          refine doff rfl rfl rfl rfl ?_
                                                                          refine doff rfl rfl rfl rfl ?_
                                                                          refine doff rfl rfl rfl rfl ?_
                                                                          first | (refine dvg rfl rfl rfl (opv_pick_t rfl rfl) ?_) | (refine dvg rfl rfl rfl (opv_pick_f rfl rfl) ?_)
                                                                          first | (refine dv rfl (opv_pick_t rfl rfl) ?_) | (refine dv rfl (opv_pick_f rfl rfl) ?_)
                                                                          first | (refine dv rfl (opv_as rfl) ?_) | (refine dv rfl (opv_ast rfl) ?_)
                                                                          refine dnil ?_
                                                                          refine then_normal ?_
                                                                          refine cret ?_
                                                                          refine ⟨Or.inr rfl, _, _, _, (resVs_cons (ResV.tmp _ _ rfl) resVs_nil), (pubA_id rfl), ?_⟩
                                                                          first | rfl | (refine avb ?_; simp_all; done))
                                                                    · replace hg67 := bnot_f hg67
                                                                      first
                                                                      | (exfalso; first | omega | contradiction | (simp_all; done))
                                                                      | (
                                                                          first | (refine dvg rfl rfl rfl (opv_loadN ti24 rfl (.lp _ _ _ rfl) (Nat.le_of_ble_eq_true rfl)) ?_) | (refine dvg rfl rfl rfl (opv_loadN ti24 rfl (.cp _) (Nat.le_of_ble_eq_true rfl)) ?_)
                                                                          first | (refine dvg rfl rfl rfl (opv_mv rfl) ?_) | (refine dvg rfl rfl rfl (opv_mvt rfl) ?_)
                                                                          refine ddg rfl rfl rfl (opD_call fn29 (opnds_cons rfl (opnds_cons rfl opnds_nil)) rfl (has_c)) ?_
                                                                          refine dvg rfl rfl rfl (opv_not rfl) ?_
                                                                          first | (refine dvg rfl rfl rfl (opv_pick_t rfl rfl) ?_) | (refine dvg rfl rfl rfl (opv_pick_f rfl rfl) ?_)
                                                                          first | (refine dv rfl (opv_pick_t rfl rfl) ?_) | (refine dv rfl (opv_pick_f rfl rfl) ?_)
                                                                          first | (refine dv rfl (opv_as rfl) ?_) | (refine dv rfl (opv_ast rfl) ?_)
                                                                          refine dnil ?_
                                                                          refine then_normal ?_
                                                                          refine cret ?_
                                                                          refine ⟨Or.inr rfl, _, _, _, (resVs_cons (ResV.tmp _ _ rfl) resVs_nil), (pubA_id rfl), ?_⟩
                                                                          first | rfl | (refine avb ?_; simp_all; done)))
                                                              · replace hg66 := bnot_f hg66
                                                                first
                                                                | (exfalso; first | omega | contradiction | (simp_all; done))
                                                                | (
                                                                    first | (refine dvg rfl rfl rfl (opv_loadN ti24 rfl (.lp _ _ _ rfl) (Nat.le_of_ble_eq_true rfl)) ?_) | (refine dvg rfl rfl rfl (opv_loadN ti24 rfl (.cp _) (Nat.le_of_ble_eq_true rfl)) ?_)
                                                                    first | (refine dvg rfl rfl rfl (opv_mv rfl) ?_) | (refine dvg rfl rfl rfl (opv_mvt rfl) ?_)
                                                                    refine ddg rfl rfl rfl (opD_call fn29 (opnds_cons rfl (opnds_cons rfl opnds_nil)) rfl (has_c)) ?_
                                                                    first | (refine dvg rfl rfl rfl (opv_loadN ti24 rfl (.lp _ _ _ rfl) (Nat.le_of_ble_eq_true rfl)) ?_) | (refine dvg rfl rfl rfl (opv_loadN ti24 rfl (.cp _) (Nat.le_of_ble_eq_true rfl)) ?_)
                                                                    first | (refine dvg rfl rfl rfl (opv_mv rfl) ?_) | (refine dvg rfl rfl rfl (opv_mvt rfl) ?_)
                                                                    refine ddg rfl rfl rfl (opD_call fn29 (opnds_cons rfl (opnds_cons rfl opnds_nil)) rfl (has_c)) ?_
                                                                    refine dvg rfl rfl rfl (opv_beql Try.underlying4 rfl rfl) ?_
                                                                    first | (refine dvg rfl rfl rfl (opv_pick_t rfl rfl) ?_) | (refine dvg rfl rfl rfl (opv_pick_f rfl rfl) ?_)
                                                                    first | (refine dv rfl (opv_pick_t rfl rfl) ?_) | (refine dv rfl (opv_pick_f rfl rfl) ?_)
                                                                    first | (refine dv rfl (opv_mv rfl) ?_) | (refine dv rfl (opv_mvt rfl) ?_)
                                                                    refine dsplit 113 rfl (fun hg68 => ?_) (fun hg68 => ?_)
                                                                    · first
                                                                      | (exfalso; first | omega | contradiction | (simp_all; done))
                                                                      | (
                                                                          first | (refine dvg rfl rfl rfl (opv_loadN ti24 rfl (.lp _ _ _ rfl) (Nat.le_of_ble_eq_true rfl)) ?_) | (refine dvg rfl rfl rfl (opv_loadN ti24 rfl (.cp _) (Nat.le_of_ble_eq_true rfl)) ?_)
                                                                          refine ddg rfl rfl rfl (opD_call fn31 (opnds_cons rfl opnds_nil) rfl (empty_c)) ?_
                                                                          refine dvg rfl rfl rfl (opv_not rfl) ?_
                                                                          first | (refine dvg rfl rfl rfl (opv_mv rfl) ?_) | (refine dvg rfl rfl rfl (opv_mvt rfl) ?_)
                                                                          refine dsplit 117 rfl (fun hg69 => ?_) (fun hg69 => ?_)
                                                                          · replace hg69 := bnot_t hg69
                                                                            first
                                                                            | (exfalso; first | omega | contradiction | (simp_all; done))
                                                                            | (
                                                                                refine doff rfl rfl rfl rfl ?_
                                                                                refine doff rfl rfl rfl rfl ?_
                                                                                refine doff rfl rfl rfl rfl ?_
                                                                                refine doff rfl rfl rfl rfl ?_
                                                                                first | (refine dvg rfl rfl rfl (opv_pick_t rfl rfl) ?_) | (refine dvg rfl rfl rfl (opv_pick_f rfl rfl) ?_)
                                                                                first | (refine dv rfl (opv_pick_t rfl rfl) ?_) | (refine dv rfl (opv_pick_f rfl rfl) ?_)
                                                                                first | (refine dv rfl (opv_as rfl) ?_) | (refine dv rfl (opv_ast rfl) ?_)
                                                                                refine dnil ?_
                                                                                refine then_normal ?_
                                                                                refine cret ?_
                                                                                refine ⟨Or.inr rfl, _, _, _, (resVs_cons (ResV.tmp _ _ rfl) resVs_nil), (pubA_id rfl), ?_⟩
                                                                                first | rfl | (refine avb ?_; simp_all; done))
                                                                          · replace hg69 := bnot_f hg69
                                                                            first
                                                                            | (exfalso; first | omega | contradiction | (simp_all; done))
                                                                            | (
                                                                                first | (refine dvg rfl rfl rfl (opv_loadN ti24 rfl (.lp _ _ _ rfl) (Nat.le_of_ble_eq_true rfl)) ?_) | (refine dvg rfl rfl rfl (opv_loadN ti24 rfl (.cp _) (Nat.le_of_ble_eq_true rfl)) ?_)
                                                                                first | (refine dvg rfl rfl rfl (opv_mv rfl) ?_) | (refine dvg rfl rfl rfl (opv_mvt rfl) ?_)
                                                                                refine ddg rfl rfl rfl (opD_call fn29 (opnds_cons rfl (opnds_cons rfl opnds_nil)) rfl (has_c)) ?_
                                                                                refine dvg rfl rfl rfl (opv_not rfl) ?_
                                                                                first | (refine dvg rfl rfl rfl (opv_pick_t rfl rfl) ?_) | (refine dvg rfl rfl rfl (opv_pick_f rfl rfl) ?_)
                                                                                first | (refine dv rfl (opv_pick_t rfl rfl) ?_) | (refine dv rfl (opv_pick_f rfl rfl) ?_)
                                                                                first | (refine dv rfl (opv_as rfl) ?_) | (refine dv rfl (opv_ast rfl) ?_)
                                                                                refine dnil ?_
                                                                                refine then_normal ?_
                                                                                refine cret ?_
                                                                                refine ⟨Or.inr rfl, _, _, _, (resVs_cons (ResV.tmp _ _ rfl) resVs_nil), (pubA_id rfl), ?_⟩
                                                                                first | rfl | (refine avb ?_; simp_all; done)))
                                                                    · first
                                                                      | (exfalso; first | omega | contradiction | (simp_all; done))
                                                                      | (
                                                                          refine doff rfl rfl rfl rfl ?_
                                                                          refine doff rfl rfl rfl rfl ?_
                                                                          refine doff rfl rfl rfl rfl ?_
                                                                          refine doff rfl rfl rfl rfl ?_
                                                                          refine doffu rfl rfl rfl ?_
                                                                          refine doffu rfl rfl rfl ?_
                                                                          refine doffu rfl rfl rfl ?_
                                                                          refine doffu rfl rfl rfl ?_
                                                                          refine doff rfl rfl rfl rfl ?_
                                                                          first | (refine dv rfl (opv_pick_t rfl rfl) ?_) | (refine dv rfl (opv_pick_f rfl rfl) ?_)
                                                                          first | (refine dv rfl (opv_as rfl) ?_) | (refine dv rfl (opv_ast rfl) ?_)
                                                                          refine dnil ?_
                                                                          refine then_normal ?_
                                                                          refine cret ?_
                                                                          refine ⟨Or.inr rfl, _, _, _, (resVs_cons (ResV.tmp _ _ rfl) resVs_nil), (pubA_id rfl), ?_⟩
                                                                          first | rfl | (refine avb ?_; simp_all; done))))
                                                        · first
                                                          | (exfalso; first | omega | contradiction | (simp_all; done))
                                                          | (
                                                              refine doff rfl rfl rfl rfl ?_
                                                              refine doff rfl rfl rfl rfl ?_
                                                              refine doff rfl rfl rfl rfl ?_
                                                              refine doffu rfl rfl rfl ?_
                                                              refine doffu rfl rfl rfl ?_
                                                              refine doffu rfl rfl rfl ?_
                                                              refine doffu rfl rfl rfl ?_
                                                              refine doffu rfl rfl rfl ?_
                                                              refine doffu rfl rfl rfl ?_
                                                              refine doffu rfl rfl rfl ?_
                                                              refine doff rfl rfl rfl rfl ?_
                                                              first | (refine dv rfl (opv_pick_t rfl rfl) ?_) | (refine dv rfl (opv_pick_f rfl rfl) ?_)
                                                              first | (refine dv rfl (opv_mv rfl) ?_) | (refine dv rfl (opv_mvt rfl) ?_)
                                                              refine doff rfl rfl rfl rfl ?_
                                                              refine doff rfl rfl rfl rfl ?_
                                                              refine doff rfl rfl rfl rfl ?_
                                                              refine doff rfl rfl rfl rfl ?_
                                                              refine doffu rfl rfl rfl ?_
                                                              refine doffu rfl rfl rfl ?_
                                                              refine doffu rfl rfl rfl ?_
                                                              refine doffu rfl rfl rfl ?_
                                                              refine doff rfl rfl rfl rfl ?_
                                                              first | (refine dv rfl (opv_pick_t rfl rfl) ?_) | (refine dv rfl (opv_pick_f rfl rfl) ?_)
                                                              first | (refine dv rfl (opv_as rfl) ?_) | (refine dv rfl (opv_ast rfl) ?_)
                                                              refine dnil ?_
                                                              refine then_normal ?_
                                                              refine cret ?_
                                                              refine ⟨Or.inr rfl, _, _, _, (resVs_cons (ResV.tmp _ _ rfl) resVs_nil), (pubA_id rfl), ?_⟩
                                                              first | rfl | (refine avb ?_; simp_all; done)))
                                                  · first
                                                    | (exfalso; first | omega | contradiction | (simp_all; done))
                                                    | (
                                                        refine doff rfl rfl rfl rfl ?_
                                                        refine doff rfl rfl rfl rfl ?_
                                                        refine doff rfl rfl rfl rfl ?_
                                                        refine doff rfl rfl rfl rfl ?_
                                                        refine doff rfl rfl rfl rfl ?_
                                                        first | (refine dv rfl (opv_pick_t rfl rfl) ?_) | (refine dv rfl (opv_pick_f rfl rfl) ?_)
                                                        first | (refine dv rfl (opv_mv rfl) ?_) | (refine dv rfl (opv_mvt rfl) ?_)
                                                        refine doff rfl rfl rfl rfl ?_
                                                        refine doff rfl rfl rfl rfl ?_
                                                        refine doff rfl rfl rfl rfl ?_
                                                        refine doffu rfl rfl rfl ?_
                                                        refine doffu rfl rfl rfl ?_
                                                        refine doffu rfl rfl rfl ?_
                                                        refine doffu rfl rfl rfl ?_
                                                        refine doffu rfl rfl rfl ?_
                                                        refine doffu rfl rfl rfl ?_
                                                        refine doffu rfl rfl rfl ?_
                                                        refine doff rfl rfl rfl rfl ?_
                                                        first | (refine dv rfl (opv_pick_t rfl rfl) ?_) | (refine dv rfl (opv_pick_f rfl rfl) ?_)
                                                        first | (refine dv rfl (opv_mv rfl) ?_) | (refine dv rfl (opv_mvt rfl) ?_)
                                                        refine doff rfl rfl rfl rfl ?_
                                                        refine doff rfl rfl rfl rfl ?_
                                                        refine doff rfl rfl rfl rfl ?_
                                                        refine doff rfl rfl rfl rfl ?_
                                                        refine doffu rfl rfl rfl ?_
                                                        refine doffu rfl rfl rfl ?_
                                                        refine doffu rfl rfl rfl ?_
                                                        refine doffu rfl rfl rfl ?_
                                                        refine doff rfl rfl rfl rfl ?_
                                                        first | (refine dv rfl (opv_pick_t rfl rfl) ?_) | (refine dv rfl (opv_pick_f rfl rfl) ?_)
                                                        first | (refine dv rfl (opv_as rfl) ?_) | (refine dv rfl (opv_ast rfl) ?_)
                                                        refine dnil ?_
                                                        refine then_normal ?_
                                                        refine cret ?_
                                                        refine ⟨Or.inr rfl, _, _, _, (resVs_cons (ResV.tmp _ _ rfl) resVs_nil), (pubA_id rfl), ?_⟩
                                                        first | rfl | (refine avb ?_; simp_all; done))))))))))

end Go.Proofs.Ytiadgkkebmclgaa.Abs
