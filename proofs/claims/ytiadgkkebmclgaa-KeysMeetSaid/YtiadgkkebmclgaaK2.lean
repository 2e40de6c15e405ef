/-
  KeysBetween: the walk
-/
import Derived.Test.YtiadgkkebmclgaaK1
namespace Go.Proofs.Ytiadgkkebmclgaa.Abs
open Go.RowKit Go.Proofs
set_option maxRecDepth 100000

theorem fn10 : FnI Try.prog 10 := ⟨⟨_, Try.func10, by kernel_rfl, by kernel_rfl⟩⟩
theorem fn11 : FnI Try.prog 11 := ⟨⟨_, Try.func11, by kernel_rfl, by kernel_rfl⟩⟩

theorem keysBetween_c {lo hi a b c : List UInt8} {o : Bool} : CallsA Try.prog 8 [rsv lo hi o, .one (bsv a), .one (bsv b), .one (bsv c)] (· = .s (.one (.b true))) := by
  refine callsA_of Try.func8 rfl (nt := 86) rfl (Nat.le_of_ble_eq_true rfl) ?_
  intro w0 S0
  refine cseq ?_
  refine cregion ?_
  refine sbox rfl rfl ?_
  first | (refine sv rfl (opv_as rfl) ?_) | (refine sv rfl (opv_ast rfl) ?_)
  refine snil ?_
  refine cseq ?_
  refine cregion ?_
  refine scall1 rfl fn10 opnds_nil (pubA_id rfl) (awake_c) ?_
  first | (refine sv rfl (opv_as rfl) ?_) | (refine sv rfl (opv_ast rfl) ?_)
  refine snil ?_
  refine cseq ?_
  refine cseq ?_
  refine cregion ?_
  first | (refine sv rfl (opv_loadN ti24 rfl (.lp _ _ _ rfl) (Nat.le_of_ble_eq_true rfl)) ?_) | (refine sv rfl (opv_loadN ti24 rfl (.cp _) (Nat.le_of_ble_eq_true rfl)) ?_)
  refine scall1 rfl fn11 (opnds_cons rfl opnds_nil) (pubC rfl) (short_c) ?_
  refine sv rfl (opv_not rfl) ?_
  first | (refine sv rfl (opv_mv rfl) ?_) | (refine sv rfl (opv_mvt rfl) ?_)
  refine ssplit 14 rfl (fun hg1 => ?_) (fun hg1 => ?_)
  · replace hg1 := bnot_t hg1
    first
    | (exfalso; first | omega | contradiction)
    | (
        refine soff rfl rfl rfl rfl ?_
        refine soff rfl rfl rfl rfl ?_
        refine soff rfl rfl rfl rfl ?_
        first | (refine sv rfl (opv_pick_t rfl rfl) ?_) | (refine sv rfl (opv_pick_f rfl rfl) ?_)
        first | (refine sv rfl (opv_mv rfl) ?_) | (refine sv rfl (opv_mvt rfl) ?_)
        refine soff rfl rfl rfl rfl ?_
        refine soff rfl rfl rfl rfl ?_
        refine soff rfl rfl rfl rfl ?_
        first | (refine sv rfl (opv_pick_t rfl rfl) ?_) | (refine sv rfl (opv_pick_f rfl rfl) ?_)
        first | (refine sv rfl (opv_mv rfl) ?_) | (refine sv rfl (opv_mvt rfl) ?_)
        refine soff rfl rfl rfl rfl ?_
        refine soff rfl rfl rfl rfl ?_
        refine soff rfl rfl rfl rfl ?_
        first | (refine sv rfl (opv_pick_t rfl rfl) ?_) | (refine sv rfl (opv_pick_f rfl rfl) ?_)
        refine snil ?_
        refine ccond rfl (fun _ => ?_) (fun hx => Bool.noConfusion hx)
        refine cseq ?_
        refine cregion ?_
        first | (refine sv rfl (opv_mv rfl) ?_) | (refine sv rfl (opv_mvt rfl) ?_)
        first | (refine sv rfl (opv_as rfl) ?_) | (refine sv rfl (opv_ast rfl) ?_)
        refine snil ?_
        refine cret ?_
        refine then_ret ?_
        refine ⟨Or.inr rfl, _, _, _, (resVs_cons (ResV.tmp _ _ rfl) resVs_nil), (pubA_id rfl), ?_⟩
        first | rfl | exact avb (decide_eq_true (has_lo (hi := hi) (o := o) (by assumption))) | (have e := has_between (lo := lo) (hi := hi) (o := o) (a := a) (b := b) (c := c) (by assumption) (by assumption) (by assumption) (by assumption); simp_all; done) | (have e := empty_has (lo := lo) (hi := hi) (o := o) (k := a) (by assumption) (ne_nil_of (by assumption)); simp_all; done) | (exfalso; simp_all; done))
  · replace hg1 := bnot_f hg1
    first
    | (exfalso; first | omega | contradiction)
    | (
        refine son rfl rfl rfl ?_
        first | (refine sv rfl (opv_mv rfl) ?_) | (refine sv rfl (opv_mvt rfl) ?_)
        refine son rfl rfl rfl ?_
        first | (refine sv rfl (opv_len_sl si22 rfl) ?_) | (refine sv rfl (opv_len_nil si22 rfl) ?_) | (refine sv rfl (opv_len_ls si22 rfl rfl (by first | rfl | omega)) ?_)
        refine son rfl rfl rfl ?_
        refine sv rfl (opv_gtr rfl rfl) ?_
        first | (refine sv rfl (opv_pick_t rfl rfl) ?_) | (refine sv rfl (opv_pick_f rfl rfl) ?_)
        first | (refine sv rfl (opv_mv rfl) ?_) | (refine sv rfl (opv_mvt rfl) ?_)
        refine ssplit 19 rfl (fun hg2 => ?_) (fun hg2 => ?_)
        · replace hg2 := of_decide_eq_true hg2
          first
          | (exfalso; first | omega | contradiction)
          | (
              refine soff rfl rfl rfl rfl ?_
              refine soff rfl rfl rfl rfl ?_
              refine soff rfl rfl rfl rfl ?_
              first | (refine sv rfl (opv_pick_t rfl rfl) ?_) | (refine sv rfl (opv_pick_f rfl rfl) ?_)
              first | (refine sv rfl (opv_mv rfl) ?_) | (refine sv rfl (opv_mvt rfl) ?_)
              refine soff rfl rfl rfl rfl ?_
              refine soff rfl rfl rfl rfl ?_
              refine soff rfl rfl rfl rfl ?_
              first | (refine sv rfl (opv_pick_t rfl rfl) ?_) | (refine sv rfl (opv_pick_f rfl rfl) ?_)
              refine snil ?_
              refine ccond rfl (fun _ => ?_) (fun hx => Bool.noConfusion hx)
              refine cseq ?_
              refine cregion ?_
              first | (refine sv rfl (opv_mv rfl) ?_) | (refine sv rfl (opv_mvt rfl) ?_)
              first | (refine sv rfl (opv_as rfl) ?_) | (refine sv rfl (opv_ast rfl) ?_)
              refine snil ?_
              refine cret ?_
              refine then_ret ?_
              refine ⟨Or.inr rfl, _, _, _, (resVs_cons (ResV.tmp _ _ rfl) resVs_nil), (pubA_id rfl), ?_⟩
              first | rfl | exact avb (decide_eq_true (has_lo (hi := hi) (o := o) (by assumption))) | (have e := has_between (lo := lo) (hi := hi) (o := o) (a := a) (b := b) (c := c) (by assumption) (by assumption) (by assumption) (by assumption); simp_all; done) | (have e := empty_has (lo := lo) (hi := hi) (o := o) (k := a) (by assumption) (ne_nil_of (by assumption)); simp_all; done) | (exfalso; simp_all; done))
        · replace hg2 := of_decide_eq_false hg2
          first
          | (exfalso; first | omega | contradiction)
          | (
              refine son rfl rfl rfl ?_
              first | (refine sv rfl (opv_mv rfl) ?_) | (refine sv rfl (opv_mvt rfl) ?_)
              refine son rfl rfl rfl ?_
              first | (refine sv rfl (opv_len_sl si22 rfl) ?_) | (refine sv rfl (opv_len_nil si22 rfl) ?_) | (refine sv rfl (opv_len_ls si22 rfl rfl (by first | rfl | omega)) ?_)
              refine son rfl rfl rfl ?_
              refine sv rfl (opv_gtr rfl rfl) ?_
              first | (refine sv rfl (opv_pick_t rfl rfl) ?_) | (refine sv rfl (opv_pick_f rfl rfl) ?_)
              first | (refine sv rfl (opv_mv rfl) ?_) | (refine sv rfl (opv_mvt rfl) ?_)
              refine ssplit 24 rfl (fun hg3 => ?_) (fun hg3 => ?_)
              · replace hg3 := of_decide_eq_true hg3
                first
                | (exfalso; first | omega | contradiction)
                | (
                    refine soff rfl rfl rfl rfl ?_
                    refine soff rfl rfl rfl rfl ?_
                    refine soff rfl rfl rfl rfl ?_
                    first | (refine sv rfl (opv_pick_t rfl rfl) ?_) | (refine sv rfl (opv_pick_f rfl rfl) ?_)
                    refine snil ?_
                    refine ccond rfl (fun _ => ?_) (fun hx => Bool.noConfusion hx)
                    refine cseq ?_
                    refine cregion ?_
                    first | (refine sv rfl (opv_mv rfl) ?_) | (refine sv rfl (opv_mvt rfl) ?_)
                    first | (refine sv rfl (opv_as rfl) ?_) | (refine sv rfl (opv_ast rfl) ?_)
                    refine snil ?_
                    refine cret ?_
                    refine then_ret ?_
                    refine ⟨Or.inr rfl, _, _, _, (resVs_cons (ResV.tmp _ _ rfl) resVs_nil), (pubA_id rfl), ?_⟩
                    first | rfl | exact avb (decide_eq_true (has_lo (hi := hi) (o := o) (by assumption))) | (have e := has_between (lo := lo) (hi := hi) (o := o) (a := a) (b := b) (c := c) (by assumption) (by assumption) (by assumption) (by assumption); simp_all; done) | (have e := empty_has (lo := lo) (hi := hi) (o := o) (k := a) (by assumption) (ne_nil_of (by assumption)); simp_all; done) | (exfalso; simp_all; done))
              · replace hg3 := of_decide_eq_false hg3
                first
                | (exfalso; first | omega | contradiction)
                | (
                    refine son rfl rfl rfl ?_
                    first | (refine sv rfl (opv_mv rfl) ?_) | (refine sv rfl (opv_mvt rfl) ?_)
                    refine son rfl rfl rfl ?_
                    first | (refine sv rfl (opv_len_sl si22 rfl) ?_) | (refine sv rfl (opv_len_nil si22 rfl) ?_) | (refine sv rfl (opv_len_ls si22 rfl rfl (by first | rfl | omega)) ?_)
                    refine son rfl rfl rfl ?_
                    refine sv rfl (opv_gtr rfl rfl) ?_
                    first | (refine sv rfl (opv_pick_t rfl rfl) ?_) | (refine sv rfl (opv_pick_f rfl rfl) ?_)
                    refine snil ?_
                    refine ccond rfl (fun hc4 => ?_) (fun hc4 => ?_)
                    · replace hc4 := of_decide_eq_true hc4
                      first
                      | (exfalso; first | omega | contradiction)
                      | (
                          refine cseq ?_
                          refine cregion ?_
                          first | (refine sv rfl (opv_mv rfl) ?_) | (refine sv rfl (opv_mvt rfl) ?_)
                          first | (refine sv rfl (opv_as rfl) ?_) | (refine sv rfl (opv_ast rfl) ?_)
                          refine snil ?_
                          refine cret ?_
                          refine then_ret ?_
                          refine ⟨Or.inr rfl, _, _, _, (resVs_cons (ResV.tmp _ _ rfl) resVs_nil), (pubA_id rfl), ?_⟩
                          first | rfl | exact avb (decide_eq_true (has_lo (hi := hi) (o := o) (by assumption))) | (have e := has_between (lo := lo) (hi := hi) (o := o) (a := a) (b := b) (c := c) (by assumption) (by assumption) (by assumption) (by assumption); simp_all; done) | (have e := empty_has (lo := lo) (hi := hi) (o := o) (k := a) (by assumption) (ne_nil_of (by assumption)); simp_all; done) | (exfalso; simp_all; done))
                    · replace hc4 := of_decide_eq_false hc4
                      first
                      | (exfalso; first | omega | contradiction)
                      | (
                          refine cskip ?_
                          refine then_normal ?_
                          refine cseq ?_
                          refine cseq ?_
                          refine cregion ?_
                          first | (refine sv rfl (opv_loadN ti24 rfl (.lp _ _ _ rfl) (Nat.le_of_ble_eq_true rfl)) ?_) | (refine sv rfl (opv_loadN ti24 rfl (.cp _) (Nat.le_of_ble_eq_true rfl)) ?_)
                          first | (refine sv rfl (opv_mv rfl) ?_) | (refine sv rfl (opv_mvt rfl) ?_)
                          refine scall1 rfl fn29 (opnds_cons rfl (opnds_cons rfl opnds_nil)) (pubC rfl) (has_c) ?_
                          first | (refine sv rfl (opv_mv rfl) ?_) | (refine sv rfl (opv_mvt rfl) ?_)
                          refine ssplit 33 rfl (fun hg5 => ?_) (fun hg5 => ?_)
                          · first
                            | (exfalso; first | omega | contradiction)
                            | (
                                refine son rfl rfl rfl ?_
                                first | (refine sv rfl (opv_loadN ti24 rfl (.lp _ _ _ rfl) (Nat.le_of_ble_eq_true rfl)) ?_) | (refine sv rfl (opv_loadN ti24 rfl (.cp _) (Nat.le_of_ble_eq_true rfl)) ?_)
                                refine son rfl rfl rfl ?_
                                first | (refine sv rfl (opv_mv rfl) ?_) | (refine sv rfl (opv_mvt rfl) ?_)
                                refine son rfl rfl rfl ?_
                                refine scall1 rfl fn29 (opnds_cons rfl (opnds_cons rfl opnds_nil)) (pubC rfl) (has_c) ?_
                                first | (refine sv rfl (opv_pick_t rfl rfl) ?_) | (refine sv rfl (opv_pick_f rfl rfl) ?_)
                                first | (refine sv rfl (opv_mv rfl) ?_) | (refine sv rfl (opv_mvt rfl) ?_)
                                refine ssplit 38 rfl (fun hg6 => ?_) (fun hg6 => ?_)
                                · first
                                  | (exfalso; first | omega | contradiction)
                                  | (
                                      refine son rfl rfl rfl ?_
                                      first | (refine sv rfl (opv_mv rfl) ?_) | (refine sv rfl (opv_mvt rfl) ?_)
                                      refine son rfl rfl rfl ?_
                                      first | (refine sv rfl (opv_mv rfl) ?_) | (refine sv rfl (opv_mvt rfl) ?_)
                                      refine son rfl rfl rfl ?_
                                      refine scall1 rfl fn23 (opnds_cons rfl (opnds_cons rfl opnds_nil)) (pubC rfl) (cmp_c) ?_
                                      refine son rfl rfl rfl ?_
                                      refine sv rfl (opv_leq rfl rfl) ?_
                                      first | (refine sv rfl (opv_pick_t rfl rfl) ?_) | (refine sv rfl (opv_pick_f rfl rfl) ?_)
                                      first | (refine sv rfl (opv_mv rfl) ?_) | (refine sv rfl (opv_mvt rfl) ?_)
                                      refine ssplit 44 rfl (fun hg7 => ?_) (fun hg7 => ?_)
                                      · replace hg7 := of_decide_eq_true hg7
                                        first
                                        | (exfalso; first | omega | contradiction)
                                        | (
                                            refine son rfl rfl rfl ?_
                                            first | (refine sv rfl (opv_mv rfl) ?_) | (refine sv rfl (opv_mvt rfl) ?_)
                                            refine son rfl rfl rfl ?_
                                            first | (refine sv rfl (opv_mv rfl) ?_) | (refine sv rfl (opv_mvt rfl) ?_)
                                            refine son rfl rfl rfl ?_
                                            refine scall1 rfl fn23 (opnds_cons rfl (opnds_cons rfl opnds_nil)) (pubC rfl) (cmp_c) ?_
                                            refine son rfl rfl rfl ?_
                                            refine sv rfl (opv_leq rfl rfl) ?_
                                            first | (refine sv rfl (opv_pick_t rfl rfl) ?_) | (refine sv rfl (opv_pick_f rfl rfl) ?_)
                                            first | (refine sv rfl (opv_mv rfl) ?_) | (refine sv rfl (opv_mvt rfl) ?_)
                                            refine ssplit 50 rfl (fun hg8 => ?_) (fun hg8 => ?_)
                                            · replace hg8 := of_decide_eq_true hg8
                                              first
                                              | (exfalso; first | omega | contradiction)
                                              | (
                                                  refine son rfl rfl rfl ?_
                                                  first | (refine sv rfl (opv_loadN ti24 rfl (.lp _ _ _ rfl) (Nat.le_of_ble_eq_true rfl)) ?_) | (refine sv rfl (opv_loadN ti24 rfl (.cp _) (Nat.le_of_ble_eq_true rfl)) ?_)
                                                  refine son rfl rfl rfl ?_
                                                  first | (refine sv rfl (opv_mv rfl) ?_) | (refine sv rfl (opv_mvt rfl) ?_)
                                                  refine son rfl rfl rfl ?_
                                                  refine scall1 rfl fn29 (opnds_cons rfl (opnds_cons rfl opnds_nil)) (pubC rfl) (has_c) ?_
                                                  refine son rfl rfl rfl ?_
                                                  refine sv rfl (opv_not rfl) ?_
                                                  first | (refine sv rfl (opv_pick_t rfl rfl) ?_) | (refine sv rfl (opv_pick_f rfl rfl) ?_)
                                                  refine snil ?_
                                                  refine ccond rfl (fun hc9 => ?_) (fun hc9 => ?_)
                                                  · replace hc9 := bnot_t hc9
                                                    first
                                                    | (exfalso; first | omega | contradiction)
                                                    | (
                                                        refine cseq ?_
                                                        refine cregion ?_
                                                        first | (refine sv rfl (opv_as rfl) ?_) | (refine sv rfl (opv_ast rfl) ?_)
                                                        refine snil ?_
                                                        refine cret ?_
                                                        refine then_ret ?_
                                                        refine ⟨Or.inr rfl, _, _, _, (resVs_cons (ResV.tmp _ _ rfl) resVs_nil), (pubA_id rfl), ?_⟩
                                                        first | rfl | exact avb (decide_eq_true (has_lo (hi := hi) (o := o) (by assumption))) | (have e := has_between (lo := lo) (hi := hi) (o := o) (a := a) (b := b) (c := c) (by assumption) (by assumption) (by assumption) (by assumption); simp_all; done) | (have e := empty_has (lo := lo) (hi := hi) (o := o) (k := a) (by assumption) (ne_nil_of (by assumption)); simp_all; done) | (exfalso; simp_all; done))
                                                  · replace hc9 := bnot_f hc9
                                                    first
                                                    | (exfalso; first | omega | contradiction)
                                                    | (
                                                        refine cskip ?_
                                                        refine then_normal ?_
                                                        refine cseq ?_
                                                        refine cregion ?_
                                                        first | (refine sv rfl (opv_mv rfl) ?_) | (refine sv rfl (opv_mvt rfl) ?_)
                                                        first | (refine sv rfl (opv_mv rfl) ?_) | (refine sv rfl (opv_mvt rfl) ?_)
                                                        refine ssplit 57 rfl (fun hg10 => ?_) (fun hg10 => ?_)
                                                        · first
                                                          | (exfalso; first | omega | contradiction)
                                                          | (
                                                              refine son rfl rfl rfl ?_
                                                              first | (refine sv rfl (opv_loadN ti24 rfl (.lp _ _ _ rfl) (Nat.le_of_ble_eq_true rfl)) ?_) | (refine sv rfl (opv_loadN ti24 rfl (.cp _) (Nat.le_of_ble_eq_true rfl)) ?_)
                                                              refine son rfl rfl rfl ?_
                                                              refine scall1 rfl fn31 (opnds_cons rfl opnds_nil) (pubC rfl) (empty_c) ?_
                                                              refine son rfl rfl rfl ?_
                                                              refine sv rfl (opv_not rfl) ?_
                                                              refine son rfl rfl rfl ?_
                                                              first | (refine sv rfl (opv_mv rfl) ?_) | (refine sv rfl (opv_mvt rfl) ?_)
                                                              refine ssplit 61 rfl (fun hg11 => ?_) (fun hg11 => ?_)
                                                              · replace hg11 := bnot_t hg11
                                                                first
                                                                | (exfalso; first | omega | contradiction)
                                                                | (
                                                                    refine soff rfl rfl rfl rfl ?_
                                                                    refine soff rfl rfl rfl rfl ?_
                                                                    refine soff rfl rfl rfl rfl ?_
                                                                    refine son rfl rfl rfl ?_
                                                                    first | (refine sv rfl (opv_pick_t rfl rfl) ?_) | (refine sv rfl (opv_pick_f rfl rfl) ?_)
                                                                    refine son rfl rfl rfl ?_
                                                                    first | (refine sv rfl (opv_mv rfl) ?_) | (refine sv rfl (opv_mvt rfl) ?_)
                                                                    refine soff rfl rfl rfl rfl ?_
                                                                    refine soff rfl rfl rfl rfl ?_
                                                                    refine soff rfl rfl rfl rfl ?_
                                                                    refine soff rfl rfl rfl rfl ?_
                                                                    refine son rfl rfl rfl ?_
                                                                    first | (refine sv rfl (opv_pick_t rfl rfl) ?_) | (refine sv rfl (opv_pick_f rfl rfl) ?_)
                                                                    first | (refine sv rfl (opv_pick_t rfl rfl) ?_) | (refine sv rfl (opv_pick_f rfl rfl) ?_)
                                                                    first | (refine sv rfl (opv_mv rfl) ?_) | (refine sv rfl (opv_mvt rfl) ?_)
                                                                    refine son rfl rfl rfl ?_
                                                                    first | (refine sv rfl (opv_loadN ti24 rfl (.lp _ _ _ rfl) (Nat.le_of_ble_eq_true rfl)) ?_) | (refine sv rfl (opv_loadN ti24 rfl (.cp _) (Nat.le_of_ble_eq_true rfl)) ?_)
                                                                    refine son rfl rfl rfl ?_
                                                                    first | (refine sv rfl (opv_mv rfl) ?_) | (refine sv rfl (opv_mvt rfl) ?_)
                                                                    refine son rfl rfl rfl ?_
                                                                    refine scall1 rfl fn29 (opnds_cons rfl (opnds_cons rfl opnds_nil)) (pubC rfl) (has_c) ?_
                                                                    refine son rfl rfl rfl ?_
                                                                    refine sv rfl (opv_not rfl) ?_
                                                                    refine son rfl rfl rfl ?_
                                                                    first | (refine sv rfl (opv_mv rfl) ?_) | (refine sv rfl (opv_mvt rfl) ?_)
                                                                    refine ssplit 78 rfl (fun hg12 => ?_) (fun hg12 => ?_)
                                                                    · replace hg12 := bnot_t hg12
                                                                      first
                                                                      | (exfalso; first | omega | contradiction)
                                                                      | (
                                                                          refine soff rfl rfl rfl rfl ?_
                                                                          refine soff rfl rfl rfl rfl ?_
                                                                          refine soff rfl rfl rfl rfl ?_
                                                                          refine soff rfl rfl rfl rfl ?_
                                                                          refine soff rfl rfl rfl rfl ?_
                                                                          refine son rfl rfl rfl ?_
                                                                          first | (refine sv rfl (opv_pick_t rfl rfl) ?_) | (refine sv rfl (opv_pick_f rfl rfl) ?_)
                                                                          first | (refine sv rfl (opv_pick_t rfl rfl) ?_) | (refine sv rfl (opv_pick_f rfl rfl) ?_)
                                                                          first | (refine sv rfl (opv_as rfl) ?_) | (refine sv rfl (opv_ast rfl) ?_)
                                                                          refine snil ?_
                                                                          refine cret ?_
                                                                          refine ⟨Or.inr rfl, _, _, _, (resVs_cons (ResV.tmp _ _ rfl) resVs_nil), (pubA_id rfl), ?_⟩
                                                                          first | rfl | exact avb (decide_eq_true (has_lo (hi := hi) (o := o) (by assumption))) | (have e := has_between (lo := lo) (hi := hi) (o := o) (a := a) (b := b) (c := c) (by assumption) (by assumption) (by assumption) (by assumption); simp_all; done) | (have e := empty_has (lo := lo) (hi := hi) (o := o) (k := a) (by assumption) (ne_nil_of (by assumption)); simp_all; done) | (exfalso; simp_all; done))
                                                                    · replace hg12 := bnot_f hg12
                                                                      first
                                                                      | (exfalso; first | omega | contradiction)
                                                                      | (
                                                                          refine son rfl rfl rfl ?_
                                                                          first | (refine sv rfl (opv_mv rfl) ?_) | (refine sv rfl (opv_mvt rfl) ?_)
                                                                          refine son rfl rfl rfl ?_
                                                                          first | (refine sv rfl (opv_fieldAddr_lp fi24_0 rfl) ?_) | (refine sv rfl (opv_fieldAddr_cp fi24_0 rfl) ?_) | (refine sv rfl (opv_fieldAddr_ap fi24_0 rfl rfl (by first | rfl | omega)) ?_)
                                                                          refine son rfl rfl rfl ?_
                                                                          first | (refine sv rfl (opv_load1 ti22 rfl (.lp _ _ _ rfl) rfl) ?_) | (refine sv rfl (opv_load1 ti22 rfl (.cp _) rfl) ?_) | (refine sv rfl (opv_load1 ti22 rfl (.ap _ _ _ _ _ _ _ rfl (by first | rfl | omega)) rfl) ?_)
                                                                          refine son rfl rfl rfl ?_
                                                                          refine scall1 rfl fn23 (opnds_cons rfl (opnds_cons rfl opnds_nil)) (pubC rfl) (cmp_c) ?_
                                                                          refine son rfl rfl rfl ?_
                                                                          refine sv rfl (opv_geq rfl rfl) ?_
                                                                          refine son rfl rfl rfl ?_
                                                                          first | (refine sv rfl (opv_pick_t rfl rfl) ?_) | (refine sv rfl (opv_pick_f rfl rfl) ?_)
                                                                          first | (refine sv rfl (opv_pick_t rfl rfl) ?_) | (refine sv rfl (opv_pick_f rfl rfl) ?_)
                                                                          first | (refine sv rfl (opv_as rfl) ?_) | (refine sv rfl (opv_ast rfl) ?_)
                                                                          refine snil ?_
                                                                          refine cret ?_
                                                                          refine ⟨Or.inr rfl, _, _, _, (resVs_cons (ResV.tmp _ _ rfl) resVs_nil), (pubA_id rfl), ?_⟩
                                                                          first | rfl | exact avb (decide_eq_true (has_lo (hi := hi) (o := o) (by assumption))) | (have e := has_between (lo := lo) (hi := hi) (o := o) (a := a) (b := b) (c := c) (by assumption) (by assumption) (by assumption) (by assumption); simp_all; done) | (have e := empty_has (lo := lo) (hi := hi) (o := o) (k := a) (by assumption) (ne_nil_of (by assumption)); simp_all; done) | (exfalso; simp_all; done)))
                                                              · replace hg11 := bnot_f hg11
                                                                first
                                                                | (exfalso; first | omega | contradiction)
                                                                | (
                                                                    refine son rfl rfl rfl ?_
                                                                    first | (refine sv rfl (opv_mv rfl) ?_) | (refine sv rfl (opv_mvt rfl) ?_)
                                                                    refine son rfl rfl rfl ?_
                                                                    first | (refine sv rfl (opv_len_sl si22 rfl) ?_) | (refine sv rfl (opv_len_nil si22 rfl) ?_) | (refine sv rfl (opv_len_ls si22 rfl rfl (by first | rfl | omega)) ?_)
                                                                    refine son rfl rfl rfl ?_
                                                                    refine sv rfl (opv_ieql rfl rfl) ?_
                                                                    refine son rfl rfl rfl ?_
                                                                    first | (refine sv rfl (opv_pick_t rfl rfl) ?_) | (refine sv rfl (opv_pick_f rfl rfl) ?_)
                                                                    refine son rfl rfl rfl ?_
                                                                    first | (refine sv rfl (opv_mv rfl) ?_) | (refine sv rfl (opv_mvt rfl) ?_)
                                                                    refine ssplit 66 rfl (fun hg13 => ?_) (fun hg13 => ?_)
                                                                    · replace hg13 := of_decide_eq_true hg13
                                                                      first
                                                                      | (exfalso; first | omega | contradiction)
                                                                      | (
                                                                          refine soff rfl rfl rfl rfl ?_
                                                                          refine soff rfl rfl rfl rfl ?_
                                                                          refine soff rfl rfl rfl rfl ?_
                                                                          refine soff rfl rfl rfl rfl ?_
                                                                          refine son rfl rfl rfl ?_
                                                                          first | (refine sv rfl (opv_pick_t rfl rfl) ?_) | (refine sv rfl (opv_pick_f rfl rfl) ?_)
                                                                          first | (refine sv rfl (opv_pick_t rfl rfl) ?_) | (refine sv rfl (opv_pick_f rfl rfl) ?_)
                                                                          first | (refine sv rfl (opv_mv rfl) ?_) | (refine sv rfl (opv_mvt rfl) ?_)
                                                                          refine son rfl rfl rfl ?_
                                                                          first | (refine sv rfl (opv_loadN ti24 rfl (.lp _ _ _ rfl) (Nat.le_of_ble_eq_true rfl)) ?_) | (refine sv rfl (opv_loadN ti24 rfl (.cp _) (Nat.le_of_ble_eq_true rfl)) ?_)
                                                                          refine son rfl rfl rfl ?_
                                                                          first | (refine sv rfl (opv_mv rfl) ?_) | (refine sv rfl (opv_mvt rfl) ?_)
                                                                          refine son rfl rfl rfl ?_
                                                                          refine scall1 rfl fn29 (opnds_cons rfl (opnds_cons rfl opnds_nil)) (pubC rfl) (has_c) ?_
                                                                          refine son rfl rfl rfl ?_
                                                                          refine sv rfl (opv_not rfl) ?_
                                                                          refine son rfl rfl rfl ?_
                                                                          first | (refine sv rfl (opv_mv rfl) ?_) | (refine sv rfl (opv_mvt rfl) ?_)
                                                                          refine ssplit 78 rfl (fun hg14 => ?_) (fun hg14 => ?_)
                                                                          · replace hg14 := bnot_t hg14
                                                                            first
                                                                            | (exfalso; first | omega | contradiction)
                                                                            | (
                                                                                refine soff rfl rfl rfl rfl ?_
                                                                                refine soff rfl rfl rfl rfl ?_
                                                                                refine soff rfl rfl rfl rfl ?_
                                                                                refine soff rfl rfl rfl rfl ?_
                                                                                refine soff rfl rfl rfl rfl ?_
                                                                                refine son rfl rfl rfl ?_
                                                                                first | (refine sv rfl (opv_pick_t rfl rfl) ?_) | (refine sv rfl (opv_pick_f rfl rfl) ?_)
                                                                                first | (refine sv rfl (opv_pick_t rfl rfl) ?_) | (refine sv rfl (opv_pick_f rfl rfl) ?_)
                                                                                first | (refine sv rfl (opv_as rfl) ?_) | (refine sv rfl (opv_ast rfl) ?_)
                                                                                refine snil ?_
                                                                                refine cret ?_
                                                                                refine ⟨Or.inr rfl, _, _, _, (resVs_cons (ResV.tmp _ _ rfl) resVs_nil), (pubA_id rfl), ?_⟩
                                                                                first | rfl | exact avb (decide_eq_true (has_lo (hi := hi) (o := o) (by assumption))) | (have e := has_between (lo := lo) (hi := hi) (o := o) (a := a) (b := b) (c := c) (by assumption) (by assumption) (by assumption) (by assumption); simp_all; done) | (have e := empty_has (lo := lo) (hi := hi) (o := o) (k := a) (by assumption) (ne_nil_of (by assumption)); simp_all; done) | (exfalso; simp_all; done))
                                                                          · replace hg14 := bnot_f hg14
                                                                            first
                                                                            | (exfalso; first | omega | contradiction)
                                                                            | (
                                                                                refine son rfl rfl rfl ?_
                                                                                first | (refine sv rfl (opv_mv rfl) ?_) | (refine sv rfl (opv_mvt rfl) ?_)
                                                                                refine son rfl rfl rfl ?_
                                                                                first | (refine sv rfl (opv_fieldAddr_lp fi24_0 rfl) ?_) | (refine sv rfl (opv_fieldAddr_cp fi24_0 rfl) ?_) | (refine sv rfl (opv_fieldAddr_ap fi24_0 rfl rfl (by first | rfl | omega)) ?_)
                                                                                refine son rfl rfl rfl ?_
                                                                                first | (refine sv rfl (opv_load1 ti22 rfl (.lp _ _ _ rfl) rfl) ?_) | (refine sv rfl (opv_load1 ti22 rfl (.cp _) rfl) ?_) | (refine sv rfl (opv_load1 ti22 rfl (.ap _ _ _ _ _ _ _ rfl (by first | rfl | omega)) rfl) ?_)
                                                                                refine son rfl rfl rfl ?_
                                                                                refine scall1 rfl fn23 (opnds_cons rfl (opnds_cons rfl opnds_nil)) (pubC rfl) (cmp_c) ?_
                                                                                refine son rfl rfl rfl ?_
                                                                                refine sv rfl (opv_geq rfl rfl) ?_
                                                                                refine son rfl rfl rfl ?_
                                                                                first | (refine sv rfl (opv_pick_t rfl rfl) ?_) | (refine sv rfl (opv_pick_f rfl rfl) ?_)
                                                                                first | (refine sv rfl (opv_pick_t rfl rfl) ?_) | (refine sv rfl (opv_pick_f rfl rfl) ?_)
                                                                                first | (refine sv rfl (opv_as rfl) ?_) | (refine sv rfl (opv_ast rfl) ?_)
                                                                                refine snil ?_
                                                                                refine cret ?_
                                                                                refine ⟨Or.inr rfl, _, _, _, (resVs_cons (ResV.tmp _ _ rfl) resVs_nil), (pubA_id rfl), ?_⟩
                                                                                first | rfl | exact avb (decide_eq_true (has_lo (hi := hi) (o := o) (by assumption))) | (have e := has_between (lo := lo) (hi := hi) (o := o) (a := a) (b := b) (c := c) (by assumption) (by assumption) (by assumption) (by assumption); simp_all; done) | (have e := empty_has (lo := lo) (hi := hi) (o := o) (k := a) (by assumption) (ne_nil_of (by assumption)); simp_all; done) | (exfalso; simp_all; done)))
                                                                    · replace hg13 := of_decide_eq_false hg13
                                                                      first
                                                                      | (exfalso; first | omega | contradiction)
                                                                      | (
                                                                          refine son rfl rfl rfl ?_
                                                                          first | (refine sv rfl (opv_loadN ti24 rfl (.lp _ _ _ rfl) (Nat.le_of_ble_eq_true rfl)) ?_) | (refine sv rfl (opv_loadN ti24 rfl (.cp _) (Nat.le_of_ble_eq_true rfl)) ?_)
                                                                          refine son rfl rfl rfl ?_
                                                                          first | (refine sv rfl (opv_mv rfl) ?_) | (refine sv rfl (opv_mvt rfl) ?_)
                                                                          refine son rfl rfl rfl ?_
                                                                          refine scall1 rfl fn29 (opnds_cons rfl (opnds_cons rfl opnds_nil)) (pubC rfl) (has_c) ?_
                                                                          refine son rfl rfl rfl ?_
                                                                          refine sv rfl (opv_not rfl) ?_
                                                                          refine son rfl rfl rfl ?_
                                                                          first | (refine sv rfl (opv_pick_t rfl rfl) ?_) | (refine sv rfl (opv_pick_f rfl rfl) ?_)
                                                                          first | (refine sv rfl (opv_pick_t rfl rfl) ?_) | (refine sv rfl (opv_pick_f rfl rfl) ?_)
                                                                          first | (refine sv rfl (opv_mv rfl) ?_) | (refine sv rfl (opv_mvt rfl) ?_)
                                                                          refine ssplit 73 rfl (fun hg15 => ?_) (fun hg15 => ?_)
                                                                          · replace hg15 := bnot_t hg15
                                                                            first
                                                                            | (exfalso; first | omega | contradiction)
                                                                            | (
                                                                                refine son rfl rfl rfl ?_
                                                                                first | (refine sv rfl (opv_loadN ti24 rfl (.lp _ _ _ rfl) (Nat.le_of_ble_eq_true rfl)) ?_) | (refine sv rfl (opv_loadN ti24 rfl (.cp _) (Nat.le_of_ble_eq_true rfl)) ?_)
                                                                                refine son rfl rfl rfl ?_
                                                                                first | (refine sv rfl (opv_mv rfl) ?_) | (refine sv rfl (opv_mvt rfl) ?_)
                                                                                refine son rfl rfl rfl ?_
                                                                                refine scall1 rfl fn29 (opnds_cons rfl (opnds_cons rfl opnds_nil)) (pubC rfl) (has_c) ?_
                                                                                refine son rfl rfl rfl ?_
                                                                                refine sv rfl (opv_not rfl) ?_
                                                                                refine son rfl rfl rfl ?_
                                                                                first | (refine sv rfl (opv_mv rfl) ?_) | (refine sv rfl (opv_mvt rfl) ?_)
                                                                                refine ssplit 78 rfl (fun hg16 => ?_) (fun hg16 => ?_)
                                                                                · replace hg16 := bnot_t hg16
                                                                                  first
                                                                                  | (exfalso; first | omega | contradiction)
                                                                                  | (
                                                                                      refine soff rfl rfl rfl rfl ?_
                                                                                      refine soff rfl rfl rfl rfl ?_
                                                                                      refine soff rfl rfl rfl rfl ?_
                                                                                      refine soff rfl rfl rfl rfl ?_
                                                                                      refine soff rfl rfl rfl rfl ?_
                                                                                      refine son rfl rfl rfl ?_
                                                                                      first | (refine sv rfl (opv_pick_t rfl rfl) ?_) | (refine sv rfl (opv_pick_f rfl rfl) ?_)
                                                                                      first | (refine sv rfl (opv_pick_t rfl rfl) ?_) | (refine sv rfl (opv_pick_f rfl rfl) ?_)
                                                                                      first | (refine sv rfl (opv_as rfl) ?_) | (refine sv rfl (opv_ast rfl) ?_)
                                                                                      refine snil ?_
                                                                                      refine cret ?_
                                                                                      refine ⟨Or.inr rfl, _, _, _, (resVs_cons (ResV.tmp _ _ rfl) resVs_nil), (pubA_id rfl), ?_⟩
                                                                                      first | rfl | exact avb (decide_eq_true (has_lo (hi := hi) (o := o) (by assumption))) | (have e := has_between (lo := lo) (hi := hi) (o := o) (a := a) (b := b) (c := c) (by assumption) (by assumption) (by assumption) (by assumption); simp_all; done) | (have e := empty_has (lo := lo) (hi := hi) (o := o) (k := a) (by assumption) (ne_nil_of (by assumption)); simp_all; done) | (exfalso; simp_all; done))
                                                                                · replace hg16 := bnot_f hg16
                                                                                  first
                                                                                  | (exfalso; first | omega | contradiction)
                                                                                  | (
                                                                                      refine son rfl rfl rfl ?_
                                                                                      first | (refine sv rfl (opv_mv rfl) ?_) | (refine sv rfl (opv_mvt rfl) ?_)
                                                                                      refine son rfl rfl rfl ?_
                                                                                      first | (refine sv rfl (opv_fieldAddr_lp fi24_0 rfl) ?_) | (refine sv rfl (opv_fieldAddr_cp fi24_0 rfl) ?_) | (refine sv rfl (opv_fieldAddr_ap fi24_0 rfl rfl (by first | rfl | omega)) ?_)
                                                                                      refine son rfl rfl rfl ?_
                                                                                      first | (refine sv rfl (opv_load1 ti22 rfl (.lp _ _ _ rfl) rfl) ?_) | (refine sv rfl (opv_load1 ti22 rfl (.cp _) rfl) ?_) | (refine sv rfl (opv_load1 ti22 rfl (.ap _ _ _ _ _ _ _ rfl (by first | rfl | omega)) rfl) ?_)
                                                                                      refine son rfl rfl rfl ?_
                                                                                      refine scall1 rfl fn23 (opnds_cons rfl (opnds_cons rfl opnds_nil)) (pubC rfl) (cmp_c) ?_
                                                                                      refine son rfl rfl rfl ?_
                                                                                      refine sv rfl (opv_geq rfl rfl) ?_
                                                                                      refine son rfl rfl rfl ?_
                                                                                      first | (refine sv rfl (opv_pick_t rfl rfl) ?_) | (refine sv rfl (opv_pick_f rfl rfl) ?_)
                                                                                      first | (refine sv rfl (opv_pick_t rfl rfl) ?_) | (refine sv rfl (opv_pick_f rfl rfl) ?_)
                                                                                      first | (refine sv rfl (opv_as rfl) ?_) | (refine sv rfl (opv_ast rfl) ?_)
                                                                                      refine snil ?_
                                                                                      refine cret ?_
                                                                                      refine ⟨Or.inr rfl, _, _, _, (resVs_cons (ResV.tmp _ _ rfl) resVs_nil), (pubA_id rfl), ?_⟩
                                                                                      first | rfl | exact avb (decide_eq_true (has_lo (hi := hi) (o := o) (by assumption))) | (have e := has_between (lo := lo) (hi := hi) (o := o) (a := a) (b := b) (c := c) (by assumption) (by assumption) (by assumption) (by assumption); simp_all; done) | (have e := empty_has (lo := lo) (hi := hi) (o := o) (k := a) (by assumption) (ne_nil_of (by assumption)); simp_all; done) | (exfalso; simp_all; done)))
                                                                          · replace hg15 := bnot_f hg15
                                                                            first
                                                                            | (exfalso; first | omega | contradiction)
                                                                            | (
                                                                                refine soff rfl rfl rfl rfl ?_
                                                                                refine soff rfl rfl rfl rfl ?_
                                                                                refine soff rfl rfl rfl rfl ?_
                                                                                refine soff rfl rfl rfl rfl ?_
                                                                                refine soff rfl rfl rfl rfl ?_
                                                                                refine soffu rfl rfl rfl ?_
                                                                                refine soffu rfl rfl rfl ?_
                                                                                refine soffu rfl rfl rfl ?_
                                                                                refine soffu rfl rfl rfl ?_
                                                                                refine soffu rfl rfl rfl ?_
                                                                                refine soff rfl rfl rfl rfl ?_
                                                                                first | (refine sv rfl (opv_pick_t rfl rfl) ?_) | (refine sv rfl (opv_pick_f rfl rfl) ?_)
                                                                                first | (refine sv rfl (opv_as rfl) ?_) | (refine sv rfl (opv_ast rfl) ?_)
                                                                                refine snil ?_
                                                                                refine cret ?_
                                                                                refine ⟨Or.inr rfl, _, _, _, (resVs_cons (ResV.tmp _ _ rfl) resVs_nil), (pubA_id rfl), ?_⟩
                                                                                first | rfl | exact avb (decide_eq_true (has_lo (hi := hi) (o := o) (by assumption))) | (have e := has_between (lo := lo) (hi := hi) (o := o) (a := a) (b := b) (c := c) (by assumption) (by assumption) (by assumption) (by assumption); simp_all; done) | (have e := empty_has (lo := lo) (hi := hi) (o := o) (k := a) (by assumption) (ne_nil_of (by assumption)); simp_all; done) | (exfalso; simp_all; done)))))
                                                        · first
                                                          | (exfalso; first | omega | contradiction)
                                                          | (
                                                              refine soff rfl rfl rfl rfl ?_
                                                              refine soff rfl rfl rfl rfl ?_
                                                              refine soff rfl rfl rfl rfl ?_
                                                              refine soff rfl rfl rfl rfl ?_
                                                              refine soffu rfl rfl rfl ?_
                                                              refine soffu rfl rfl rfl ?_
                                                              refine soffu rfl rfl rfl ?_
                                                              refine soff rfl rfl rfl rfl ?_
                                                              refine soff rfl rfl rfl rfl ?_
                                                              refine soffu rfl rfl rfl ?_
                                                              refine soffu rfl rfl rfl ?_
                                                              refine soffu rfl rfl rfl ?_
                                                              refine soffu rfl rfl rfl ?_
                                                              refine soff rfl rfl rfl rfl ?_
                                                              first | (refine sv rfl (opv_pick_t rfl rfl) ?_) | (refine sv rfl (opv_pick_f rfl rfl) ?_)
                                                              first | (refine sv rfl (opv_mv rfl) ?_) | (refine sv rfl (opv_mvt rfl) ?_)
                                                              refine soff rfl rfl rfl rfl ?_
                                                              refine soff rfl rfl rfl rfl ?_
                                                              refine soff rfl rfl rfl rfl ?_
                                                              refine soff rfl rfl rfl rfl ?_
                                                              refine soff rfl rfl rfl rfl ?_
                                                              refine soffu rfl rfl rfl ?_
                                                              refine soffu rfl rfl rfl ?_
                                                              refine soffu rfl rfl rfl ?_
                                                              refine soffu rfl rfl rfl ?_
                                                              refine soffu rfl rfl rfl ?_
                                                              refine soff rfl rfl rfl rfl ?_
                                                              first | (refine sv rfl (opv_pick_t rfl rfl) ?_) | (refine sv rfl (opv_pick_f rfl rfl) ?_)
                                                              first | (refine sv rfl (opv_as rfl) ?_) | (refine sv rfl (opv_ast rfl) ?_)
                                                              refine snil ?_
                                                              refine cret ?_
                                                              refine ⟨Or.inr rfl, _, _, _, (resVs_cons (ResV.tmp _ _ rfl) resVs_nil), (pubA_id rfl), ?_⟩
                                                              first | rfl | exact avb (decide_eq_true (has_lo (hi := hi) (o := o) (by assumption))) | (have e := has_between (lo := lo) (hi := hi) (o := o) (a := a) (b := b) (c := c) (by assumption) (by assumption) (by assumption) (by assumption); simp_all; done) | (have e := empty_has (lo := lo) (hi := hi) (o := o) (k := a) (by assumption) (ne_nil_of (by assumption)); simp_all; done) | (exfalso; simp_all; done))))
                                            · replace hg8 := of_decide_eq_false hg8
                                              first
                                              | (exfalso; first | omega | contradiction)
                                              | (
                                                  refine soff rfl rfl rfl rfl ?_
                                                  refine soff rfl rfl rfl rfl ?_
                                                  refine soff rfl rfl rfl rfl ?_
                                                  refine soff rfl rfl rfl rfl ?_
                                                  first | (refine sv rfl (opv_pick_t rfl rfl) ?_) | (refine sv rfl (opv_pick_f rfl rfl) ?_)
                                                  refine snil ?_
                                                  refine ccond rfl (fun hx => Bool.noConfusion hx) (fun _ => ?_)
                                                  refine cskip ?_
                                                  refine then_normal ?_
                                                  refine cseq ?_
                                                  refine cregion ?_
                                                  first | (refine sv rfl (opv_mv rfl) ?_) | (refine sv rfl (opv_mvt rfl) ?_)
                                                  first | (refine sv rfl (opv_mv rfl) ?_) | (refine sv rfl (opv_mvt rfl) ?_)
                                                  refine ssplit 57 rfl (fun hg17 => ?_) (fun hg17 => ?_)
                                                  · first
                                                    | (exfalso; first | omega | contradiction)
                                                    | (
                                                        refine son rfl rfl rfl ?_
                                                        first | (refine sv rfl (opv_loadN ti24 rfl (.lp _ _ _ rfl) (Nat.le_of_ble_eq_true rfl)) ?_) | (refine sv rfl (opv_loadN ti24 rfl (.cp _) (Nat.le_of_ble_eq_true rfl)) ?_)
                                                        refine son rfl rfl rfl ?_
                                                        refine scall1 rfl fn31 (opnds_cons rfl opnds_nil) (pubC rfl) (empty_c) ?_
                                                        refine son rfl rfl rfl ?_
                                                        refine sv rfl (opv_not rfl) ?_
                                                        refine son rfl rfl rfl ?_
                                                        first | (refine sv rfl (opv_mv rfl) ?_) | (refine sv rfl (opv_mvt rfl) ?_)
                                                        refine ssplit 61 rfl (fun hg18 => ?_) (fun hg18 => ?_)
                                                        · replace hg18 := bnot_t hg18
                                                          first
                                                          | (exfalso; first | omega | contradiction)
                                                          | (
                                                              refine soff rfl rfl rfl rfl ?_
                                                              refine soff rfl rfl rfl rfl ?_
                                                              refine soff rfl rfl rfl rfl ?_
                                                              refine son rfl rfl rfl ?_
                                                              first | (refine sv rfl (opv_pick_t rfl rfl) ?_) | (refine sv rfl (opv_pick_f rfl rfl) ?_)
                                                              refine son rfl rfl rfl ?_
                                                              first | (refine sv rfl (opv_mv rfl) ?_) | (refine sv rfl (opv_mvt rfl) ?_)
                                                              refine soff rfl rfl rfl rfl ?_
                                                              refine soff rfl rfl rfl rfl ?_
                                                              refine soff rfl rfl rfl rfl ?_
                                                              refine soff rfl rfl rfl rfl ?_
                                                              refine son rfl rfl rfl ?_
                                                              first | (refine sv rfl (opv_pick_t rfl rfl) ?_) | (refine sv rfl (opv_pick_f rfl rfl) ?_)
                                                              first | (refine sv rfl (opv_pick_t rfl rfl) ?_) | (refine sv rfl (opv_pick_f rfl rfl) ?_)
                                                              first | (refine sv rfl (opv_mv rfl) ?_) | (refine sv rfl (opv_mvt rfl) ?_)
                                                              refine son rfl rfl rfl ?_
                                                              first | (refine sv rfl (opv_loadN ti24 rfl (.lp _ _ _ rfl) (Nat.le_of_ble_eq_true rfl)) ?_) | (refine sv rfl (opv_loadN ti24 rfl (.cp _) (Nat.le_of_ble_eq_true rfl)) ?_)
                                                              refine son rfl rfl rfl ?_
                                                              first | (refine sv rfl (opv_mv rfl) ?_) | (refine sv rfl (opv_mvt rfl) ?_)
                                                              refine son rfl rfl rfl ?_
                                                              refine scall1 rfl fn29 (opnds_cons rfl (opnds_cons rfl opnds_nil)) (pubC rfl) (has_c) ?_
                                                              refine son rfl rfl rfl ?_
                                                              refine sv rfl (opv_not rfl) ?_
                                                              refine son rfl rfl rfl ?_
                                                              first | (refine sv rfl (opv_mv rfl) ?_) | (refine sv rfl (opv_mvt rfl) ?_)
                                                              refine ssplit 78 rfl (fun hg19 => ?_) (fun hg19 => ?_)
                                                              · replace hg19 := bnot_t hg19
                                                                first
                                                                | (exfalso; first | omega | contradiction)
                                                                | (
                                                                    refine soff rfl rfl rfl rfl ?_
                                                                    refine soff rfl rfl rfl rfl ?_
                                                                    refine soff rfl rfl rfl rfl ?_
                                                                    refine soff rfl rfl rfl rfl ?_
                                                                    refine soff rfl rfl rfl rfl ?_
                                                                    refine son rfl rfl rfl ?_
                                                                    first | (refine sv rfl (opv_pick_t rfl rfl) ?_) | (refine sv rfl (opv_pick_f rfl rfl) ?_)
                                                                    first | (refine sv rfl (opv_pick_t rfl rfl) ?_) | (refine sv rfl (opv_pick_f rfl rfl) ?_)
                                                                    first | (refine sv rfl (opv_as rfl) ?_) | (refine sv rfl (opv_ast rfl) ?_)
                                                                    refine snil ?_
                                                                    refine cret ?_
                                                                    refine ⟨Or.inr rfl, _, _, _, (resVs_cons (ResV.tmp _ _ rfl) resVs_nil), (pubA_id rfl), ?_⟩
                                                                    first | rfl | exact avb (decide_eq_true (has_lo (hi := hi) (o := o) (by assumption))) | (have e := has_between (lo := lo) (hi := hi) (o := o) (a := a) (b := b) (c := c) (by assumption) (by assumption) (by assumption) (by assumption); simp_all; done) | (have e := empty_has (lo := lo) (hi := hi) (o := o) (k := a) (by assumption) (ne_nil_of (by assumption)); simp_all; done) | (exfalso; simp_all; done))
                                                              · replace hg19 := bnot_f hg19
                                                                first
                                                                | (exfalso; first | omega | contradiction)
                                                                | (
                                                                    refine son rfl rfl rfl ?_
                                                                    first | (refine sv rfl (opv_mv rfl) ?_) | (refine sv rfl (opv_mvt rfl) ?_)
                                                                    refine son rfl rfl rfl ?_
                                                                    first | (refine sv rfl (opv_fieldAddr_lp fi24_0 rfl) ?_) | (refine sv rfl (opv_fieldAddr_cp fi24_0 rfl) ?_) | (refine sv rfl (opv_fieldAddr_ap fi24_0 rfl rfl (by first | rfl | omega)) ?_)
                                                                    refine son rfl rfl rfl ?_
                                                                    first | (refine sv rfl (opv_load1 ti22 rfl (.lp _ _ _ rfl) rfl) ?_) | (refine sv rfl (opv_load1 ti22 rfl (.cp _) rfl) ?_) | (refine sv rfl (opv_load1 ti22 rfl (.ap _ _ _ _ _ _ _ rfl (by first | rfl | omega)) rfl) ?_)
                                                                    refine son rfl rfl rfl ?_
                                                                    refine scall1 rfl fn23 (opnds_cons rfl (opnds_cons rfl opnds_nil)) (pubC rfl) (cmp_c) ?_
                                                                    refine son rfl rfl rfl ?_
                                                                    refine sv rfl (opv_geq rfl rfl) ?_
                                                                    refine son rfl rfl rfl ?_
                                                                    first | (refine sv rfl (opv_pick_t rfl rfl) ?_) | (refine sv rfl (opv_pick_f rfl rfl) ?_)
                                                                    first | (refine sv rfl (opv_pick_t rfl rfl) ?_) | (refine sv rfl (opv_pick_f rfl rfl) ?_)
                                                                    first | (refine sv rfl (opv_as rfl) ?_) | (refine sv rfl (opv_ast rfl) ?_)
                                                                    refine snil ?_
                                                                    refine cret ?_
                                                                    refine ⟨Or.inr rfl, _, _, _, (resVs_cons (ResV.tmp _ _ rfl) resVs_nil), (pubA_id rfl), ?_⟩
                                                                    first | rfl | exact avb (decide_eq_true (has_lo (hi := hi) (o := o) (by assumption))) | (have e := has_between (lo := lo) (hi := hi) (o := o) (a := a) (b := b) (c := c) (by assumption) (by assumption) (by assumption) (by assumption); simp_all; done) | (have e := empty_has (lo := lo) (hi := hi) (o := o) (k := a) (by assumption) (ne_nil_of (by assumption)); simp_all; done) | (exfalso; simp_all; done)))
                                                        · replace hg18 := bnot_f hg18
                                                          first
                                                          | (exfalso; first | omega | contradiction)
                                                          | (
                                                              refine son rfl rfl rfl ?_
                                                              first | (refine sv rfl (opv_mv rfl) ?_) | (refine sv rfl (opv_mvt rfl) ?_)
                                                              refine son rfl rfl rfl ?_
                                                              first | (refine sv rfl (opv_len_sl si22 rfl) ?_) | (refine sv rfl (opv_len_nil si22 rfl) ?_) | (refine sv rfl (opv_len_ls si22 rfl rfl (by first | rfl | omega)) ?_)
                                                              refine son rfl rfl rfl ?_
                                                              refine sv rfl (opv_ieql rfl rfl) ?_
                                                              refine son rfl rfl rfl ?_
                                                              first | (refine sv rfl (opv_pick_t rfl rfl) ?_) | (refine sv rfl (opv_pick_f rfl rfl) ?_)
                                                              refine son rfl rfl rfl ?_
                                                              first | (refine sv rfl (opv_mv rfl) ?_) | (refine sv rfl (opv_mvt rfl) ?_)
                                                              refine ssplit 66 rfl (fun hg20 => ?_) (fun hg20 => ?_)
                                                              · replace hg20 := of_decide_eq_true hg20
                                                                first
                                                                | (exfalso; first | omega | contradiction)
                                                                | (
                                                                    refine soff rfl rfl rfl rfl ?_
                                                                    refine soff rfl rfl rfl rfl ?_
                                                                    refine soff rfl rfl rfl rfl ?_
                                                                    refine soff rfl rfl rfl rfl ?_
                                                                    refine son rfl rfl rfl ?_
                                                                    first | (refine sv rfl (opv_pick_t rfl rfl) ?_) | (refine sv rfl (opv_pick_f rfl rfl) ?_)
                                                                    first | (refine sv rfl (opv_pick_t rfl rfl) ?_) | (refine sv rfl (opv_pick_f rfl rfl) ?_)
                                                                    first | (refine sv rfl (opv_mv rfl) ?_) | (refine sv rfl (opv_mvt rfl) ?_)
                                                                    refine son rfl rfl rfl ?_
                                                                    first | (refine sv rfl (opv_loadN ti24 rfl (.lp _ _ _ rfl) (Nat.le_of_ble_eq_true rfl)) ?_) | (refine sv rfl (opv_loadN ti24 rfl (.cp _) (Nat.le_of_ble_eq_true rfl)) ?_)
                                                                    refine son rfl rfl rfl ?_
                                                                    first | (refine sv rfl (opv_mv rfl) ?_) | (refine sv rfl (opv_mvt rfl) ?_)
                                                                    refine son rfl rfl rfl ?_
                                                                    refine scall1 rfl fn29 (opnds_cons rfl (opnds_cons rfl opnds_nil)) (pubC rfl) (has_c) ?_
                                                                    refine son rfl rfl rfl ?_
                                                                    refine sv rfl (opv_not rfl) ?_
                                                                    refine son rfl rfl rfl ?_
                                                                    first | (refine sv rfl (opv_mv rfl) ?_) | (refine sv rfl (opv_mvt rfl) ?_)
                                                                    refine ssplit 78 rfl (fun hg21 => ?_) (fun hg21 => ?_)
                                                                    · replace hg21 := bnot_t hg21
                                                                      first
                                                                      | (exfalso; first | omega | contradiction)
                                                                      | (
                                                                          refine soff rfl rfl rfl rfl ?_
                                                                          refine soff rfl rfl rfl rfl ?_
                                                                          refine soff rfl rfl rfl rfl ?_
                                                                          refine soff rfl rfl rfl rfl ?_
                                                                          refine soff rfl rfl rfl rfl ?_
                                                                          refine son rfl rfl rfl ?_
                                                                          first | (refine sv rfl (opv_pick_t rfl rfl) ?_) | (refine sv rfl (opv_pick_f rfl rfl) ?_)
                                                                          first | (refine sv rfl (opv_pick_t rfl rfl) ?_) | (refine sv rfl (opv_pick_f rfl rfl) ?_)
                                                                          first | (refine sv rfl (opv_as rfl) ?_) | (refine sv rfl (opv_ast rfl) ?_)
                                                                          refine snil ?_
                                                                          refine cret ?_
                                                                          refine ⟨Or.inr rfl, _, _, _, (resVs_cons (ResV.tmp _ _ rfl) resVs_nil), (pubA_id rfl), ?_⟩
                                                                          first | rfl | exact avb (decide_eq_true (has_lo (hi := hi) (o := o) (by assumption))) | (have e := has_between (lo := lo) (hi := hi) (o := o) (a := a) (b := b) (c := c) (by assumption) (by assumption) (by assumption) (by assumption); simp_all; done) | (have e := empty_has (lo := lo) (hi := hi) (o := o) (k := a) (by assumption) (ne_nil_of (by assumption)); simp_all; done) | (exfalso; simp_all; done))
                                                                    · replace hg21 := bnot_f hg21
                                                                      first
                                                                      | (exfalso; first | omega | contradiction)
                                                                      | (
                                                                          refine son rfl rfl rfl ?_
                                                                          first | (refine sv rfl (opv_mv rfl) ?_) | (refine sv rfl (opv_mvt rfl) ?_)
                                                                          refine son rfl rfl rfl ?_
                                                                          first | (refine sv rfl (opv_fieldAddr_lp fi24_0 rfl) ?_) | (refine sv rfl (opv_fieldAddr_cp fi24_0 rfl) ?_) | (refine sv rfl (opv_fieldAddr_ap fi24_0 rfl rfl (by first | rfl | omega)) ?_)
                                                                          refine son rfl rfl rfl ?_
                                                                          first | (refine sv rfl (opv_load1 ti22 rfl (.lp _ _ _ rfl) rfl) ?_) | (refine sv rfl (opv_load1 ti22 rfl (.cp _) rfl) ?_) | (refine sv rfl (opv_load1 ti22 rfl (.ap _ _ _ _ _ _ _ rfl (by first | rfl | omega)) rfl) ?_)
                                                                          refine son rfl rfl rfl ?_
                                                                          refine scall1 rfl fn23 (opnds_cons rfl (opnds_cons rfl opnds_nil)) (pubC rfl) (cmp_c) ?_
                                                                          refine son rfl rfl rfl ?_
                                                                          refine sv rfl (opv_geq rfl rfl) ?_
                                                                          refine son rfl rfl rfl ?_
                                                                          first | (refine sv rfl (opv_pick_t rfl rfl) ?_) | (refine sv rfl (opv_pick_f rfl rfl) ?_)
                                                                          first | (refine sv rfl (opv_pick_t rfl rfl) ?_) | (refine sv rfl (opv_pick_f rfl rfl) ?_)
                                                                          first | (refine sv rfl (opv_as rfl) ?_) | (refine sv rfl (opv_ast rfl) ?_)
                                                                          refine snil ?_
                                                                          refine cret ?_
                                                                          refine ⟨Or.inr rfl, _, _, _, (resVs_cons (ResV.tmp _ _ rfl) resVs_nil), (pubA_id rfl), ?_⟩
                                                                          first | rfl | exact avb (decide_eq_true (has_lo (hi := hi) (o := o) (by assumption))) | (have e := has_between (lo := lo) (hi := hi) (o := o) (a := a) (b := b) (c := c) (by assumption) (by assumption) (by assumption) (by assumption); simp_all; done) | (have e := empty_has (lo := lo) (hi := hi) (o := o) (k := a) (by assumption) (ne_nil_of (by assumption)); simp_all; done) | (exfalso; simp_all; done)))
                                                              · replace hg20 := of_decide_eq_false hg20
                                                                first
                                                                | (exfalso; first | omega | contradiction)
                                                                | (
                                                                    refine son rfl rfl rfl ?_
                                                                    first | (refine sv rfl (opv_loadN ti24 rfl (.lp _ _ _ rfl) (Nat.le_of_ble_eq_true rfl)) ?_) | (refine sv rfl (opv_loadN ti24 rfl (.cp _) (Nat.le_of_ble_eq_true rfl)) ?_)
                                                                    refine son rfl rfl rfl ?_
                                                                    first | (refine sv rfl (opv_mv rfl) ?_) | (refine sv rfl (opv_mvt rfl) ?_)
                                                                    refine son rfl rfl rfl ?_
                                                                    refine scall1 rfl fn29 (opnds_cons rfl (opnds_cons rfl opnds_nil)) (pubC rfl) (has_c) ?_
                                                                    refine son rfl rfl rfl ?_
                                                                    refine sv rfl (opv_not rfl) ?_
                                                                    refine son rfl rfl rfl ?_
                                                                    first | (refine sv rfl (opv_pick_t rfl rfl) ?_) | (refine sv rfl (opv_pick_f rfl rfl) ?_)
                                                                    first | (refine sv rfl (opv_pick_t rfl rfl) ?_) | (refine sv rfl (opv_pick_f rfl rfl) ?_)
                                                                    first | (refine sv rfl (opv_mv rfl) ?_) | (refine sv rfl (opv_mvt rfl) ?_)
                                                                    refine ssplit 73 rfl (fun hg22 => ?_) (fun hg22 => ?_)
                                                                    · replace hg22 := bnot_t hg22
                                                                      first
                                                                      | (exfalso; first | omega | contradiction)
                                                                      | (
                                                                          refine son rfl rfl rfl ?_
                                                                          first | (refine sv rfl (opv_loadN ti24 rfl (.lp _ _ _ rfl) (Nat.le_of_ble_eq_true rfl)) ?_) | (refine sv rfl (opv_loadN ti24 rfl (.cp _) (Nat.le_of_ble_eq_true rfl)) ?_)
                                                                          refine son rfl rfl rfl ?_
                                                                          first | (refine sv rfl (opv_mv rfl) ?_) | (refine sv rfl (opv_mvt rfl) ?_)
                                                                          refine son rfl rfl rfl ?_
                                                                          refine scall1 rfl fn29 (opnds_cons rfl (opnds_cons rfl opnds_nil)) (pubC rfl) (has_c) ?_
                                                                          refine son rfl rfl rfl ?_
                                                                          refine sv rfl (opv_not rfl) ?_
                                                                          refine son rfl rfl rfl ?_
                                                                          first | (refine sv rfl (opv_mv rfl) ?_) | (refine sv rfl (opv_mvt rfl) ?_)
                                                                          refine ssplit 78 rfl (fun hg23 => ?_) (fun hg23 => ?_)
                                                                          · replace hg23 := bnot_t hg23
                                                                            first
                                                                            | (exfalso; first | omega | contradiction)
                                                                            | (
                                                                                refine soff rfl rfl rfl rfl ?_
                                                                                refine soff rfl rfl rfl rfl ?_
                                                                                refine soff rfl rfl rfl rfl ?_
                                                                                refine soff rfl rfl rfl rfl ?_
                                                                                refine soff rfl rfl rfl rfl ?_
                                                                                refine son rfl rfl rfl ?_
                                                                                first | (refine sv rfl (opv_pick_t rfl rfl) ?_) | (refine sv rfl (opv_pick_f rfl rfl) ?_)
                                                                                first | (refine sv rfl (opv_pick_t rfl rfl) ?_) | (refine sv rfl (opv_pick_f rfl rfl) ?_)
                                                                                first | (refine sv rfl (opv_as rfl) ?_) | (refine sv rfl (opv_ast rfl) ?_)
                                                                                refine snil ?_
                                                                                refine cret ?_
                                                                                refine ⟨Or.inr rfl, _, _, _, (resVs_cons (ResV.tmp _ _ rfl) resVs_nil), (pubA_id rfl), ?_⟩
                                                                                first | rfl | exact avb (decide_eq_true (has_lo (hi := hi) (o := o) (by assumption))) | (have e := has_between (lo := lo) (hi := hi) (o := o) (a := a) (b := b) (c := c) (by assumption) (by assumption) (by assumption) (by assumption); simp_all; done) | (have e := empty_has (lo := lo) (hi := hi) (o := o) (k := a) (by assumption) (ne_nil_of (by assumption)); simp_all; done) | (exfalso; simp_all; done))
                                                                          · replace hg23 := bnot_f hg23
                                                                            first
                                                                            | (exfalso; first | omega | contradiction)
                                                                            | (
                                                                                refine son rfl rfl rfl ?_
                                                                                first | (refine sv rfl (opv_mv rfl) ?_) | (refine sv rfl (opv_mvt rfl) ?_)
                                                                                refine son rfl rfl rfl ?_
                                                                                first | (refine sv rfl (opv_fieldAddr_lp fi24_0 rfl) ?_) | (refine sv rfl (opv_fieldAddr_cp fi24_0 rfl) ?_) | (refine sv rfl (opv_fieldAddr_ap fi24_0 rfl rfl (by first | rfl | omega)) ?_)
                                                                                refine son rfl rfl rfl ?_
                                                                                first | (refine sv rfl (opv_load1 ti22 rfl (.lp _ _ _ rfl) rfl) ?_) | (refine sv rfl (opv_load1 ti22 rfl (.cp _) rfl) ?_) | (refine sv rfl (opv_load1 ti22 rfl (.ap _ _ _ _ _ _ _ rfl (by first | rfl | omega)) rfl) ?_)
                                                                                refine son rfl rfl rfl ?_
                                                                                refine scall1 rfl fn23 (opnds_cons rfl (opnds_cons rfl opnds_nil)) (pubC rfl) (cmp_c) ?_
                                                                                refine son rfl rfl rfl ?_
                                                                                refine sv rfl (opv_geq rfl rfl) ?_
                                                                                refine son rfl rfl rfl ?_
                                                                                first | (refine sv rfl (opv_pick_t rfl rfl) ?_) | (refine sv rfl (opv_pick_f rfl rfl) ?_)
                                                                                first | (refine sv rfl (opv_pick_t rfl rfl) ?_) | (refine sv rfl (opv_pick_f rfl rfl) ?_)
                                                                                first | (refine sv rfl (opv_as rfl) ?_) | (refine sv rfl (opv_ast rfl) ?_)
                                                                                refine snil ?_
                                                                                refine cret ?_
                                                                                refine ⟨Or.inr rfl, _, _, _, (resVs_cons (ResV.tmp _ _ rfl) resVs_nil), (pubA_id rfl), ?_⟩
                                                                                first | rfl | exact avb (decide_eq_true (has_lo (hi := hi) (o := o) (by assumption))) | (have e := has_between (lo := lo) (hi := hi) (o := o) (a := a) (b := b) (c := c) (by assumption) (by assumption) (by assumption) (by assumption); simp_all; done) | (have e := empty_has (lo := lo) (hi := hi) (o := o) (k := a) (by assumption) (ne_nil_of (by assumption)); simp_all; done) | (exfalso; simp_all; done)))
                                                                    · replace hg22 := bnot_f hg22
                                                                      first
                                                                      | (exfalso; first | omega | contradiction)
                                                                      | (
                                                                          refine soff rfl rfl rfl rfl ?_
                                                                          refine soff rfl rfl rfl rfl ?_
                                                                          refine soff rfl rfl rfl rfl ?_
                                                                          refine soff rfl rfl rfl rfl ?_
                                                                          refine soff rfl rfl rfl rfl ?_
                                                                          refine soffu rfl rfl rfl ?_
                                                                          refine soffu rfl rfl rfl ?_
                                                                          refine soffu rfl rfl rfl ?_
                                                                          refine soffu rfl rfl rfl ?_
                                                                          refine soffu rfl rfl rfl ?_
                                                                          refine soff rfl rfl rfl rfl ?_
                                                                          first | (refine sv rfl (opv_pick_t rfl rfl) ?_) | (refine sv rfl (opv_pick_f rfl rfl) ?_)
                                                                          first | (refine sv rfl (opv_as rfl) ?_) | (refine sv rfl (opv_ast rfl) ?_)
                                                                          refine snil ?_
                                                                          refine cret ?_
                                                                          refine ⟨Or.inr rfl, _, _, _, (resVs_cons (ResV.tmp _ _ rfl) resVs_nil), (pubA_id rfl), ?_⟩
                                                                          first | rfl | exact avb (decide_eq_true (has_lo (hi := hi) (o := o) (by assumption))) | (have e := has_between (lo := lo) (hi := hi) (o := o) (a := a) (b := b) (c := c) (by assumption) (by assumption) (by assumption) (by assumption); simp_all; done) | (have e := empty_has (lo := lo) (hi := hi) (o := o) (k := a) (by assumption) (ne_nil_of (by assumption)); simp_all; done) | (exfalso; simp_all; done)))))
                                                  · first
                                                    | (exfalso; first | omega | contradiction)
                                                    | (
                                                        refine soff rfl rfl rfl rfl ?_
                                                        refine soff rfl rfl rfl rfl ?_
                                                        refine soff rfl rfl rfl rfl ?_
                                                        refine soff rfl rfl rfl rfl ?_
                                                        refine soffu rfl rfl rfl ?_
                                                        refine soffu rfl rfl rfl ?_
                                                        refine soffu rfl rfl rfl ?_
                                                        refine soff rfl rfl rfl rfl ?_
                                                        refine soff rfl rfl rfl rfl ?_
                                                        refine soffu rfl rfl rfl ?_
                                                        refine soffu rfl rfl rfl ?_
                                                        refine soffu rfl rfl rfl ?_
                                                        refine soffu rfl rfl rfl ?_
                                                        refine soff rfl rfl rfl rfl ?_
                                                        first | (refine sv rfl (opv_pick_t rfl rfl) ?_) | (refine sv rfl (opv_pick_f rfl rfl) ?_)
                                                        first | (refine sv rfl (opv_mv rfl) ?_) | (refine sv rfl (opv_mvt rfl) ?_)
                                                        refine soff rfl rfl rfl rfl ?_
                                                        refine soff rfl rfl rfl rfl ?_
                                                        refine soff rfl rfl rfl rfl ?_
                                                        refine soff rfl rfl rfl rfl ?_
                                                        refine soff rfl rfl rfl rfl ?_
                                                        refine soffu rfl rfl rfl ?_
                                                        refine soffu rfl rfl rfl ?_
                                                        refine soffu rfl rfl rfl ?_
                                                        refine soffu rfl rfl rfl ?_
                                                        refine soffu rfl rfl rfl ?_
                                                        refine soff rfl rfl rfl rfl ?_
                                                        first | (refine sv rfl (opv_pick_t rfl rfl) ?_) | (refine sv rfl (opv_pick_f rfl rfl) ?_)
                                                        first | (refine sv rfl (opv_as rfl) ?_) | (refine sv rfl (opv_ast rfl) ?_)
                                                        refine snil ?_
                                                        refine cret ?_
                                                        refine ⟨Or.inr rfl, _, _, _, (resVs_cons (ResV.tmp _ _ rfl) resVs_nil), (pubA_id rfl), ?_⟩
                                                        first | rfl | exact avb (decide_eq_true (has_lo (hi := hi) (o := o) (by assumption))) | (have e := has_between (lo := lo) (hi := hi) (o := o) (a := a) (b := b) (c := c) (by assumption) (by assumption) (by assumption) (by assumption); simp_all; done) | (have e := empty_has (lo := lo) (hi := hi) (o := o) (k := a) (by assumption) (ne_nil_of (by assumption)); simp_all; done) | (exfalso; simp_all; done))))
                                      · replace hg7 := of_decide_eq_false hg7
                                        first
                                        | (exfalso; first | omega | contradiction)
                                        | (
                                            refine soff rfl rfl rfl rfl ?_
                                            refine soff rfl rfl rfl rfl ?_
                                            refine soff rfl rfl rfl rfl ?_
                                            refine soff rfl rfl rfl rfl ?_
                                            first | (refine sv rfl (opv_pick_t rfl rfl) ?_) | (refine sv rfl (opv_pick_f rfl rfl) ?_)
                                            first | (refine sv rfl (opv_mv rfl) ?_) | (refine sv rfl (opv_mvt rfl) ?_)
                                            refine soff rfl rfl rfl rfl ?_
                                            refine soff rfl rfl rfl rfl ?_
                                            refine soff rfl rfl rfl rfl ?_
                                            refine soff rfl rfl rfl rfl ?_
                                            first | (refine sv rfl (opv_pick_t rfl rfl) ?_) | (refine sv rfl (opv_pick_f rfl rfl) ?_)
                                            refine snil ?_
                                            refine ccond rfl (fun hx => Bool.noConfusion hx) (fun _ => ?_)
                                            refine cskip ?_
                                            refine then_normal ?_
                                            refine cseq ?_
                                            refine cregion ?_
                                            first | (refine sv rfl (opv_mv rfl) ?_) | (refine sv rfl (opv_mvt rfl) ?_)
                                            first | (refine sv rfl (opv_mv rfl) ?_) | (refine sv rfl (opv_mvt rfl) ?_)
                                            refine ssplit 57 rfl (fun hg24 => ?_) (fun hg24 => ?_)
                                            · first
                                              | (exfalso; first | omega | contradiction)
                                              | (
                                                  refine son rfl rfl rfl ?_
                                                  first | (refine sv rfl (opv_loadN ti24 rfl (.lp _ _ _ rfl) (Nat.le_of_ble_eq_true rfl)) ?_) | (refine sv rfl (opv_loadN ti24 rfl (.cp _) (Nat.le_of_ble_eq_true rfl)) ?_)
                                                  refine son rfl rfl rfl ?_
                                                  refine scall1 rfl fn31 (opnds_cons rfl opnds_nil) (pubC rfl) (empty_c) ?_
                                                  refine son rfl rfl rfl ?_
                                                  refine sv rfl (opv_not rfl) ?_
                                                  refine son rfl rfl rfl ?_
                                                  first | (refine sv rfl (opv_mv rfl) ?_) | (refine sv rfl (opv_mvt rfl) ?_)
                                                  refine ssplit 61 rfl (fun hg25 => ?_) (fun hg25 => ?_)
                                                  · replace hg25 := bnot_t hg25
                                                    first
                                                    | (exfalso; first | omega | contradiction)
                                                    | (
                                                        refine soff rfl rfl rfl rfl ?_
                                                        refine soff rfl rfl rfl rfl ?_
                                                        refine soff rfl rfl rfl rfl ?_
                                                        refine son rfl rfl rfl ?_
                                                        first | (refine sv rfl (opv_pick_t rfl rfl) ?_) | (refine sv rfl (opv_pick_f rfl rfl) ?_)
                                                        refine son rfl rfl rfl ?_
                                                        first | (refine sv rfl (opv_mv rfl) ?_) | (refine sv rfl (opv_mvt rfl) ?_)
                                                        refine soff rfl rfl rfl rfl ?_
                                                        refine soff rfl rfl rfl rfl ?_
                                                        refine soff rfl rfl rfl rfl ?_
                                                        refine soff rfl rfl rfl rfl ?_
                                                        refine son rfl rfl rfl ?_
                                                        first | (refine sv rfl (opv_pick_t rfl rfl) ?_) | (refine sv rfl (opv_pick_f rfl rfl) ?_)
                                                        first | (refine sv rfl (opv_pick_t rfl rfl) ?_) | (refine sv rfl (opv_pick_f rfl rfl) ?_)
                                                        first | (refine sv rfl (opv_mv rfl) ?_) | (refine sv rfl (opv_mvt rfl) ?_)
                                                        refine son rfl rfl rfl ?_
                                                        first | (refine sv rfl (opv_loadN ti24 rfl (.lp _ _ _ rfl) (Nat.le_of_ble_eq_true rfl)) ?_) | (refine sv rfl (opv_loadN ti24 rfl (.cp _) (Nat.le_of_ble_eq_true rfl)) ?_)
                                                        refine son rfl rfl rfl ?_
                                                        first | (refine sv rfl (opv_mv rfl) ?_) | (refine sv rfl (opv_mvt rfl) ?_)
                                                        refine son rfl rfl rfl ?_
                                                        refine scall1 rfl fn29 (opnds_cons rfl (opnds_cons rfl opnds_nil)) (pubC rfl) (has_c) ?_
                                                        refine son rfl rfl rfl ?_
                                                        refine sv rfl (opv_not rfl) ?_
                                                        refine son rfl rfl rfl ?_
                                                        first | (refine sv rfl (opv_mv rfl) ?_) | (refine sv rfl (opv_mvt rfl) ?_)
                                                        refine ssplit 78 rfl (fun hg26 => ?_) (fun hg26 => ?_)
                                                        · replace hg26 := bnot_t hg26
                                                          first
                                                          | (exfalso; first | omega | contradiction)
                                                          | (
                                                              refine soff rfl rfl rfl rfl ?_
                                                              refine soff rfl rfl rfl rfl ?_
                                                              refine soff rfl rfl rfl rfl ?_
                                                              refine soff rfl rfl rfl rfl ?_
                                                              refine soff rfl rfl rfl rfl ?_
                                                              refine son rfl rfl rfl ?_
                                                              first | (refine sv rfl (opv_pick_t rfl rfl) ?_) | (refine sv rfl (opv_pick_f rfl rfl) ?_)
                                                              first | (refine sv rfl (opv_pick_t rfl rfl) ?_) | (refine sv rfl (opv_pick_f rfl rfl) ?_)
                                                              first | (refine sv rfl (opv_as rfl) ?_) | (refine sv rfl (opv_ast rfl) ?_)
                                                              refine snil ?_
                                                              refine cret ?_
                                                              refine ⟨Or.inr rfl, _, _, _, (resVs_cons (ResV.tmp _ _ rfl) resVs_nil), (pubA_id rfl), ?_⟩
                                                              first | rfl | exact avb (decide_eq_true (has_lo (hi := hi) (o := o) (by assumption))) | (have e := has_between (lo := lo) (hi := hi) (o := o) (a := a) (b := b) (c := c) (by assumption) (by assumption) (by assumption) (by assumption); simp_all; done) | (have e := empty_has (lo := lo) (hi := hi) (o := o) (k := a) (by assumption) (ne_nil_of (by assumption)); simp_all; done) | (exfalso; simp_all; done))
                                                        · replace hg26 := bnot_f hg26
                                                          first
                                                          | (exfalso; first | omega | contradiction)
                                                          | (
                                                              refine son rfl rfl rfl ?_
                                                              first | (refine sv rfl (opv_mv rfl) ?_) | (refine sv rfl (opv_mvt rfl) ?_)
                                                              refine son rfl rfl rfl ?_
                                                              first | (refine sv rfl (opv_fieldAddr_lp fi24_0 rfl) ?_) | (refine sv rfl (opv_fieldAddr_cp fi24_0 rfl) ?_) | (refine sv rfl (opv_fieldAddr_ap fi24_0 rfl rfl (by first | rfl | omega)) ?_)
                                                              refine son rfl rfl rfl ?_
                                                              first | (refine sv rfl (opv_load1 ti22 rfl (.lp _ _ _ rfl) rfl) ?_) | (refine sv rfl (opv_load1 ti22 rfl (.cp _) rfl) ?_) | (refine sv rfl (opv_load1 ti22 rfl (.ap _ _ _ _ _ _ _ rfl (by first | rfl | omega)) rfl) ?_)
                                                              refine son rfl rfl rfl ?_
                                                              refine scall1 rfl fn23 (opnds_cons rfl (opnds_cons rfl opnds_nil)) (pubC rfl) (cmp_c) ?_
                                                              refine son rfl rfl rfl ?_
                                                              refine sv rfl (opv_geq rfl rfl) ?_
                                                              refine son rfl rfl rfl ?_
                                                              first | (refine sv rfl (opv_pick_t rfl rfl) ?_) | (refine sv rfl (opv_pick_f rfl rfl) ?_)
                                                              first | (refine sv rfl (opv_pick_t rfl rfl) ?_) | (refine sv rfl (opv_pick_f rfl rfl) ?_)
                                                              first | (refine sv rfl (opv_as rfl) ?_) | (refine sv rfl (opv_ast rfl) ?_)
                                                              refine snil ?_
                                                              refine cret ?_
                                                              refine ⟨Or.inr rfl, _, _, _, (resVs_cons (ResV.tmp _ _ rfl) resVs_nil), (pubA_id rfl), ?_⟩
                                                              first | rfl | exact avb (decide_eq_true (has_lo (hi := hi) (o := o) (by assumption))) | (have e := has_between (lo := lo) (hi := hi) (o := o) (a := a) (b := b) (c := c) (by assumption) (by assumption) (by assumption) (by assumption); simp_all; done) | (have e := empty_has (lo := lo) (hi := hi) (o := o) (k := a) (by assumption) (ne_nil_of (by assumption)); simp_all; done) | (exfalso; simp_all; done)))
                                                  · replace hg25 := bnot_f hg25
                                                    first
                                                    | (exfalso; first | omega | contradiction)
                                                    | (
                                                        refine son rfl rfl rfl ?_
                                                        first | (refine sv rfl (opv_mv rfl) ?_) | (refine sv rfl (opv_mvt rfl) ?_)
                                                        refine son rfl rfl rfl ?_
                                                        first | (refine sv rfl (opv_len_sl si22 rfl) ?_) | (refine sv rfl (opv_len_nil si22 rfl) ?_) | (refine sv rfl (opv_len_ls si22 rfl rfl (by first | rfl | omega)) ?_)
                                                        refine son rfl rfl rfl ?_
                                                        refine sv rfl (opv_ieql rfl rfl) ?_
                                                        refine son rfl rfl rfl ?_
                                                        first | (refine sv rfl (opv_pick_t rfl rfl) ?_) | (refine sv rfl (opv_pick_f rfl rfl) ?_)
                                                        refine son rfl rfl rfl ?_
                                                        first | (refine sv rfl (opv_mv rfl) ?_) | (refine sv rfl (opv_mvt rfl) ?_)
                                                        refine ssplit 66 rfl (fun hg27 => ?_) (fun hg27 => ?_)
                                                        · replace hg27 := of_decide_eq_true hg27
                                                          first
                                                          | (exfalso; first | omega | contradiction)
                                                          | (
                                                              refine soff rfl rfl rfl rfl ?_
                                                              refine soff rfl rfl rfl rfl ?_
                                                              refine soff rfl rfl rfl rfl ?_
                                                              refine soff rfl rfl rfl rfl ?_
                                                              refine son rfl rfl rfl ?_
                                                              first | (refine sv rfl (opv_pick_t rfl rfl) ?_) | (refine sv rfl (opv_pick_f rfl rfl) ?_)
                                                              first | (refine sv rfl (opv_pick_t rfl rfl) ?_) | (refine sv rfl (opv_pick_f rfl rfl) ?_)
                                                              first | (refine sv rfl (opv_mv rfl) ?_) | (refine sv rfl (opv_mvt rfl) ?_)
                                                              refine son rfl rfl rfl ?_
                                                              first | (refine sv rfl (opv_loadN ti24 rfl (.lp _ _ _ rfl) (Nat.le_of_ble_eq_true rfl)) ?_) | (refine sv rfl (opv_loadN ti24 rfl (.cp _) (Nat.le_of_ble_eq_true rfl)) ?_)
                                                              refine son rfl rfl rfl ?_
                                                              first | (refine sv rfl (opv_mv rfl) ?_) | (refine sv rfl (opv_mvt rfl) ?_)
                                                              refine son rfl rfl rfl ?_
                                                              refine scall1 rfl fn29 (opnds_cons rfl (opnds_cons rfl opnds_nil)) (pubC rfl) (has_c) ?_
                                                              refine son rfl rfl rfl ?_
                                                              refine sv rfl (opv_not rfl) ?_
                                                              refine son rfl rfl rfl ?_
                                                              first | (refine sv rfl (opv_mv rfl) ?_) | (refine sv rfl (opv_mvt rfl) ?_)
                                                              refine ssplit 78 rfl (fun hg28 => ?_) (fun hg28 => ?_)
                                                              · replace hg28 := bnot_t hg28
                                                                first
                                                                | (exfalso; first | omega | contradiction)
                                                                | (
                                                                    refine soff rfl rfl rfl rfl ?_
                                                                    refine soff rfl rfl rfl rfl ?_
                                                                    refine soff rfl rfl rfl rfl ?_
                                                                    refine soff rfl rfl rfl rfl ?_
                                                                    refine soff rfl rfl rfl rfl ?_
                                                                    refine son rfl rfl rfl ?_
                                                                    first | (refine sv rfl (opv_pick_t rfl rfl) ?_) | (refine sv rfl (opv_pick_f rfl rfl) ?_)
                                                                    first | (refine sv rfl (opv_pick_t rfl rfl) ?_) | (refine sv rfl (opv_pick_f rfl rfl) ?_)
                                                                    first | (refine sv rfl (opv_as rfl) ?_) | (refine sv rfl (opv_ast rfl) ?_)
                                                                    refine snil ?_
                                                                    refine cret ?_
                                                                    refine ⟨Or.inr rfl, _, _, _, (resVs_cons (ResV.tmp _ _ rfl) resVs_nil), (pubA_id rfl), ?_⟩
                                                                    first | rfl | exact avb (decide_eq_true (has_lo (hi := hi) (o := o) (by assumption))) | (have e := has_between (lo := lo) (hi := hi) (o := o) (a := a) (b := b) (c := c) (by assumption) (by assumption) (by assumption) (by assumption); simp_all; done) | (have e := empty_has (lo := lo) (hi := hi) (o := o) (k := a) (by assumption) (ne_nil_of (by assumption)); simp_all; done) | (exfalso; simp_all; done))
                                                              · replace hg28 := bnot_f hg28
                                                                first
                                                                | (exfalso; first | omega | contradiction)
                                                                | (
                                                                    refine son rfl rfl rfl ?_
                                                                    first | (refine sv rfl (opv_mv rfl) ?_) | (refine sv rfl (opv_mvt rfl) ?_)
                                                                    refine son rfl rfl rfl ?_
                                                                    first | (refine sv rfl (opv_fieldAddr_lp fi24_0 rfl) ?_) | (refine sv rfl (opv_fieldAddr_cp fi24_0 rfl) ?_) | (refine sv rfl (opv_fieldAddr_ap fi24_0 rfl rfl (by first | rfl | omega)) ?_)
                                                                    refine son rfl rfl rfl ?_
                                                                    first | (refine sv rfl (opv_load1 ti22 rfl (.lp _ _ _ rfl) rfl) ?_) | (refine sv rfl (opv_load1 ti22 rfl (.cp _) rfl) ?_) | (refine sv rfl (opv_load1 ti22 rfl (.ap _ _ _ _ _ _ _ rfl (by first | rfl | omega)) rfl) ?_)
                                                                    refine son rfl rfl rfl ?_
                                                                    refine scall1 rfl fn23 (opnds_cons rfl (opnds_cons rfl opnds_nil)) (pubC rfl) (cmp_c) ?_
                                                                    refine son rfl rfl rfl ?_
                                                                    refine sv rfl (opv_geq rfl rfl) ?_
                                                                    refine son rfl rfl rfl ?_
                                                                    first | (refine sv rfl (opv_pick_t rfl rfl) ?_) | (refine sv rfl (opv_pick_f rfl rfl) ?_)
                                                                    first | (refine sv rfl (opv_pick_t rfl rfl) ?_) | (refine sv rfl (opv_pick_f rfl rfl) ?_)
                                                                    first | (refine sv rfl (opv_as rfl) ?_) | (refine sv rfl (opv_ast rfl) ?_)
                                                                    refine snil ?_
                                                                    refine cret ?_
                                                                    refine ⟨Or.inr rfl, _, _, _, (resVs_cons (ResV.tmp _ _ rfl) resVs_nil), (pubA_id rfl), ?_⟩
                                                                    first | rfl | exact avb (decide_eq_true (has_lo (hi := hi) (o := o) (by assumption))) | (have e := has_between (lo := lo) (hi := hi) (o := o) (a := a) (b := b) (c := c) (by assumption) (by assumption) (by assumption) (by assumption); simp_all; done) | (have e := empty_has (lo := lo) (hi := hi) (o := o) (k := a) (by assumption) (ne_nil_of (by assumption)); simp_all; done) | (exfalso; simp_all; done)))
                                                        · replace hg27 := of_decide_eq_false hg27
                                                          first
                                                          | (exfalso; first | omega | contradiction)
                                                          | (
                                                              refine son rfl rfl rfl ?_
                                                              first | (refine sv rfl (opv_loadN ti24 rfl (.lp _ _ _ rfl) (Nat.le_of_ble_eq_true rfl)) ?_) | (refine sv rfl (opv_loadN ti24 rfl (.cp _) (Nat.le_of_ble_eq_true rfl)) ?_)
                                                              refine son rfl rfl rfl ?_
                                                              first | (refine sv rfl (opv_mv rfl) ?_) | (refine sv rfl (opv_mvt rfl) ?_)
                                                              refine son rfl rfl rfl ?_
                                                              refine scall1 rfl fn29 (opnds_cons rfl (opnds_cons rfl opnds_nil)) (pubC rfl) (has_c) ?_
                                                              refine son rfl rfl rfl ?_
                                                              refine sv rfl (opv_not rfl) ?_
                                                              refine son rfl rfl rfl ?_
                                                              first | (refine sv rfl (opv_pick_t rfl rfl) ?_) | (refine sv rfl (opv_pick_f rfl rfl) ?_)
                                                              first | (refine sv rfl (opv_pick_t rfl rfl) ?_) | (refine sv rfl (opv_pick_f rfl rfl) ?_)
                                                              first | (refine sv rfl (opv_mv rfl) ?_) | (refine sv rfl (opv_mvt rfl) ?_)
                                                              refine ssplit 73 rfl (fun hg29 => ?_) (fun hg29 => ?_)
                                                              · replace hg29 := bnot_t hg29
                                                                first
                                                                | (exfalso; first | omega | contradiction)
                                                                | (
                                                                    refine son rfl rfl rfl ?_
                                                                    first | (refine sv rfl (opv_loadN ti24 rfl (.lp _ _ _ rfl) (Nat.le_of_ble_eq_true rfl)) ?_) | (refine sv rfl (opv_loadN ti24 rfl (.cp _) (Nat.le_of_ble_eq_true rfl)) ?_)
                                                                    refine son rfl rfl rfl ?_
                                                                    first | (refine sv rfl (opv_mv rfl) ?_) | (refine sv rfl (opv_mvt rfl) ?_)
                                                                    refine son rfl rfl rfl ?_
                                                                    refine scall1 rfl fn29 (opnds_cons rfl (opnds_cons rfl opnds_nil)) (pubC rfl) (has_c) ?_
                                                                    refine son rfl rfl rfl ?_
                                                                    refine sv rfl (opv_not rfl) ?_
                                                                    refine son rfl rfl rfl ?_
                                                                    first | (refine sv rfl (opv_mv rfl) ?_) | (refine sv rfl (opv_mvt rfl) ?_)
                                                                    refine ssplit 78 rfl (fun hg30 => ?_) (fun hg30 => ?_)
                                                                    · replace hg30 := bnot_t hg30
                                                                      first
                                                                      | (exfalso; first | omega | contradiction)
                                                                      | (
                                                                          refine soff rfl rfl rfl rfl ?_
                                                                          refine soff rfl rfl rfl rfl ?_
                                                                          refine soff rfl rfl rfl rfl ?_
                                                                          refine soff rfl rfl rfl rfl ?_
                                                                          refine soff rfl rfl rfl rfl ?_
                                                                          refine son rfl rfl rfl ?_
                                                                          first | (refine sv rfl (opv_pick_t rfl rfl) ?_) | (refine sv rfl (opv_pick_f rfl rfl) ?_)
                                                                          first | (refine sv rfl (opv_pick_t rfl rfl) ?_) | (refine sv rfl (opv_pick_f rfl rfl) ?_)
                                                                          first | (refine sv rfl (opv_as rfl) ?_) | (refine sv rfl (opv_ast rfl) ?_)
                                                                          refine snil ?_
                                                                          refine cret ?_
                                                                          refine ⟨Or.inr rfl, _, _, _, (resVs_cons (ResV.tmp _ _ rfl) resVs_nil), (pubA_id rfl), ?_⟩
                                                                          first | rfl | exact avb (decide_eq_true (has_lo (hi := hi) (o := o) (by assumption))) | (have e := has_between (lo := lo) (hi := hi) (o := o) (a := a) (b := b) (c := c) (by assumption) (by assumption) (by assumption) (by assumption); simp_all; done) | (have e := empty_has (lo := lo) (hi := hi) (o := o) (k := a) (by assumption) (ne_nil_of (by assumption)); simp_all; done) | (exfalso; simp_all; done))
                                                                    · replace hg30 := bnot_f hg30
                                                                      first
                                                                      | (exfalso; first | omega | contradiction)
                                                                      | (
                                                                          refine son rfl rfl rfl ?_
                                                                          first | (refine sv rfl (opv_mv rfl) ?_) | (refine sv rfl (opv_mvt rfl) ?_)
                                                                          refine son rfl rfl rfl ?_
                                                                          first | (refine sv rfl (opv_fieldAddr_lp fi24_0 rfl) ?_) | (refine sv rfl (opv_fieldAddr_cp fi24_0 rfl) ?_) | (refine sv rfl (opv_fieldAddr_ap fi24_0 rfl rfl (by first | rfl | omega)) ?_)
                                                                          refine son rfl rfl rfl ?_
                                                                          first | (refine sv rfl (opv_load1 ti22 rfl (.lp _ _ _ rfl) rfl) ?_) | (refine sv rfl (opv_load1 ti22 rfl (.cp _) rfl) ?_) | (refine sv rfl (opv_load1 ti22 rfl (.ap _ _ _ _ _ _ _ rfl (by first | rfl | omega)) rfl) ?_)
                                                                          refine son rfl rfl rfl ?_
                                                                          refine scall1 rfl fn23 (opnds_cons rfl (opnds_cons rfl opnds_nil)) (pubC rfl) (cmp_c) ?_
                                                                          refine son rfl rfl rfl ?_
                                                                          refine sv rfl (opv_geq rfl rfl) ?_
                                                                          refine son rfl rfl rfl ?_
                                                                          first | (refine sv rfl (opv_pick_t rfl rfl) ?_) | (refine sv rfl (opv_pick_f rfl rfl) ?_)
                                                                          first | (refine sv rfl (opv_pick_t rfl rfl) ?_) | (refine sv rfl (opv_pick_f rfl rfl) ?_)
                                                                          first | (refine sv rfl (opv_as rfl) ?_) | (refine sv rfl (opv_ast rfl) ?_)
                                                                          refine snil ?_
                                                                          refine cret ?_
                                                                          refine ⟨Or.inr rfl, _, _, _, (resVs_cons (ResV.tmp _ _ rfl) resVs_nil), (pubA_id rfl), ?_⟩
                                                                          first | rfl | exact avb (decide_eq_true (has_lo (hi := hi) (o := o) (by assumption))) | (have e := has_between (lo := lo) (hi := hi) (o := o) (a := a) (b := b) (c := c) (by assumption) (by assumption) (by assumption) (by assumption); simp_all; done) | (have e := empty_has (lo := lo) (hi := hi) (o := o) (k := a) (by assumption) (ne_nil_of (by assumption)); simp_all; done) | (exfalso; simp_all; done)))
                                                              · replace hg29 := bnot_f hg29
                                                                first
                                                                | (exfalso; first | omega | contradiction)
                                                                | (
                                                                    refine soff rfl rfl rfl rfl ?_
                                                                    refine soff rfl rfl rfl rfl ?_
                                                                    refine soff rfl rfl rfl rfl ?_
                                                                    refine soff rfl rfl rfl rfl ?_
                                                                    refine soff rfl rfl rfl rfl ?_
                                                                    refine soffu rfl rfl rfl ?_
                                                                    refine soffu rfl rfl rfl ?_
                                                                    refine soffu rfl rfl rfl ?_
                                                                    refine soffu rfl rfl rfl ?_
                                                                    refine soffu rfl rfl rfl ?_
                                                                    refine soff rfl rfl rfl rfl ?_
                                                                    first | (refine sv rfl (opv_pick_t rfl rfl) ?_) | (refine sv rfl (opv_pick_f rfl rfl) ?_)
                                                                    first | (refine sv rfl (opv_as rfl) ?_) | (refine sv rfl (opv_ast rfl) ?_)
                                                                    refine snil ?_
                                                                    refine cret ?_
                                                                    refine ⟨Or.inr rfl, _, _, _, (resVs_cons (ResV.tmp _ _ rfl) resVs_nil), (pubA_id rfl), ?_⟩
                                                                    first | rfl | exact avb (decide_eq_true (has_lo (hi := hi) (o := o) (by assumption))) | (have e := has_between (lo := lo) (hi := hi) (o := o) (a := a) (b := b) (c := c) (by assumption) (by assumption) (by assumption) (by assumption); simp_all; done) | (have e := empty_has (lo := lo) (hi := hi) (o := o) (k := a) (by assumption) (ne_nil_of (by assumption)); simp_all; done) | (exfalso; simp_all; done)))))
                                            · first
                                              | (exfalso; first | omega | contradiction)
                                              | (
                                                  refine soff rfl rfl rfl rfl ?_
                                                  refine soff rfl rfl rfl rfl ?_
                                                  refine soff rfl rfl rfl rfl ?_
                                                  refine soff rfl rfl rfl rfl ?_
                                                  refine soffu rfl rfl rfl ?_
                                                  refine soffu rfl rfl rfl ?_
                                                  refine soffu rfl rfl rfl ?_
                                                  refine soff rfl rfl rfl rfl ?_
                                                  refine soff rfl rfl rfl rfl ?_
                                                  refine soffu rfl rfl rfl ?_
                                                  refine soffu rfl rfl rfl ?_
                                                  refine soffu rfl rfl rfl ?_
                                                  refine soffu rfl rfl rfl ?_
                                                  refine soff rfl rfl rfl rfl ?_
                                                  first | (refine sv rfl (opv_pick_t rfl rfl) ?_) | (refine sv rfl (opv_pick_f rfl rfl) ?_)
                                                  first | (refine sv rfl (opv_mv rfl) ?_) | (refine sv rfl (opv_mvt rfl) ?_)
                                                  refine soff rfl rfl rfl rfl ?_
                                                  refine soff rfl rfl rfl rfl ?_
                                                  refine soff rfl rfl rfl rfl ?_
                                                  refine soff rfl rfl rfl rfl ?_
                                                  refine soff rfl rfl rfl rfl ?_
                                                  refine soffu rfl rfl rfl ?_
                                                  refine soffu rfl rfl rfl ?_
                                                  refine soffu rfl rfl rfl ?_
                                                  refine soffu rfl rfl rfl ?_
                                                  refine soffu rfl rfl rfl ?_
                                                  refine soff rfl rfl rfl rfl ?_
                                                  first | (refine sv rfl (opv_pick_t rfl rfl) ?_) | (refine sv rfl (opv_pick_f rfl rfl) ?_)
                                                  first | (refine sv rfl (opv_as rfl) ?_) | (refine sv rfl (opv_ast rfl) ?_)
                                                  refine snil ?_
                                                  refine cret ?_
                                                  refine ⟨Or.inr rfl, _, _, _, (resVs_cons (ResV.tmp _ _ rfl) resVs_nil), (pubA_id rfl), ?_⟩
                                                  first | rfl | exact avb (decide_eq_true (has_lo (hi := hi) (o := o) (by assumption))) | (have e := has_between (lo := lo) (hi := hi) (o := o) (a := a) (b := b) (c := c) (by assumption) (by assumption) (by assumption) (by assumption); simp_all; done) | (have e := empty_has (lo := lo) (hi := hi) (o := o) (k := a) (by assumption) (ne_nil_of (by assumption)); simp_all; done) | (exfalso; simp_all; done))))
                                · first
                                  | (exfalso; first | omega | contradiction)
                                  | (
                                      refine soff rfl rfl rfl rfl ?_
                                      refine soff rfl rfl rfl rfl ?_
                                      refine soff rfl rfl rfl rfl ?_
                                      refine soff rfl rfl rfl rfl ?_
                                      first | (refine sv rfl (opv_pick_t rfl rfl) ?_) | (refine sv rfl (opv_pick_f rfl rfl) ?_)
                                      first | (refine sv rfl (opv_mv rfl) ?_) | (refine sv rfl (opv_mvt rfl) ?_)
                                      refine soff rfl rfl rfl rfl ?_
                                      refine soff rfl rfl rfl rfl ?_
                                      refine soff rfl rfl rfl rfl ?_
                                      refine soff rfl rfl rfl rfl ?_
                                      first | (refine sv rfl (opv_pick_t rfl rfl) ?_) | (refine sv rfl (opv_pick_f rfl rfl) ?_)
                                      first | (refine sv rfl (opv_mv rfl) ?_) | (refine sv rfl (opv_mvt rfl) ?_)
                                      refine soff rfl rfl rfl rfl ?_
                                      refine soff rfl rfl rfl rfl ?_
                                      refine soff rfl rfl rfl rfl ?_
                                      refine soff rfl rfl rfl rfl ?_
                                      first | (refine sv rfl (opv_pick_t rfl rfl) ?_) | (refine sv rfl (opv_pick_f rfl rfl) ?_)
                                      refine snil ?_
                                      refine ccond rfl (fun hx => Bool.noConfusion hx) (fun _ => ?_)
                                      refine cskip ?_
                                      refine then_normal ?_
                                      refine cseq ?_
                                      refine cregion ?_
                                      first | (refine sv rfl (opv_mv rfl) ?_) | (refine sv rfl (opv_mvt rfl) ?_)
                                      first | (refine sv rfl (opv_mv rfl) ?_) | (refine sv rfl (opv_mvt rfl) ?_)
                                      refine ssplit 57 rfl (fun hg31 => ?_) (fun hg31 => ?_)
                                      · first
                                        | (exfalso; first | omega | contradiction)
                                        | (
                                            refine son rfl rfl rfl ?_
                                            first | (refine sv rfl (opv_loadN ti24 rfl (.lp _ _ _ rfl) (Nat.le_of_ble_eq_true rfl)) ?_) | (refine sv rfl (opv_loadN ti24 rfl (.cp _) (Nat.le_of_ble_eq_true rfl)) ?_)
                                            refine son rfl rfl rfl ?_
                                            refine scall1 rfl fn31 (opnds_cons rfl opnds_nil) (pubC rfl) (empty_c) ?_
                                            refine son rfl rfl rfl ?_
                                            refine sv rfl (opv_not rfl) ?_
                                            refine son rfl rfl rfl ?_
                                            first | (refine sv rfl (opv_mv rfl) ?_) | (refine sv rfl (opv_mvt rfl) ?_)
                                            refine ssplit 61 rfl (fun hg32 => ?_) (fun hg32 => ?_)
                                            · replace hg32 := bnot_t hg32
                                              first
                                              | (exfalso; first | omega | contradiction)
                                              | (
                                                  refine soff rfl rfl rfl rfl ?_
                                                  refine soff rfl rfl rfl rfl ?_
                                                  refine soff rfl rfl rfl rfl ?_
                                                  refine son rfl rfl rfl ?_
                                                  first | (refine sv rfl (opv_pick_t rfl rfl) ?_) | (refine sv rfl (opv_pick_f rfl rfl) ?_)
                                                  refine son rfl rfl rfl ?_
                                                  first | (refine sv rfl (opv_mv rfl) ?_) | (refine sv rfl (opv_mvt rfl) ?_)
                                                  refine soff rfl rfl rfl rfl ?_
                                                  refine soff rfl rfl rfl rfl ?_
                                                  refine soff rfl rfl rfl rfl ?_
                                                  refine soff rfl rfl rfl rfl ?_
                                                  refine son rfl rfl rfl ?_
                                                  first | (refine sv rfl (opv_pick_t rfl rfl) ?_) | (refine sv rfl (opv_pick_f rfl rfl) ?_)
                                                  first | (refine sv rfl (opv_pick_t rfl rfl) ?_) | (refine sv rfl (opv_pick_f rfl rfl) ?_)
                                                  first | (refine sv rfl (opv_mv rfl) ?_) | (refine sv rfl (opv_mvt rfl) ?_)
                                                  refine son rfl rfl rfl ?_
                                                  first | (refine sv rfl (opv_loadN ti24 rfl (.lp _ _ _ rfl) (Nat.le_of_ble_eq_true rfl)) ?_) | (refine sv rfl (opv_loadN ti24 rfl (.cp _) (Nat.le_of_ble_eq_true rfl)) ?_)
                                                  refine son rfl rfl rfl ?_
                                                  first | (refine sv rfl (opv_mv rfl) ?_) | (refine sv rfl (opv_mvt rfl) ?_)
                                                  refine son rfl rfl rfl ?_
                                                  refine scall1 rfl fn29 (opnds_cons rfl (opnds_cons rfl opnds_nil)) (pubC rfl) (has_c) ?_
                                                  refine son rfl rfl rfl ?_
                                                  refine sv rfl (opv_not rfl) ?_
                                                  refine son rfl rfl rfl ?_
                                                  first | (refine sv rfl (opv_mv rfl) ?_) | (refine sv rfl (opv_mvt rfl) ?_)
                                                  refine ssplit 78 rfl (fun hg33 => ?_) (fun hg33 => ?_)
                                                  · replace hg33 := bnot_t hg33
                                                    first
                                                    | (exfalso; first | omega | contradiction)
                                                    | (
                                                        refine soff rfl rfl rfl rfl ?_
                                                        refine soff rfl rfl rfl rfl ?_
                                                        refine soff rfl rfl rfl rfl ?_
                                                        refine soff rfl rfl rfl rfl ?_
                                                        refine soff rfl rfl rfl rfl ?_
                                                        refine son rfl rfl rfl ?_
                                                        first | (refine sv rfl (opv_pick_t rfl rfl) ?_) | (refine sv rfl (opv_pick_f rfl rfl) ?_)
                                                        first | (refine sv rfl (opv_pick_t rfl rfl) ?_) | (refine sv rfl (opv_pick_f rfl rfl) ?_)
                                                        first | (refine sv rfl (opv_as rfl) ?_) | (refine sv rfl (opv_ast rfl) ?_)
                                                        refine snil ?_
                                                        refine cret ?_
                                                        refine ⟨Or.inr rfl, _, _, _, (resVs_cons (ResV.tmp _ _ rfl) resVs_nil), (pubA_id rfl), ?_⟩
                                                        first | rfl | exact avb (decide_eq_true (has_lo (hi := hi) (o := o) (by assumption))) | (have e := has_between (lo := lo) (hi := hi) (o := o) (a := a) (b := b) (c := c) (by assumption) (by assumption) (by assumption) (by assumption); simp_all; done) | (have e := empty_has (lo := lo) (hi := hi) (o := o) (k := a) (by assumption) (ne_nil_of (by assumption)); simp_all; done) | (exfalso; simp_all; done))
                                                  · replace hg33 := bnot_f hg33
                                                    first
                                                    | (exfalso; first | omega | contradiction)
                                                    | (
                                                        refine son rfl rfl rfl ?_
                                                        first | (refine sv rfl (opv_mv rfl) ?_) | (refine sv rfl (opv_mvt rfl) ?_)
                                                        refine son rfl rfl rfl ?_
                                                        first | (refine sv rfl (opv_fieldAddr_lp fi24_0 rfl) ?_) | (refine sv rfl (opv_fieldAddr_cp fi24_0 rfl) ?_) | (refine sv rfl (opv_fieldAddr_ap fi24_0 rfl rfl (by first | rfl | omega)) ?_)
                                                        refine son rfl rfl rfl ?_
                                                        first | (refine sv rfl (opv_load1 ti22 rfl (.lp _ _ _ rfl) rfl) ?_) | (refine sv rfl (opv_load1 ti22 rfl (.cp _) rfl) ?_) | (refine sv rfl (opv_load1 ti22 rfl (.ap _ _ _ _ _ _ _ rfl (by first | rfl | omega)) rfl) ?_)
                                                        refine son rfl rfl rfl ?_
                                                        refine scall1 rfl fn23 (opnds_cons rfl (opnds_cons rfl opnds_nil)) (pubC rfl) (cmp_c) ?_
                                                        refine son rfl rfl rfl ?_
                                                        refine sv rfl (opv_geq rfl rfl) ?_
                                                        refine son rfl rfl rfl ?_
                                                        first | (refine sv rfl (opv_pick_t rfl rfl) ?_) | (refine sv rfl (opv_pick_f rfl rfl) ?_)
                                                        first | (refine sv rfl (opv_pick_t rfl rfl) ?_) | (refine sv rfl (opv_pick_f rfl rfl) ?_)
                                                        first | (refine sv rfl (opv_as rfl) ?_) | (refine sv rfl (opv_ast rfl) ?_)
                                                        refine snil ?_
                                                        refine cret ?_
                                                        refine ⟨Or.inr rfl, _, _, _, (resVs_cons (ResV.tmp _ _ rfl) resVs_nil), (pubA_id rfl), ?_⟩
                                                        first | rfl | exact avb (decide_eq_true (has_lo (hi := hi) (o := o) (by assumption))) | (have e := has_between (lo := lo) (hi := hi) (o := o) (a := a) (b := b) (c := c) (by assumption) (by assumption) (by assumption) (by assumption); simp_all; done) | (have e := empty_has (lo := lo) (hi := hi) (o := o) (k := a) (by assumption) (ne_nil_of (by assumption)); simp_all; done) | (exfalso; simp_all; done)))
                                            · replace hg32 := bnot_f hg32
                                              first
                                              | (exfalso; first | omega | contradiction)
                                              | (
                                                  refine son rfl rfl rfl ?_
                                                  first | (refine sv rfl (opv_mv rfl) ?_) | (refine sv rfl (opv_mvt rfl) ?_)
                                                  refine son rfl rfl rfl ?_
                                                  first | (refine sv rfl (opv_len_sl si22 rfl) ?_) | (refine sv rfl (opv_len_nil si22 rfl) ?_) | (refine sv rfl (opv_len_ls si22 rfl rfl (by first | rfl | omega)) ?_)
                                                  refine son rfl rfl rfl ?_
                                                  refine sv rfl (opv_ieql rfl rfl) ?_
                                                  refine son rfl rfl rfl ?_
                                                  first | (refine sv rfl (opv_pick_t rfl rfl) ?_) | (refine sv rfl (opv_pick_f rfl rfl) ?_)
                                                  refine son rfl rfl rfl ?_
                                                  first | (refine sv rfl (opv_mv rfl) ?_) | (refine sv rfl (opv_mvt rfl) ?_)
                                                  refine ssplit 66 rfl (fun hg34 => ?_) (fun hg34 => ?_)
                                                  · replace hg34 := of_decide_eq_true hg34
                                                    first
                                                    | (exfalso; first | omega | contradiction)
                                                    | (
                                                        refine soff rfl rfl rfl rfl ?_
                                                        refine soff rfl rfl rfl rfl ?_
                                                        refine soff rfl rfl rfl rfl ?_
                                                        refine soff rfl rfl rfl rfl ?_
                                                        refine son rfl rfl rfl ?_
                                                        first | (refine sv rfl (opv_pick_t rfl rfl) ?_) | (refine sv rfl (opv_pick_f rfl rfl) ?_)
                                                        first | (refine sv rfl (opv_pick_t rfl rfl) ?_) | (refine sv rfl (opv_pick_f rfl rfl) ?_)
                                                        first | (refine sv rfl (opv_mv rfl) ?_) | (refine sv rfl (opv_mvt rfl) ?_)
                                                        refine son rfl rfl rfl ?_
                                                        first | (refine sv rfl (opv_loadN ti24 rfl (.lp _ _ _ rfl) (Nat.le_of_ble_eq_true rfl)) ?_) | (refine sv rfl (opv_loadN ti24 rfl (.cp _) (Nat.le_of_ble_eq_true rfl)) ?_)
                                                        refine son rfl rfl rfl ?_
                                                        first | (refine sv rfl (opv_mv rfl) ?_) | (refine sv rfl (opv_mvt rfl) ?_)
                                                        refine son rfl rfl rfl ?_
                                                        refine scall1 rfl fn29 (opnds_cons rfl (opnds_cons rfl opnds_nil)) (pubC rfl) (has_c) ?_
                                                        refine son rfl rfl rfl ?_
                                                        refine sv rfl (opv_not rfl) ?_
                                                        refine son rfl rfl rfl ?_
                                                        first | (refine sv rfl (opv_mv rfl) ?_) | (refine sv rfl (opv_mvt rfl) ?_)
                                                        refine ssplit 78 rfl (fun hg35 => ?_) (fun hg35 => ?_)
                                                        · replace hg35 := bnot_t hg35
                                                          first
                                                          | (exfalso; first | omega | contradiction)
                                                          | (
                                                              refine soff rfl rfl rfl rfl ?_
                                                              refine soff rfl rfl rfl rfl ?_
                                                              refine soff rfl rfl rfl rfl ?_
                                                              refine soff rfl rfl rfl rfl ?_
                                                              refine soff rfl rfl rfl rfl ?_
                                                              refine son rfl rfl rfl ?_
                                                              first | (refine sv rfl (opv_pick_t rfl rfl) ?_) | (refine sv rfl (opv_pick_f rfl rfl) ?_)
                                                              first | (refine sv rfl (opv_pick_t rfl rfl) ?_) | (refine sv rfl (opv_pick_f rfl rfl) ?_)
                                                              first | (refine sv rfl (opv_as rfl) ?_) | (refine sv rfl (opv_ast rfl) ?_)
                                                              refine snil ?_
                                                              refine cret ?_
                                                              refine ⟨Or.inr rfl, _, _, _, (resVs_cons (ResV.tmp _ _ rfl) resVs_nil), (pubA_id rfl), ?_⟩
                                                              first | rfl | exact avb (decide_eq_true (has_lo (hi := hi) (o := o) (by assumption))) | (have e := has_between (lo := lo) (hi := hi) (o := o) (a := a) (b := b) (c := c) (by assumption) (by assumption) (by assumption) (by assumption); simp_all; done) | (have e := empty_has (lo := lo) (hi := hi) (o := o) (k := a) (by assumption) (ne_nil_of (by assumption)); simp_all; done) | (exfalso; simp_all; done))
                                                        · replace hg35 := bnot_f hg35
                                                          first
                                                          | (exfalso; first | omega | contradiction)
                                                          | (
                                                              refine son rfl rfl rfl ?_
                                                              first | (refine sv rfl (opv_mv rfl) ?_) | (refine sv rfl (opv_mvt rfl) ?_)
                                                              refine son rfl rfl rfl ?_
                                                              first | (refine sv rfl (opv_fieldAddr_lp fi24_0 rfl) ?_) | (refine sv rfl (opv_fieldAddr_cp fi24_0 rfl) ?_) | (refine sv rfl (opv_fieldAddr_ap fi24_0 rfl rfl (by first | rfl | omega)) ?_)
                                                              refine son rfl rfl rfl ?_
                                                              first | (refine sv rfl (opv_load1 ti22 rfl (.lp _ _ _ rfl) rfl) ?_) | (refine sv rfl (opv_load1 ti22 rfl (.cp _) rfl) ?_) | (refine sv rfl (opv_load1 ti22 rfl (.ap _ _ _ _ _ _ _ rfl (by first | rfl | omega)) rfl) ?_)
                                                              refine son rfl rfl rfl ?_
                                                              refine scall1 rfl fn23 (opnds_cons rfl (opnds_cons rfl opnds_nil)) (pubC rfl) (cmp_c) ?_
                                                              refine son rfl rfl rfl ?_
                                                              refine sv rfl (opv_geq rfl rfl) ?_
                                                              refine son rfl rfl rfl ?_
                                                              first | (refine sv rfl (opv_pick_t rfl rfl) ?_) | (refine sv rfl (opv_pick_f rfl rfl) ?_)
                                                              first | (refine sv rfl (opv_pick_t rfl rfl) ?_) | (refine sv rfl (opv_pick_f rfl rfl) ?_)
                                                              first | (refine sv rfl (opv_as rfl) ?_) | (refine sv rfl (opv_ast rfl) ?_)
                                                              refine snil ?_
                                                              refine cret ?_
                                                              refine ⟨Or.inr rfl, _, _, _, (resVs_cons (ResV.tmp _ _ rfl) resVs_nil), (pubA_id rfl), ?_⟩
                                                              first | rfl | exact avb (decide_eq_true (has_lo (hi := hi) (o := o) (by assumption))) | (have e := has_between (lo := lo) (hi := hi) (o := o) (a := a) (b := b) (c := c) (by assumption) (by assumption) (by assumption) (by assumption); simp_all; done) | (have e := empty_has (lo := lo) (hi := hi) (o := o) (k := a) (by assumption) (ne_nil_of (by assumption)); simp_all; done) | (exfalso; simp_all; done)))
                                                  · replace hg34 := of_decide_eq_false hg34
                                                    first
                                                    | (exfalso; first | omega | contradiction)
                                                    | (
                                                        refine son rfl rfl rfl ?_
                                                        first | (refine sv rfl (opv_loadN ti24 rfl (.lp _ _ _ rfl) (Nat.le_of_ble_eq_true rfl)) ?_) | (refine sv rfl (opv_loadN ti24 rfl (.cp _) (Nat.le_of_ble_eq_true rfl)) ?_)
                                                        refine son rfl rfl rfl ?_
                                                        first | (refine sv rfl (opv_mv rfl) ?_) | (refine sv rfl (opv_mvt rfl) ?_)
                                                        refine son rfl rfl rfl ?_
                                                        refine scall1 rfl fn29 (opnds_cons rfl (opnds_cons rfl opnds_nil)) (pubC rfl) (has_c) ?_
                                                        refine son rfl rfl rfl ?_
                                                        refine sv rfl (opv_not rfl) ?_
                                                        refine son rfl rfl rfl ?_
                                                        first | (refine sv rfl (opv_pick_t rfl rfl) ?_) | (refine sv rfl (opv_pick_f rfl rfl) ?_)
                                                        first | (refine sv rfl (opv_pick_t rfl rfl) ?_) | (refine sv rfl (opv_pick_f rfl rfl) ?_)
                                                        first | (refine sv rfl (opv_mv rfl) ?_) | (refine sv rfl (opv_mvt rfl) ?_)
                                                        refine ssplit 73 rfl (fun hg36 => ?_) (fun hg36 => ?_)
                                                        · replace hg36 := bnot_t hg36
                                                          first
                                                          | (exfalso; first | omega | contradiction)
                                                          | (
                                                              refine son rfl rfl rfl ?_
                                                              first | (refine sv rfl (opv_loadN ti24 rfl (.lp _ _ _ rfl) (Nat.le_of_ble_eq_true rfl)) ?_) | (refine sv rfl (opv_loadN ti24 rfl (.cp _) (Nat.le_of_ble_eq_true rfl)) ?_)
                                                              refine son rfl rfl rfl ?_
                                                              first | (refine sv rfl (opv_mv rfl) ?_) | (refine sv rfl (opv_mvt rfl) ?_)
                                                              refine son rfl rfl rfl ?_
                                                              refine scall1 rfl fn29 (opnds_cons rfl (opnds_cons rfl opnds_nil)) (pubC rfl) (has_c) ?_
                                                              refine son rfl rfl rfl ?_
                                                              refine sv rfl (opv_not rfl) ?_
                                                              refine son rfl rfl rfl ?_
                                                              first | (refine sv rfl (opv_mv rfl) ?_) | (refine sv rfl (opv_mvt rfl) ?_)
                                                              refine ssplit 78 rfl (fun hg37 => ?_) (fun hg37 => ?_)
                                                              · replace hg37 := bnot_t hg37
                                                                first
                                                                | (exfalso; first | omega | contradiction)
                                                                | (
                                                                    refine soff rfl rfl rfl rfl ?_
                                                                    refine soff rfl rfl rfl rfl ?_
                                                                    refine soff rfl rfl rfl rfl ?_
                                                                    refine soff rfl rfl rfl rfl ?_
                                                                    refine soff rfl rfl rfl rfl ?_
                                                                    refine son rfl rfl rfl ?_
                                                                    first | (refine sv rfl (opv_pick_t rfl rfl) ?_) | (refine sv rfl (opv_pick_f rfl rfl) ?_)
                                                                    first | (refine sv rfl (opv_pick_t rfl rfl) ?_) | (refine sv rfl (opv_pick_f rfl rfl) ?_)
                                                                    first | (refine sv rfl (opv_as rfl) ?_) | (refine sv rfl (opv_ast rfl) ?_)
                                                                    refine snil ?_
                                                                    refine cret ?_
                                                                    refine ⟨Or.inr rfl, _, _, _, (resVs_cons (ResV.tmp _ _ rfl) resVs_nil), (pubA_id rfl), ?_⟩
                                                                    first | rfl | exact avb (decide_eq_true (has_lo (hi := hi) (o := o) (by assumption))) | (have e := has_between (lo := lo) (hi := hi) (o := o) (a := a) (b := b) (c := c) (by assumption) (by assumption) (by assumption) (by assumption); simp_all; done) | (have e := empty_has (lo := lo) (hi := hi) (o := o) (k := a) (by assumption) (ne_nil_of (by assumption)); simp_all; done) | (exfalso; simp_all; done))
                                                              · replace hg37 := bnot_f hg37
                                                                first
                                                                | (exfalso; first | omega | contradiction)
                                                                | (
                                                                    refine son rfl rfl rfl ?_
                                                                    first | (refine sv rfl (opv_mv rfl) ?_) | (refine sv rfl (opv_mvt rfl) ?_)
                                                                    refine son rfl rfl rfl ?_
                                                                    first | (refine sv rfl (opv_fieldAddr_lp fi24_0 rfl) ?_) | (refine sv rfl (opv_fieldAddr_cp fi24_0 rfl) ?_) | (refine sv rfl (opv_fieldAddr_ap fi24_0 rfl rfl (by first | rfl | omega)) ?_)
                                                                    refine son rfl rfl rfl ?_
                                                                    first | (refine sv rfl (opv_load1 ti22 rfl (.lp _ _ _ rfl) rfl) ?_) | (refine sv rfl (opv_load1 ti22 rfl (.cp _) rfl) ?_) | (refine sv rfl (opv_load1 ti22 rfl (.ap _ _ _ _ _ _ _ rfl (by first | rfl | omega)) rfl) ?_)
                                                                    refine son rfl rfl rfl ?_
                                                                    refine scall1 rfl fn23 (opnds_cons rfl (opnds_cons rfl opnds_nil)) (pubC rfl) (cmp_c) ?_
                                                                    refine son rfl rfl rfl ?_
                                                                    refine sv rfl (opv_geq rfl rfl) ?_
                                                                    refine son rfl rfl rfl ?_
                                                                    first | (refine sv rfl (opv_pick_t rfl rfl) ?_) | (refine sv rfl (opv_pick_f rfl rfl) ?_)
                                                                    first | (refine sv rfl (opv_pick_t rfl rfl) ?_) | (refine sv rfl (opv_pick_f rfl rfl) ?_)
                                                                    first | (refine sv rfl (opv_as rfl) ?_) | (refine sv rfl (opv_ast rfl) ?_)
                                                                    refine snil ?_
                                                                    refine cret ?_
                                                                    refine ⟨Or.inr rfl, _, _, _, (resVs_cons (ResV.tmp _ _ rfl) resVs_nil), (pubA_id rfl), ?_⟩
                                                                    first | rfl | exact avb (decide_eq_true (has_lo (hi := hi) (o := o) (by assumption))) | (have e := has_between (lo := lo) (hi := hi) (o := o) (a := a) (b := b) (c := c) (by assumption) (by assumption) (by assumption) (by assumption); simp_all; done) | (have e := empty_has (lo := lo) (hi := hi) (o := o) (k := a) (by assumption) (ne_nil_of (by assumption)); simp_all; done) | (exfalso; simp_all; done)))
                                                        · replace hg36 := bnot_f hg36
                                                          first
                                                          | (exfalso; first | omega | contradiction)
                                                          | (
                                                              refine soff rfl rfl rfl rfl ?_
                                                              refine soff rfl rfl rfl rfl ?_
                                                              refine soff rfl rfl rfl rfl ?_
                                                              refine soff rfl rfl rfl rfl ?_
                                                              refine soff rfl rfl rfl rfl ?_
                                                              refine soffu rfl rfl rfl ?_
                                                              refine soffu rfl rfl rfl ?_
                                                              refine soffu rfl rfl rfl ?_
                                                              refine soffu rfl rfl rfl ?_
                                                              refine soffu rfl rfl rfl ?_
                                                              refine soff rfl rfl rfl rfl ?_
                                                              first | (refine sv rfl (opv_pick_t rfl rfl) ?_) | (refine sv rfl (opv_pick_f rfl rfl) ?_)
                                                              first | (refine sv rfl (opv_as rfl) ?_) | (refine sv rfl (opv_ast rfl) ?_)
                                                              refine snil ?_
                                                              refine cret ?_
                                                              refine ⟨Or.inr rfl, _, _, _, (resVs_cons (ResV.tmp _ _ rfl) resVs_nil), (pubA_id rfl), ?_⟩
                                                              first | rfl | exact avb (decide_eq_true (has_lo (hi := hi) (o := o) (by assumption))) | (have e := has_between (lo := lo) (hi := hi) (o := o) (a := a) (b := b) (c := c) (by assumption) (by assumption) (by assumption) (by assumption); simp_all; done) | (have e := empty_has (lo := lo) (hi := hi) (o := o) (k := a) (by assumption) (ne_nil_of (by assumption)); simp_all; done) | (exfalso; simp_all; done)))))
                                      · first
                                        | (exfalso; first | omega | contradiction)
                                        | (
                                            refine soff rfl rfl rfl rfl ?_
                                            refine soff rfl rfl rfl rfl ?_
                                            refine soff rfl rfl rfl rfl ?_
                                            refine soff rfl rfl rfl rfl ?_
                                            refine soffu rfl rfl rfl ?_
                                            refine soffu rfl rfl rfl ?_
                                            refine soffu rfl rfl rfl ?_
                                            refine soff rfl rfl rfl rfl ?_
                                            refine soff rfl rfl rfl rfl ?_
                                            refine soffu rfl rfl rfl ?_
                                            refine soffu rfl rfl rfl ?_
                                            refine soffu rfl rfl rfl ?_
                                            refine soffu rfl rfl rfl ?_
                                            refine soff rfl rfl rfl rfl ?_
                                            first | (refine sv rfl (opv_pick_t rfl rfl) ?_) | (refine sv rfl (opv_pick_f rfl rfl) ?_)
                                            first | (refine sv rfl (opv_mv rfl) ?_) | (refine sv rfl (opv_mvt rfl) ?_)
                                            refine soff rfl rfl rfl rfl ?_
                                            refine soff rfl rfl rfl rfl ?_
                                            refine soff rfl rfl rfl rfl ?_
                                            refine soff rfl rfl rfl rfl ?_
                                            refine soff rfl rfl rfl rfl ?_
                                            refine soffu rfl rfl rfl ?_
                                            refine soffu rfl rfl rfl ?_
                                            refine soffu rfl rfl rfl ?_
                                            refine soffu rfl rfl rfl ?_
                                            refine soffu rfl rfl rfl ?_
                                            refine soff rfl rfl rfl rfl ?_
                                            first | (refine sv rfl (opv_pick_t rfl rfl) ?_) | (refine sv rfl (opv_pick_f rfl rfl) ?_)
                                            first | (refine sv rfl (opv_as rfl) ?_) | (refine sv rfl (opv_ast rfl) ?_)
                                            refine snil ?_
                                            refine cret ?_
                                            refine ⟨Or.inr rfl, _, _, _, (resVs_cons (ResV.tmp _ _ rfl) resVs_nil), (pubA_id rfl), ?_⟩
                                            first | rfl | exact avb (decide_eq_true (has_lo (hi := hi) (o := o) (by assumption))) | (have e := has_between (lo := lo) (hi := hi) (o := o) (a := a) (b := b) (c := c) (by assumption) (by assumption) (by assumption) (by assumption); simp_all; done) | (have e := empty_has (lo := lo) (hi := hi) (o := o) (k := a) (by assumption) (ne_nil_of (by assumption)); simp_all; done) | (exfalso; simp_all; done))))
                          · first
                            | (exfalso; first | omega | contradiction)
                            | (
                                refine soff rfl rfl rfl rfl ?_
                                refine soff rfl rfl rfl rfl ?_
                                refine soff rfl rfl rfl rfl ?_
                                first | (refine sv rfl (opv_pick_t rfl rfl) ?_) | (refine sv rfl (opv_pick_f rfl rfl) ?_)
                                first | (refine sv rfl (opv_mv rfl) ?_) | (refine sv rfl (opv_mvt rfl) ?_)
                                refine soff rfl rfl rfl rfl ?_
                                refine soff rfl rfl rfl rfl ?_
                                refine soff rfl rfl rfl rfl ?_
                                refine soff rfl rfl rfl rfl ?_
                                first | (refine sv rfl (opv_pick_t rfl rfl) ?_) | (refine sv rfl (opv_pick_f rfl rfl) ?_)
                                first | (refine sv rfl (opv_mv rfl) ?_) | (refine sv rfl (opv_mvt rfl) ?_)
                                refine soff rfl rfl rfl rfl ?_
                                refine soff rfl rfl rfl rfl ?_
                                refine soff rfl rfl rfl rfl ?_
                                refine soff rfl rfl rfl rfl ?_
                                first | (refine sv rfl (opv_pick_t rfl rfl) ?_) | (refine sv rfl (opv_pick_f rfl rfl) ?_)
                                first | (refine sv rfl (opv_mv rfl) ?_) | (refine sv rfl (opv_mvt rfl) ?_)
                                refine soff rfl rfl rfl rfl ?_
                                refine soff rfl rfl rfl rfl ?_
                                refine soff rfl rfl rfl rfl ?_
                                refine soff rfl rfl rfl rfl ?_
                                first | (refine sv rfl (opv_pick_t rfl rfl) ?_) | (refine sv rfl (opv_pick_f rfl rfl) ?_)
                                refine snil ?_
                                refine ccond rfl (fun hx => Bool.noConfusion hx) (fun _ => ?_)
                                refine cskip ?_
                                refine then_normal ?_
                                refine cseq ?_
                                refine cregion ?_
                                first | (refine sv rfl (opv_mv rfl) ?_) | (refine sv rfl (opv_mvt rfl) ?_)
                                first | (refine sv rfl (opv_mv rfl) ?_) | (refine sv rfl (opv_mvt rfl) ?_)
                                refine ssplit 57 rfl (fun hg38 => ?_) (fun hg38 => ?_)
                                · first
                                  | (exfalso; first | omega | contradiction)
                                  | (
                                      refine son rfl rfl rfl ?_
                                      first | (refine sv rfl (opv_loadN ti24 rfl (.lp _ _ _ rfl) (Nat.le_of_ble_eq_true rfl)) ?_) | (refine sv rfl (opv_loadN ti24 rfl (.cp _) (Nat.le_of_ble_eq_true rfl)) ?_)
                                      refine son rfl rfl rfl ?_
                                      refine scall1 rfl fn31 (opnds_cons rfl opnds_nil) (pubC rfl) (empty_c) ?_
                                      refine son rfl rfl rfl ?_
                                      refine sv rfl (opv_not rfl) ?_
                                      refine son rfl rfl rfl ?_
                                      first | (refine sv rfl (opv_mv rfl) ?_) | (refine sv rfl (opv_mvt rfl) ?_)
                                      refine ssplit 61 rfl (fun hg39 => ?_) (fun hg39 => ?_)
                                      · replace hg39 := bnot_t hg39
                                        first
                                        | (exfalso; first | omega | contradiction)
                                        | (
                                            refine soff rfl rfl rfl rfl ?_
                                            refine soff rfl rfl rfl rfl ?_
                                            refine soff rfl rfl rfl rfl ?_
                                            refine son rfl rfl rfl ?_
                                            first | (refine sv rfl (opv_pick_t rfl rfl) ?_) | (refine sv rfl (opv_pick_f rfl rfl) ?_)
                                            refine son rfl rfl rfl ?_
                                            first | (refine sv rfl (opv_mv rfl) ?_) | (refine sv rfl (opv_mvt rfl) ?_)
                                            refine soff rfl rfl rfl rfl ?_
                                            refine soff rfl rfl rfl rfl ?_
                                            refine soff rfl rfl rfl rfl ?_
                                            refine soff rfl rfl rfl rfl ?_
                                            refine son rfl rfl rfl ?_
                                            first | (refine sv rfl (opv_pick_t rfl rfl) ?_) | (refine sv rfl (opv_pick_f rfl rfl) ?_)
                                            first | (refine sv rfl (opv_pick_t rfl rfl) ?_) | (refine sv rfl (opv_pick_f rfl rfl) ?_)
                                            first | (refine sv rfl (opv_mv rfl) ?_) | (refine sv rfl (opv_mvt rfl) ?_)
                                            refine son rfl rfl rfl ?_
                                            first | (refine sv rfl (opv_loadN ti24 rfl (.lp _ _ _ rfl) (Nat.le_of_ble_eq_true rfl)) ?_) | (refine sv rfl (opv_loadN ti24 rfl (.cp _) (Nat.le_of_ble_eq_true rfl)) ?_)
                                            refine son rfl rfl rfl ?_
                                            first | (refine sv rfl (opv_mv rfl) ?_) | (refine sv rfl (opv_mvt rfl) ?_)
                                            refine son rfl rfl rfl ?_
                                            refine scall1 rfl fn29 (opnds_cons rfl (opnds_cons rfl opnds_nil)) (pubC rfl) (has_c) ?_
                                            refine son rfl rfl rfl ?_
                                            refine sv rfl (opv_not rfl) ?_
                                            refine son rfl rfl rfl ?_
                                            first | (refine sv rfl (opv_mv rfl) ?_) | (refine sv rfl (opv_mvt rfl) ?_)
                                            refine ssplit 78 rfl (fun hg40 => ?_) (fun hg40 => ?_)
                                            · replace hg40 := bnot_t hg40
                                              first
                                              | (exfalso; first | omega | contradiction)
                                              | (
                                                  refine soff rfl rfl rfl rfl ?_
                                                  refine soff rfl rfl rfl rfl ?_
                                                  refine soff rfl rfl rfl rfl ?_
                                                  refine soff rfl rfl rfl rfl ?_
                                                  refine soff rfl rfl rfl rfl ?_
                                                  refine son rfl rfl rfl ?_
                                                  first | (refine sv rfl (opv_pick_t rfl rfl) ?_) | (refine sv rfl (opv_pick_f rfl rfl) ?_)
                                                  first | (refine sv rfl (opv_pick_t rfl rfl) ?_) | (refine sv rfl (opv_pick_f rfl rfl) ?_)
                                                  first | (refine sv rfl (opv_as rfl) ?_) | (refine sv rfl (opv_ast rfl) ?_)
                                                  refine snil ?_
                                                  refine cret ?_
                                                  refine ⟨Or.inr rfl, _, _, _, (resVs_cons (ResV.tmp _ _ rfl) resVs_nil), (pubA_id rfl), ?_⟩
                                                  first | rfl | exact avb (decide_eq_true (has_lo (hi := hi) (o := o) (by assumption))) | (have e := has_between (lo := lo) (hi := hi) (o := o) (a := a) (b := b) (c := c) (by assumption) (by assumption) (by assumption) (by assumption); simp_all; done) | (have e := empty_has (lo := lo) (hi := hi) (o := o) (k := a) (by assumption) (ne_nil_of (by assumption)); simp_all; done) | (exfalso; simp_all; done))
                                            · replace hg40 := bnot_f hg40
                                              first
                                              | (exfalso; first | omega | contradiction)
                                              | (
                                                  refine son rfl rfl rfl ?_
                                                  first | (refine sv rfl (opv_mv rfl) ?_) | (refine sv rfl (opv_mvt rfl) ?_)
                                                  refine son rfl rfl rfl ?_
                                                  first | (refine sv rfl (opv_fieldAddr_lp fi24_0 rfl) ?_) | (refine sv rfl (opv_fieldAddr_cp fi24_0 rfl) ?_) | (refine sv rfl (opv_fieldAddr_ap fi24_0 rfl rfl (by first | rfl | omega)) ?_)
                                                  refine son rfl rfl rfl ?_
                                                  first | (refine sv rfl (opv_load1 ti22 rfl (.lp _ _ _ rfl) rfl) ?_) | (refine sv rfl (opv_load1 ti22 rfl (.cp _) rfl) ?_) | (refine sv rfl (opv_load1 ti22 rfl (.ap _ _ _ _ _ _ _ rfl (by first | rfl | omega)) rfl) ?_)
                                                  refine son rfl rfl rfl ?_
                                                  refine scall1 rfl fn23 (opnds_cons rfl (opnds_cons rfl opnds_nil)) (pubC rfl) (cmp_c) ?_
                                                  refine son rfl rfl rfl ?_
                                                  refine sv rfl (opv_geq rfl rfl) ?_
                                                  refine son rfl rfl rfl ?_
                                                  first | (refine sv rfl (opv_pick_t rfl rfl) ?_) | (refine sv rfl (opv_pick_f rfl rfl) ?_)
                                                  first | (refine sv rfl (opv_pick_t rfl rfl) ?_) | (refine sv rfl (opv_pick_f rfl rfl) ?_)
                                                  first | (refine sv rfl (opv_as rfl) ?_) | (refine sv rfl (opv_ast rfl) ?_)
                                                  refine snil ?_
                                                  refine cret ?_
                                                  refine ⟨Or.inr rfl, _, _, _, (resVs_cons (ResV.tmp _ _ rfl) resVs_nil), (pubA_id rfl), ?_⟩
                                                  first | rfl | exact avb (decide_eq_true (has_lo (hi := hi) (o := o) (by assumption))) | (have e := has_between (lo := lo) (hi := hi) (o := o) (a := a) (b := b) (c := c) (by assumption) (by assumption) (by assumption) (by assumption); simp_all; done) | (have e := empty_has (lo := lo) (hi := hi) (o := o) (k := a) (by assumption) (ne_nil_of (by assumption)); simp_all; done) | (exfalso; simp_all; done)))
                                      · replace hg39 := bnot_f hg39
                                        first
                                        | (exfalso; first | omega | contradiction)
                                        | (
                                            refine son rfl rfl rfl ?_
                                            first | (refine sv rfl (opv_mv rfl) ?_) | (refine sv rfl (opv_mvt rfl) ?_)
                                            refine son rfl rfl rfl ?_
                                            first | (refine sv rfl (opv_len_sl si22 rfl) ?_) | (refine sv rfl (opv_len_nil si22 rfl) ?_) | (refine sv rfl (opv_len_ls si22 rfl rfl (by first | rfl | omega)) ?_)
                                            refine son rfl rfl rfl ?_
                                            refine sv rfl (opv_ieql rfl rfl) ?_
                                            refine son rfl rfl rfl ?_
                                            first | (refine sv rfl (opv_pick_t rfl rfl) ?_) | (refine sv rfl (opv_pick_f rfl rfl) ?_)
                                            refine son rfl rfl rfl ?_
                                            first | (refine sv rfl (opv_mv rfl) ?_) | (refine sv rfl (opv_mvt rfl) ?_)
                                            refine ssplit 66 rfl (fun hg41 => ?_) (fun hg41 => ?_)
                                            · replace hg41 := of_decide_eq_true hg41
                                              first
                                              | (exfalso; first | omega | contradiction)
                                              | (
                                                  refine soff rfl rfl rfl rfl ?_
                                                  refine soff rfl rfl rfl rfl ?_
                                                  refine soff rfl rfl rfl rfl ?_
                                                  refine soff rfl rfl rfl rfl ?_
                                                  refine son rfl rfl rfl ?_
                                                  first | (refine sv rfl (opv_pick_t rfl rfl) ?_) | (refine sv rfl (opv_pick_f rfl rfl) ?_)
                                                  first | (refine sv rfl (opv_pick_t rfl rfl) ?_) | (refine sv rfl (opv_pick_f rfl rfl) ?_)
                                                  first | (refine sv rfl (opv_mv rfl) ?_) | (refine sv rfl (opv_mvt rfl) ?_)
                                                  refine son rfl rfl rfl ?_
                                                  first | (refine sv rfl (opv_loadN ti24 rfl (.lp _ _ _ rfl) (Nat.le_of_ble_eq_true rfl)) ?_) | (refine sv rfl (opv_loadN ti24 rfl (.cp _) (Nat.le_of_ble_eq_true rfl)) ?_)
                                                  refine son rfl rfl rfl ?_
                                                  first | (refine sv rfl (opv_mv rfl) ?_) | (refine sv rfl (opv_mvt rfl) ?_)
                                                  refine son rfl rfl rfl ?_
                                                  refine scall1 rfl fn29 (opnds_cons rfl (opnds_cons rfl opnds_nil)) (pubC rfl) (has_c) ?_
                                                  refine son rfl rfl rfl ?_
                                                  refine sv rfl (opv_not rfl) ?_
                                                  refine son rfl rfl rfl ?_
                                                  first | (refine sv rfl (opv_mv rfl) ?_) | (refine sv rfl (opv_mvt rfl) ?_)
                                                  refine ssplit 78 rfl (fun hg42 => ?_) (fun hg42 => ?_)
                                                  · replace hg42 := bnot_t hg42
                                                    first
                                                    | (exfalso; first | omega | contradiction)
                                                    | (
                                                        refine soff rfl rfl rfl rfl ?_
                                                        refine soff rfl rfl rfl rfl ?_
                                                        refine soff rfl rfl rfl rfl ?_
                                                        refine soff rfl rfl rfl rfl ?_
                                                        refine soff rfl rfl rfl rfl ?_
                                                        refine son rfl rfl rfl ?_
                                                        first | (refine sv rfl (opv_pick_t rfl rfl) ?_) | (refine sv rfl (opv_pick_f rfl rfl) ?_)
                                                        first | (refine sv rfl (opv_pick_t rfl rfl) ?_) | (refine sv rfl (opv_pick_f rfl rfl) ?_)
                                                        first | (refine sv rfl (opv_as rfl) ?_) | (refine sv rfl (opv_ast rfl) ?_)
                                                        refine snil ?_
                                                        refine cret ?_
                                                        refine ⟨Or.inr rfl, _, _, _, (resVs_cons (ResV.tmp _ _ rfl) resVs_nil), (pubA_id rfl), ?_⟩
                                                        first | rfl | exact avb (decide_eq_true (has_lo (hi := hi) (o := o) (by assumption))) | (have e := has_between (lo := lo) (hi := hi) (o := o) (a := a) (b := b) (c := c) (by assumption) (by assumption) (by assumption) (by assumption); simp_all; done) | (have e := empty_has (lo := lo) (hi := hi) (o := o) (k := a) (by assumption) (ne_nil_of (by assumption)); simp_all; done) | (exfalso; simp_all; done))
                                                  · replace hg42 := bnot_f hg42
                                                    first
                                                    | (exfalso; first | omega | contradiction)
                                                    | (
                                                        refine son rfl rfl rfl ?_
                                                        first | (refine sv rfl (opv_mv rfl) ?_) | (refine sv rfl (opv_mvt rfl) ?_)
                                                        refine son rfl rfl rfl ?_
                                                        first | (refine sv rfl (opv_fieldAddr_lp fi24_0 rfl) ?_) | (refine sv rfl (opv_fieldAddr_cp fi24_0 rfl) ?_) | (refine sv rfl (opv_fieldAddr_ap fi24_0 rfl rfl (by first | rfl | omega)) ?_)
                                                        refine son rfl rfl rfl ?_
                                                        first | (refine sv rfl (opv_load1 ti22 rfl (.lp _ _ _ rfl) rfl) ?_) | (refine sv rfl (opv_load1 ti22 rfl (.cp _) rfl) ?_) | (refine sv rfl (opv_load1 ti22 rfl (.ap _ _ _ _ _ _ _ rfl (by first | rfl | omega)) rfl) ?_)
                                                        refine son rfl rfl rfl ?_
                                                        refine scall1 rfl fn23 (opnds_cons rfl (opnds_cons rfl opnds_nil)) (pubC rfl) (cmp_c) ?_
                                                        refine son rfl rfl rfl ?_
                                                        refine sv rfl (opv_geq rfl rfl) ?_
                                                        refine son rfl rfl rfl ?_
                                                        first | (refine sv rfl (opv_pick_t rfl rfl) ?_) | (refine sv rfl (opv_pick_f rfl rfl) ?_)
                                                        first | (refine sv rfl (opv_pick_t rfl rfl) ?_) | (refine sv rfl (opv_pick_f rfl rfl) ?_)
                                                        first | (refine sv rfl (opv_as rfl) ?_) | (refine sv rfl (opv_ast rfl) ?_)
                                                        refine snil ?_
                                                        refine cret ?_
                                                        refine ⟨Or.inr rfl, _, _, _, (resVs_cons (ResV.tmp _ _ rfl) resVs_nil), (pubA_id rfl), ?_⟩
                                                        first | rfl | exact avb (decide_eq_true (has_lo (hi := hi) (o := o) (by assumption))) | (have e := has_between (lo := lo) (hi := hi) (o := o) (a := a) (b := b) (c := c) (by assumption) (by assumption) (by assumption) (by assumption); simp_all; done) | (have e := empty_has (lo := lo) (hi := hi) (o := o) (k := a) (by assumption) (ne_nil_of (by assumption)); simp_all; done) | (exfalso; simp_all; done)))
                                            · replace hg41 := of_decide_eq_false hg41
                                              first
                                              | (exfalso; first | omega | contradiction)
                                              | (
                                                  refine son rfl rfl rfl ?_
                                                  first | (refine sv rfl (opv_loadN ti24 rfl (.lp _ _ _ rfl) (Nat.le_of_ble_eq_true rfl)) ?_) | (refine sv rfl (opv_loadN ti24 rfl (.cp _) (Nat.le_of_ble_eq_true rfl)) ?_)
                                                  refine son rfl rfl rfl ?_
                                                  first | (refine sv rfl (opv_mv rfl) ?_) | (refine sv rfl (opv_mvt rfl) ?_)
                                                  refine son rfl rfl rfl ?_
                                                  refine scall1 rfl fn29 (opnds_cons rfl (opnds_cons rfl opnds_nil)) (pubC rfl) (has_c) ?_
                                                  refine son rfl rfl rfl ?_
                                                  refine sv rfl (opv_not rfl) ?_
                                                  refine son rfl rfl rfl ?_
                                                  first | (refine sv rfl (opv_pick_t rfl rfl) ?_) | (refine sv rfl (opv_pick_f rfl rfl) ?_)
                                                  first | (refine sv rfl (opv_pick_t rfl rfl) ?_) | (refine sv rfl (opv_pick_f rfl rfl) ?_)
                                                  first | (refine sv rfl (opv_mv rfl) ?_) | (refine sv rfl (opv_mvt rfl) ?_)
                                                  refine ssplit 73 rfl (fun hg43 => ?_) (fun hg43 => ?_)
                                                  · replace hg43 := bnot_t hg43
                                                    first
                                                    | (exfalso; first | omega | contradiction)
                                                    | (
                                                        refine son rfl rfl rfl ?_
                                                        first | (refine sv rfl (opv_loadN ti24 rfl (.lp _ _ _ rfl) (Nat.le_of_ble_eq_true rfl)) ?_) | (refine sv rfl (opv_loadN ti24 rfl (.cp _) (Nat.le_of_ble_eq_true rfl)) ?_)
                                                        refine son rfl rfl rfl ?_
                                                        first | (refine sv rfl (opv_mv rfl) ?_) | (refine sv rfl (opv_mvt rfl) ?_)
                                                        refine son rfl rfl rfl ?_
                                                        refine scall1 rfl fn29 (opnds_cons rfl (opnds_cons rfl opnds_nil)) (pubC rfl) (has_c) ?_
                                                        refine son rfl rfl rfl ?_
                                                        refine sv rfl (opv_not rfl) ?_
                                                        refine son rfl rfl rfl ?_
                                                        first | (refine sv rfl (opv_mv rfl) ?_) | (refine sv rfl (opv_mvt rfl) ?_)
                                                        refine ssplit 78 rfl (fun hg44 => ?_) (fun hg44 => ?_)
                                                        · replace hg44 := bnot_t hg44
                                                          first
                                                          | (exfalso; first | omega | contradiction)
                                                          | (
                                                              refine soff rfl rfl rfl rfl ?_
                                                              refine soff rfl rfl rfl rfl ?_
                                                              refine soff rfl rfl rfl rfl ?_
                                                              refine soff rfl rfl rfl rfl ?_
                                                              refine soff rfl rfl rfl rfl ?_
                                                              refine son rfl rfl rfl ?_
                                                              first | (refine sv rfl (opv_pick_t rfl rfl) ?_) | (refine sv rfl (opv_pick_f rfl rfl) ?_)
                                                              first | (refine sv rfl (opv_pick_t rfl rfl) ?_) | (refine sv rfl (opv_pick_f rfl rfl) ?_)
                                                              first | (refine sv rfl (opv_as rfl) ?_) | (refine sv rfl (opv_ast rfl) ?_)
                                                              refine snil ?_
                                                              refine cret ?_
                                                              refine ⟨Or.inr rfl, _, _, _, (resVs_cons (ResV.tmp _ _ rfl) resVs_nil), (pubA_id rfl), ?_⟩
                                                              first | rfl | exact avb (decide_eq_true (has_lo (hi := hi) (o := o) (by assumption))) | (have e := has_between (lo := lo) (hi := hi) (o := o) (a := a) (b := b) (c := c) (by assumption) (by assumption) (by assumption) (by assumption); simp_all; done) | (have e := empty_has (lo := lo) (hi := hi) (o := o) (k := a) (by assumption) (ne_nil_of (by assumption)); simp_all; done) | (exfalso; simp_all; done))
                                                        · replace hg44 := bnot_f hg44
                                                          first
                                                          | (exfalso; first | omega | contradiction)
                                                          | (
                                                              refine son rfl rfl rfl ?_
                                                              first | (refine sv rfl (opv_mv rfl) ?_) | (refine sv rfl (opv_mvt rfl) ?_)
                                                              refine son rfl rfl rfl ?_
                                                              first | (refine sv rfl (opv_fieldAddr_lp fi24_0 rfl) ?_) | (refine sv rfl (opv_fieldAddr_cp fi24_0 rfl) ?_) | (refine sv rfl (opv_fieldAddr_ap fi24_0 rfl rfl (by first | rfl | omega)) ?_)
                                                              refine son rfl rfl rfl ?_
                                                              first | (refine sv rfl (opv_load1 ti22 rfl (.lp _ _ _ rfl) rfl) ?_) | (refine sv rfl (opv_load1 ti22 rfl (.cp _) rfl) ?_) | (refine sv rfl (opv_load1 ti22 rfl (.ap _ _ _ _ _ _ _ rfl (by first | rfl | omega)) rfl) ?_)
                                                              refine son rfl rfl rfl ?_
                                                              refine scall1 rfl fn23 (opnds_cons rfl (opnds_cons rfl opnds_nil)) (pubC rfl) (cmp_c) ?_
                                                              refine son rfl rfl rfl ?_
                                                              refine sv rfl (opv_geq rfl rfl) ?_
                                                              refine son rfl rfl rfl ?_
                                                              first | (refine sv rfl (opv_pick_t rfl rfl) ?_) | (refine sv rfl (opv_pick_f rfl rfl) ?_)
                                                              first | (refine sv rfl (opv_pick_t rfl rfl) ?_) | (refine sv rfl (opv_pick_f rfl rfl) ?_)
                                                              first | (refine sv rfl (opv_as rfl) ?_) | (refine sv rfl (opv_ast rfl) ?_)
                                                              refine snil ?_
                                                              refine cret ?_
                                                              refine ⟨Or.inr rfl, _, _, _, (resVs_cons (ResV.tmp _ _ rfl) resVs_nil), (pubA_id rfl), ?_⟩
                                                              first | rfl | exact avb (decide_eq_true (has_lo (hi := hi) (o := o) (by assumption))) | (have e := has_between (lo := lo) (hi := hi) (o := o) (a := a) (b := b) (c := c) (by assumption) (by assumption) (by assumption) (by assumption); simp_all; done) | (have e := empty_has (lo := lo) (hi := hi) (o := o) (k := a) (by assumption) (ne_nil_of (by assumption)); simp_all; done) | (exfalso; simp_all; done)))
                                                  · replace hg43 := bnot_f hg43
                                                    first
                                                    | (exfalso; first | omega | contradiction)
                                                    | (
                                                        refine soff rfl rfl rfl rfl ?_
                                                        refine soff rfl rfl rfl rfl ?_
                                                        refine soff rfl rfl rfl rfl ?_
                                                        refine soff rfl rfl rfl rfl ?_
                                                        refine soff rfl rfl rfl rfl ?_
                                                        refine soffu rfl rfl rfl ?_
                                                        refine soffu rfl rfl rfl ?_
                                                        refine soffu rfl rfl rfl ?_
                                                        refine soffu rfl rfl rfl ?_
                                                        refine soffu rfl rfl rfl ?_
                                                        refine soff rfl rfl rfl rfl ?_
                                                        first | (refine sv rfl (opv_pick_t rfl rfl) ?_) | (refine sv rfl (opv_pick_f rfl rfl) ?_)
                                                        first | (refine sv rfl (opv_as rfl) ?_) | (refine sv rfl (opv_ast rfl) ?_)
                                                        refine snil ?_
                                                        refine cret ?_
                                                        refine ⟨Or.inr rfl, _, _, _, (resVs_cons (ResV.tmp _ _ rfl) resVs_nil), (pubA_id rfl), ?_⟩
                                                        first | rfl | exact avb (decide_eq_true (has_lo (hi := hi) (o := o) (by assumption))) | (have e := has_between (lo := lo) (hi := hi) (o := o) (a := a) (b := b) (c := c) (by assumption) (by assumption) (by assumption) (by assumption); simp_all; done) | (have e := empty_has (lo := lo) (hi := hi) (o := o) (k := a) (by assumption) (ne_nil_of (by assumption)); simp_all; done) | (exfalso; simp_all; done)))))
                                · first
                                  | (exfalso; first | omega | contradiction)
                                  | (
                                      refine soff rfl rfl rfl rfl ?_
                                      refine soff rfl rfl rfl rfl ?_
                                      refine soff rfl rfl rfl rfl ?_
                                      refine soff rfl rfl rfl rfl ?_
                                      refine soffu rfl rfl rfl ?_
                                      refine soffu rfl rfl rfl ?_
                                      refine soffu rfl rfl rfl ?_
                                      refine soff rfl rfl rfl rfl ?_
                                      refine soff rfl rfl rfl rfl ?_
                                      refine soffu rfl rfl rfl ?_
                                      refine soffu rfl rfl rfl ?_
                                      refine soffu rfl rfl rfl ?_
                                      refine soffu rfl rfl rfl ?_
                                      refine soff rfl rfl rfl rfl ?_
                                      first | (refine sv rfl (opv_pick_t rfl rfl) ?_) | (refine sv rfl (opv_pick_f rfl rfl) ?_)
                                      first | (refine sv rfl (opv_mv rfl) ?_) | (refine sv rfl (opv_mvt rfl) ?_)
                                      refine soff rfl rfl rfl rfl ?_
                                      refine soff rfl rfl rfl rfl ?_
                                      refine soff rfl rfl rfl rfl ?_
                                      refine soff rfl rfl rfl rfl ?_
                                      refine soff rfl rfl rfl rfl ?_
                                      refine soffu rfl rfl rfl ?_
                                      refine soffu rfl rfl rfl ?_
                                      refine soffu rfl rfl rfl ?_
                                      refine soffu rfl rfl rfl ?_
                                      refine soffu rfl rfl rfl ?_
                                      refine soff rfl rfl rfl rfl ?_
                                      first | (refine sv rfl (opv_pick_t rfl rfl) ?_) | (refine sv rfl (opv_pick_f rfl rfl) ?_)
                                      first | (refine sv rfl (opv_as rfl) ?_) | (refine sv rfl (opv_ast rfl) ?_)
                                      refine snil ?_
                                      refine cret ?_
                                      refine ⟨Or.inr rfl, _, _, _, (resVs_cons (ResV.tmp _ _ rfl) resVs_nil), (pubA_id rfl), ?_⟩
                                      first | rfl | exact avb (decide_eq_true (has_lo (hi := hi) (o := o) (by assumption))) | (have e := has_between (lo := lo) (hi := hi) (o := o) (a := a) (b := b) (c := c) (by assumption) (by assumption) (by assumption) (by assumption); simp_all; done) | (have e := empty_has (lo := lo) (hi := hi) (o := o) (k := a) (by assumption) (ne_nil_of (by assumption)); simp_all; done) | (exfalso; simp_all; done)))))))

end Go.Proofs.Ytiadgkkebmclgaa.Abs
