/-
  KeysOrder: the walk
-/
import Derived.Test.YtiadgkkebmclgaaK2
namespace Go.Proofs.Ytiadgkkebmclgaa.Abs
open Go.RowKit Go.Proofs
set_option maxRecDepth 100000

theorem ni22 : NI Try.prog 22 := ⟨.inl ⟨_, Try.underlying22⟩⟩

theorem app0 (a : List UInt8) : SV.one (.sl (0 + a.length + 1) (([] ++ bl a) ++ [.i .u8 0])) = .one (bsv (a ++ [0])) := by
  simp [bl]

theorem keysOrder_c {a b c : List UInt8} : CallsA Try.prog 4 [.one (bsv a), .one (bsv b), .one (bsv c)] (· = .s (.one (.b true))) := by
  refine callsA_of Try.func4 rfl (nt := 78) rfl (Nat.le_of_ble_eq_true rfl) ?_
  intro w0 S0
  have rab := cmpL_range a b
  have rba := cmpL_range b a
  have sab := cmpL_swap a b
  have tr := @cmpL_trans a b c
  refine cseq ?_
  refine cregion ?_
  first | (refine sv rfl (opv_as rfl) ?_) | (refine sv rfl (opv_ast rfl) ?_)
  refine snil ?_
  refine cseq ?_
  refine cregion ?_
  refine scall1 rfl fn10 opnds_nil (pubA_id rfl) (awake_c) ?_
  first | (refine sv rfl (opv_as rfl) ?_) | (refine sv rfl (opv_ast rfl) ?_)
  refine snil ?_
  refine cseq ?_
  refine cseq ?_
  refine cregion ?_
  first | (refine sv rfl (opv_mv rfl) ?_) | (refine sv rfl (opv_mvt rfl) ?_)
  first | (refine sv rfl (opv_len_sl si22 rfl) ?_) | (refine sv rfl (opv_len_nil si22 rfl) ?_) | (refine sv rfl (opv_len_ls si22 rfl rfl (by first | rfl | first | omega | (simp [bl]; done))) ?_)
  refine sv rfl (opv_gtr rfl rfl) ?_
  first | (refine sv rfl (opv_mv rfl) ?_) | (refine sv rfl (opv_mvt rfl) ?_)
  refine ssplit 13 rfl (fun hg1 => ?_) (fun hg1 => ?_)
  · replace hg1 := of_decide_eq_true hg1
    first
    | (exfalso; first | omega | contradiction | (rw [str_eq, order_eq] at hg1; contradiction))
    | (
        refine soff rfl rfl rfl rfl ?_
        refine soff rfl rfl rfl rfl ?_
        refine soff rfl rfl rfl rfl ?_
        first | (refine sv rfl (opv_pick_t rfl rfl) ?_) | (refine sv rfl (opv_pick_f rfl rfl) ?_)
        first | (refine sv rfl (opv_mv rfl) ?_) | (refine sv rfl (opv_mvt rfl) ?_)
        refine soff rfl rfl rfl rfl ?_
        refine soff rfl rfl rfl rfl ?_
        refine soff rfl rfl rfl rfl ?_
        first | (refine sv rfl (opv_pick_t rfl rfl) ?_) | (refine sv rfl (opv_pick_f rfl rfl) ?_)
        refine snil ?_
        refine ccond rfl (fun _ => ?_) (fun hx => Bool.noConfusion hx)
        refine cseq ?_
        refine cregion ?_
        first | (refine sv rfl (opv_mv rfl) ?_) | (refine sv rfl (opv_mvt rfl) ?_)
        first | (refine sv rfl (opv_as rfl) ?_) | (refine sv rfl (opv_ast rfl) ?_)
        refine snil ?_
        refine cret ?_
        refine then_ret ?_
        refine ⟨Or.inr rfl, _, _, _, (resVs_cons (ResV.tmp _ _ rfl) resVs_nil), (pubA_id rfl), ?_⟩
        first | rfl)
  · replace hg1 := of_decide_eq_false hg1
    first
    | (exfalso; first | omega | contradiction | (rw [str_eq, order_eq] at hg1; contradiction))
    | (
        refine son rfl rfl rfl ?_
        first | (refine sv rfl (opv_mv rfl) ?_) | (refine sv rfl (opv_mvt rfl) ?_)
        refine son rfl rfl rfl ?_
        first | (refine sv rfl (opv_len_sl si22 rfl) ?_) | (refine sv rfl (opv_len_nil si22 rfl) ?_) | (refine sv rfl (opv_len_ls si22 rfl rfl (by first | rfl | first | omega | (simp [bl]; done))) ?_)
        refine son rfl rfl rfl ?_
        refine sv rfl (opv_gtr rfl rfl) ?_
        first | (refine sv rfl (opv_pick_t rfl rfl) ?_) | (refine sv rfl (opv_pick_f rfl rfl) ?_)
        first | (refine sv rfl (opv_mv rfl) ?_) | (refine sv rfl (opv_mvt rfl) ?_)
        refine ssplit 18 rfl (fun hg2 => ?_) (fun hg2 => ?_)
        · replace hg2 := of_decide_eq_true hg2
          first
          | (exfalso; first | omega | contradiction | (rw [str_eq, order_eq] at hg2; contradiction))
          | (
              refine soff rfl rfl rfl rfl ?_
              refine soff rfl rfl rfl rfl ?_
              refine soff rfl rfl rfl rfl ?_
              first | (refine sv rfl (opv_pick_t rfl rfl) ?_) | (refine sv rfl (opv_pick_f rfl rfl) ?_)
              refine snil ?_
              refine ccond rfl (fun _ => ?_) (fun hx => Bool.noConfusion hx)
              refine cseq ?_
              refine cregion ?_
              first | (refine sv rfl (opv_mv rfl) ?_) | (refine sv rfl (opv_mvt rfl) ?_)
              first | (refine sv rfl (opv_as rfl) ?_) | (refine sv rfl (opv_ast rfl) ?_)
              refine snil ?_
              refine cret ?_
              refine then_ret ?_
              refine ⟨Or.inr rfl, _, _, _, (resVs_cons (ResV.tmp _ _ rfl) resVs_nil), (pubA_id rfl), ?_⟩
              first | rfl)
        · replace hg2 := of_decide_eq_false hg2
          first
          | (exfalso; first | omega | contradiction | (rw [str_eq, order_eq] at hg2; contradiction))
          | (
              refine son rfl rfl rfl ?_
              first | (refine sv rfl (opv_mv rfl) ?_) | (refine sv rfl (opv_mvt rfl) ?_)
              refine son rfl rfl rfl ?_
              first | (refine sv rfl (opv_len_sl si22 rfl) ?_) | (refine sv rfl (opv_len_nil si22 rfl) ?_) | (refine sv rfl (opv_len_ls si22 rfl rfl (by first | rfl | first | omega | (simp [bl]; done))) ?_)
              refine son rfl rfl rfl ?_
              refine sv rfl (opv_gtr rfl rfl) ?_
              first | (refine sv rfl (opv_pick_t rfl rfl) ?_) | (refine sv rfl (opv_pick_f rfl rfl) ?_)
              refine snil ?_
              refine ccond rfl (fun hc3 => ?_) (fun hc3 => ?_)
              · replace hc3 := of_decide_eq_true hc3
                first
                | (exfalso; first | omega | contradiction | (rw [str_eq, order_eq] at hc3; contradiction))
                | (
                    refine cseq ?_
                    refine cregion ?_
                    first | (refine sv rfl (opv_mv rfl) ?_) | (refine sv rfl (opv_mvt rfl) ?_)
                    first | (refine sv rfl (opv_as rfl) ?_) | (refine sv rfl (opv_ast rfl) ?_)
                    refine snil ?_
                    refine cret ?_
                    refine then_ret ?_
                    refine ⟨Or.inr rfl, _, _, _, (resVs_cons (ResV.tmp _ _ rfl) resVs_nil), (pubA_id rfl), ?_⟩
                    first | rfl)
              · replace hc3 := of_decide_eq_false hc3
                first
                | (exfalso; first | omega | contradiction | (rw [str_eq, order_eq] at hc3; contradiction))
                | (
                    refine cskip ?_
                    refine then_normal ?_
                    refine cseq ?_
                    refine cregion ?_
                    first | (refine sv rfl (opv_mv rfl) ?_) | (refine sv rfl (opv_mvt rfl) ?_)
                    first | (refine sv rfl (opv_mv rfl) ?_) | (refine sv rfl (opv_mvt rfl) ?_)
                    refine scall1 rfl fn23 (opnds_cons rfl (opnds_cons rfl opnds_nil)) (by (repeat' first | exact PubA.nil _ | apply PubA.cons | apply PubV.one | apply PubV.agg | exact PubL.nil | exact PubL.id _ rfl | exact PubL.ls _ _ _ _ _ _ rfl (by first | rfl | first | omega | (simp [bl]; done)) | exact PubLs.nil _ | apply PubLs.cons | exact PubLs.all _ _ (List.all_eq_true.1 rfl))) (cmp_c) ?_
                    first | (refine sv rfl (opv_as rfl) ?_) | (refine sv rfl (opv_ast rfl) ?_)
                    refine snil ?_
                    refine cseq ?_
                    refine cseq ?_
                    refine cregion ?_
                    first | (refine sv rfl (opv_mv rfl) ?_) | (refine sv rfl (opv_mvt rfl) ?_)
                    first | (refine sv rfl (opv_mv rfl) ?_) | (refine sv rfl (opv_mvt rfl) ?_)
                    first | (refine sv rfl (opv_mv rfl) ?_) | (refine sv rfl (opv_mvt rfl) ?_)
                    refine scall1 rfl fn23 (opnds_cons rfl (opnds_cons rfl opnds_nil)) (by (repeat' first | exact PubA.nil _ | apply PubA.cons | apply PubV.one | apply PubV.agg | exact PubL.nil | exact PubL.id _ rfl | exact PubL.ls _ _ _ _ _ _ rfl (by first | rfl | first | omega | (simp [bl]; done)) | exact PubLs.nil _ | apply PubLs.cons | exact PubLs.all _ _ (List.all_eq_true.1 rfl))) (cmp_c) ?_
                    refine sv rfl (opv_neg_ok rfl (wrap_i64 (by first | omega | (simp [bl]; done)) (by first | omega | (simp [bl]; done)))) ?_
                    refine sv rfl (opv_ineq rfl rfl) ?_
                    first | (refine sv rfl (opv_mv rfl) ?_) | (refine sv rfl (opv_mvt rfl) ?_)
                    refine ssplit 33 rfl (fun hg4 => ?_) (fun hg4 => ?_)
                    · replace hg4 := ndec_t hg4
                      first
                      | (exfalso; first | omega | contradiction | (rw [str_eq, order_eq] at hg4; contradiction))
                      | (
                          refine soff rfl rfl rfl rfl ?_
                          refine soff rfl rfl rfl rfl ?_
                          refine soff rfl rfl rfl rfl ?_
                          refine soff rfl rfl rfl rfl ?_
                          refine soff rfl rfl rfl rfl ?_
                          refine soff rfl rfl rfl rfl ?_
                          refine soff rfl rfl rfl rfl ?_
                          refine soff rfl rfl rfl rfl ?_
                          first | (refine sv rfl (opv_pick_t rfl rfl) ?_) | (refine sv rfl (opv_pick_f rfl rfl) ?_)
                          first | (refine sv rfl (opv_mv rfl) ?_) | (refine sv rfl (opv_mvt rfl) ?_)
                          refine soff rfl rfl rfl rfl ?_
                          refine soff rfl rfl rfl rfl ?_
                          first | (refine sv rfl (opv_pick_t rfl rfl) ?_) | (refine sv rfl (opv_pick_f rfl rfl) ?_)
                          first | (refine sv rfl (opv_mv rfl) ?_) | (refine sv rfl (opv_mvt rfl) ?_)
                          refine soff rfl rfl rfl rfl ?_
                          refine soff rfl rfl rfl rfl ?_
                          first | (refine sv rfl (opv_pick_t rfl rfl) ?_) | (refine sv rfl (opv_pick_f rfl rfl) ?_)
                          refine snil ?_
                          refine ccond rfl (fun _ => ?_) (fun hx => Bool.noConfusion hx)
                          refine cseq ?_
                          refine cregion ?_
                          first | (refine sv rfl (opv_as rfl) ?_) | (refine sv rfl (opv_ast rfl) ?_)
                          refine snil ?_
                          refine cret ?_
                          refine then_ret ?_
                          refine ⟨Or.inr rfl, _, _, _, (resVs_cons (ResV.tmp _ _ rfl) resVs_nil), (pubA_id rfl), ?_⟩
                          first | rfl)
                    · replace hg4 := ndec_f hg4
                      first
                      | (exfalso; first | omega | contradiction | (rw [str_eq, order_eq] at hg4; contradiction))
                      | (
                          refine son rfl rfl rfl ?_
                          first | (refine sv rfl (opv_mv rfl) ?_) | (refine sv rfl (opv_mvt rfl) ?_)
                          refine son rfl rfl rfl ?_
                          refine sv rfl (opv_ieql rfl rfl) ?_
                          refine son rfl rfl rfl ?_
                          first | (refine sv rfl (opv_mv rfl) ?_) | (refine sv rfl (opv_mvt rfl) ?_)
                          refine son rfl rfl rfl ?_
                          first | (refine spub 36 rfl (by (repeat' first | exact pubA_id rfl | exact PubA.nil _ | apply PubA.cons | apply PubV.one | apply PubV.agg | exact PubL.nil | exact PubL.id _ rfl | exact PubL.ls _ _ _ _ _ _ rfl (by first | rfl | first | omega | (simp [bl]; done)) | exact PubLs.all _ _ (List.all_eq_true.1 rfl) | apply PubLs.cons | exact PubLs.nil _)) ?_) | (skip)
                          refine sv rfl (opv_conv_bs Try.underlying22 Try.underlying5 Try.underlying9 rfl) ?_
                          refine son rfl rfl rfl ?_
                          first | (refine sv rfl (opv_mv rfl) ?_) | (refine sv rfl (opv_mvt rfl) ?_)
                          refine son rfl rfl rfl ?_
                          first | (refine spub 38 rfl (by (repeat' first | exact pubA_id rfl | exact PubA.nil _ | apply PubA.cons | apply PubV.one | apply PubV.agg | exact PubL.nil | exact PubL.id _ rfl | exact PubL.ls _ _ _ _ _ _ rfl (by first | rfl | first | omega | (simp [bl]; done)) | exact PubLs.all _ _ (List.all_eq_true.1 rfl) | apply PubLs.cons | exact PubLs.nil _)) ?_) | (skip)
                          refine sv rfl (opv_conv_bs Try.underlying22 Try.underlying5 Try.underlying9 rfl) ?_
                          refine son rfl rfl rfl ?_
                          refine sv rfl (opv_seql rfl rfl) ?_
                          refine son rfl rfl rfl ?_
                          refine sv rfl (opv_bneq Try.underlying4 rfl rfl) ?_
                          first | (refine sv rfl (opv_pick_t rfl rfl) ?_) | (refine sv rfl (opv_pick_f rfl rfl) ?_)
                          first | (refine sv rfl (opv_mv rfl) ?_) | (refine sv rfl (opv_mvt rfl) ?_)
                          refine ssplit 43 rfl (fun hg5 => ?_) (fun hg5 => ?_)
                          · replace hg5 := bnot_t hg5
                            first
                            | (exfalso; first | omega | contradiction | (rw [str_eq, order_eq] at hg5; contradiction))
                            | (
                                refine soff rfl rfl rfl rfl ?_
                                refine soff rfl rfl rfl rfl ?_
                                first | (refine sv rfl (opv_pick_t rfl rfl) ?_) | (refine sv rfl (opv_pick_f rfl rfl) ?_)
                                first | (refine sv rfl (opv_mv rfl) ?_) | (refine sv rfl (opv_mvt rfl) ?_)
                                refine soff rfl rfl rfl rfl ?_
                                refine soff rfl rfl rfl rfl ?_
                                first | (refine sv rfl (opv_pick_t rfl rfl) ?_) | (refine sv rfl (opv_pick_f rfl rfl) ?_)
                                refine snil ?_
                                refine ccond rfl (fun _ => ?_) (fun hx => Bool.noConfusion hx)
                                refine cseq ?_
                                refine cregion ?_
                                first | (refine sv rfl (opv_as rfl) ?_) | (refine sv rfl (opv_ast rfl) ?_)
                                refine snil ?_
                                refine cret ?_
                                refine then_ret ?_
                                refine ⟨Or.inr rfl, _, _, _, (resVs_cons (ResV.tmp _ _ rfl) resVs_nil), (pubA_id rfl), ?_⟩
                                first | rfl)
                          · replace hg5 := bnot_f hg5
                            first
                            | (exfalso; first | omega | contradiction | (rw [str_eq, order_eq] at hg5; contradiction))
                            | (
                                refine son rfl rfl rfl ?_
                                first | (refine sv rfl (opv_mv rfl) ?_) | (refine sv rfl (opv_mvt rfl) ?_)
                                refine son rfl rfl rfl ?_
                                refine sv rfl (opv_lss rfl rfl) ?_
                                first | (refine sv rfl (opv_pick_t rfl rfl) ?_) | (refine sv rfl (opv_pick_f rfl rfl) ?_)
                                first | (refine sv rfl (opv_mv rfl) ?_) | (refine sv rfl (opv_mvt rfl) ?_)
                                refine ssplit 47 rfl (fun hg6 => ?_) (fun hg6 => ?_)
                                · replace hg6 := of_decide_eq_true hg6
                                  first
                                  | (exfalso; first | omega | contradiction | (rw [str_eq, order_eq] at hg6; contradiction))
                                  | (
                                      refine soff rfl rfl rfl rfl ?_
                                      refine soff rfl rfl rfl rfl ?_
                                      first | (refine sv rfl (opv_pick_t rfl rfl) ?_) | (refine sv rfl (opv_pick_f rfl rfl) ?_)
                                      refine snil ?_
                                      refine ccond rfl (fun _ => ?_) (fun hx => Bool.noConfusion hx)
                                      refine cseq ?_
                                      refine cregion ?_
                                      first | (refine sv rfl (opv_as rfl) ?_) | (refine sv rfl (opv_ast rfl) ?_)
                                      refine snil ?_
                                      refine cret ?_
                                      refine then_ret ?_
                                      refine ⟨Or.inr rfl, _, _, _, (resVs_cons (ResV.tmp _ _ rfl) resVs_nil), (pubA_id rfl), ?_⟩
                                      first | rfl)
                                · replace hg6 := of_decide_eq_false hg6
                                  first
                                  | (exfalso; first | omega | contradiction | (rw [str_eq, order_eq] at hg6; contradiction))
                                  | (
                                      refine son rfl rfl rfl ?_
                                      first | (refine sv rfl (opv_mv rfl) ?_) | (refine sv rfl (opv_mvt rfl) ?_)
                                      refine son rfl rfl rfl ?_
                                      refine sv rfl (opv_gtr rfl rfl) ?_
                                      first | (refine sv rfl (opv_pick_t rfl rfl) ?_) | (refine sv rfl (opv_pick_f rfl rfl) ?_)
                                      refine snil ?_
                                      refine ccond rfl (fun hc7 => ?_) (fun hc7 => ?_)
                                      · replace hc7 := of_decide_eq_true hc7
                                        first
                                        | (exfalso; first | omega | contradiction | (rw [str_eq, order_eq] at hc7; contradiction))
                                        | (
                                            refine cseq ?_
                                            refine cregion ?_
                                            first | (refine sv rfl (opv_as rfl) ?_) | (refine sv rfl (opv_ast rfl) ?_)
                                            refine snil ?_
                                            refine cret ?_
                                            refine then_ret ?_
                                            refine ⟨Or.inr rfl, _, _, _, (resVs_cons (ResV.tmp _ _ rfl) resVs_nil), (pubA_id rfl), ?_⟩
                                            first | rfl)
                                      · replace hc7 := of_decide_eq_false hc7
                                        first
                                        | (exfalso; first | omega | contradiction | (rw [str_eq, order_eq] at hc7; contradiction))
                                        | (
                                            refine cskip ?_
                                            refine then_normal ?_
                                            refine cseq ?_
                                            refine cseq ?_
                                            refine cregion ?_
                                            first | (refine sv rfl (opv_mv rfl) ?_) | (refine sv rfl (opv_mvt rfl) ?_)
                                            first | (refine sv rfl (opv_mv rfl) ?_) | (refine sv rfl (opv_mvt rfl) ?_)
                                            refine scall1 rfl fn23 (opnds_cons rfl (opnds_cons rfl opnds_nil)) (by (repeat' first | exact PubA.nil _ | apply PubA.cons | apply PubV.one | apply PubV.agg | exact PubL.nil | exact PubL.id _ rfl | exact PubL.ls _ _ _ _ _ _ rfl (by first | rfl | first | omega | (simp [bl]; done)) | exact PubLs.nil _ | apply PubLs.cons | exact PubLs.all _ _ (List.all_eq_true.1 rfl))) (cmp_c) ?_
                                            refine sv rfl (opv_lss rfl rfl) ?_
                                            first | (refine sv rfl (opv_mv rfl) ?_) | (refine sv rfl (opv_mvt rfl) ?_)
                                            refine ssplit 55 rfl (fun hg8 => ?_) (fun hg8 => ?_)
                                            · replace hg8 := of_decide_eq_true hg8
                                              first
                                              | (exfalso; first | omega | contradiction | (rw [str_eq, order_eq] at hg8; contradiction))
                                              | (
                                                  refine son rfl rfl rfl ?_
                                                  first | (refine sv rfl (opv_mv rfl) ?_) | (refine sv rfl (opv_mvt rfl) ?_)
                                                  refine son rfl rfl rfl ?_
                                                  first | (refine sv rfl (opv_mv rfl) ?_) | (refine sv rfl (opv_mvt rfl) ?_)
                                                  refine son rfl rfl rfl ?_
                                                  refine scall1 rfl fn23 (opnds_cons rfl (opnds_cons rfl opnds_nil)) (by (repeat' first | exact PubA.nil _ | apply PubA.cons | apply PubV.one | apply PubV.agg | exact PubL.nil | exact PubL.id _ rfl | exact PubL.ls _ _ _ _ _ _ rfl (by first | rfl | first | omega | (simp [bl]; done)) | exact PubLs.nil _ | apply PubLs.cons | exact PubLs.all _ _ (List.all_eq_true.1 rfl))) (cmp_c) ?_
                                                  refine son rfl rfl rfl ?_
                                                  refine sv rfl (opv_lss rfl rfl) ?_
                                                  first | (refine sv rfl (opv_pick_t rfl rfl) ?_) | (refine sv rfl (opv_pick_f rfl rfl) ?_)
                                                  first | (refine sv rfl (opv_mv rfl) ?_) | (refine sv rfl (opv_mvt rfl) ?_)
                                                  refine ssplit 61 rfl (fun hg9 => ?_) (fun hg9 => ?_)
                                                  · replace hg9 := of_decide_eq_true hg9
                                                    first
                                                    | (exfalso; first | omega | contradiction | (rw [str_eq, order_eq] at hg9; contradiction))
                                                    | (
                                                        refine son rfl rfl rfl ?_
                                                        first | (refine sv rfl (opv_mv rfl) ?_) | (refine sv rfl (opv_mvt rfl) ?_)
                                                        refine son rfl rfl rfl ?_
                                                        first | (refine sv rfl (opv_mv rfl) ?_) | (refine sv rfl (opv_mvt rfl) ?_)
                                                        refine son rfl rfl rfl ?_
                                                        refine scall1 rfl fn23 (opnds_cons rfl (opnds_cons rfl opnds_nil)) (by (repeat' first | exact PubA.nil _ | apply PubA.cons | apply PubV.one | apply PubV.agg | exact PubL.nil | exact PubL.id _ rfl | exact PubL.ls _ _ _ _ _ _ rfl (by first | rfl | first | omega | (simp [bl]; done)) | exact PubLs.nil _ | apply PubLs.cons | exact PubLs.all _ _ (List.all_eq_true.1 rfl))) (cmp_c) ?_
                                                        refine son rfl rfl rfl ?_
                                                        refine sv rfl (opv_geq rfl rfl) ?_
                                                        first | (refine sv rfl (opv_pick_t rfl rfl) ?_) | (refine sv rfl (opv_pick_f rfl rfl) ?_)
                                                        refine snil ?_
                                                        refine ccond rfl (fun hc10 => ?_) (fun hc10 => ?_)
                                                        · replace hc10 := of_decide_eq_true hc10
                                                          first
                                                          | (exfalso; first | omega | contradiction | (rw [str_eq, order_eq] at hc10; contradiction))
                                                          | (
                                                              refine cseq ?_
                                                              refine cregion ?_
                                                              first | (refine sv rfl (opv_as rfl) ?_) | (refine sv rfl (opv_ast rfl) ?_)
                                                              refine snil ?_
                                                              refine cret ?_
                                                              refine then_ret ?_
                                                              refine ⟨Or.inr rfl, _, _, _, (resVs_cons (ResV.tmp _ _ rfl) resVs_nil), (pubA_id rfl), ?_⟩
                                                              first | rfl)
                                                        · replace hc10 := of_decide_eq_false hc10
                                                          first
                                                          | (exfalso; first | omega | contradiction | (rw [str_eq, order_eq] at hc10; contradiction))
                                                          | (
                                                              refine cskip ?_
                                                              refine then_normal ?_
                                                              refine cseq ?_
                                                              refine cregion ?_
                                                              first | (refine sv rfl (opv_mv rfl) ?_) | (refine sv rfl (opv_mvt rfl) ?_)
                                                              first | (refine sv rfl (opv_mv rfl) ?_) | (refine sv rfl (opv_mvt rfl) ?_)
                                                              refine ssplit 68 rfl (fun hg11 => ?_) (fun hg11 => ?_)
                                                              · first
                                                                | (exfalso; first | omega | contradiction | (rw [str_eq, order_eq] at hg11; contradiction))
                                                                | (
                                                                    refine son rfl rfl rfl ?_
                                                                    first | (refine sv rfl (opv_mv rfl) ?_) | (refine sv rfl (opv_mvt rfl) ?_)
                                                                    refine son rfl rfl rfl ?_
                                                                    refine sbuild0 rfl Try.underlying22 ei5 ?_
                                                                    refine son rfl rfl rfl ?_
                                                                    first | (refine sv rfl (opv_mv rfl) ?_) | (refine sv rfl (opv_mvt rfl) ?_)
                                                                    refine son rfl rfl rfl ?_
                                                                    first | (refine sadopt 5 1 70 (by decide) rfl ?_) | (skip)
                                                                    refine sappend rfl Try.underlying22 ei5 ni22 rfl rfl (by (repeat' first | exact pubA_id rfl | exact PubA.nil _ | apply PubA.cons | apply PubV.one | apply PubV.agg | exact PubL.nil | exact PubL.id _ rfl | exact PubL.ls _ _ _ _ _ _ rfl (by first | rfl | first | omega | (simp [bl]; done)) | exact PubLs.all _ _ (List.all_eq_true.1 rfl) | apply PubLs.cons | exact PubLs.nil _)) rfl (by first | rfl | first | omega | (simp [bl]; done)) (by first | exact .nil _ | exact .str _ | exact .sl _ _ _ (by first | rfl | first | omega | (simp [bl]; done))) (by first | omega | (simp only [maxLen]; omega)) (by first | omega | (simp only [maxLen]; omega)) ?_
                                                                    refine son rfl rfl rfl ?_
                                                                    refine sbuild1 rfl Try.underlying22 ei5 rfl rfl (List.all_eq_true.1 rfl) (by decide) ?_
                                                                    refine son rfl rfl rfl ?_
                                                                    first | (refine sadopt 5 1 72 (by decide) rfl ?_) | (skip)
                                                                    refine sappend rfl Try.underlying22 ei5 ni22 rfl rfl (by (repeat' first | exact pubA_id rfl | exact PubA.nil _ | apply PubA.cons | apply PubV.one | apply PubV.agg | exact PubL.nil | exact PubL.id _ rfl | exact PubL.ls _ _ _ _ _ _ rfl (by first | rfl | first | omega | (simp [bl]; done)) | exact PubLs.all _ _ (List.all_eq_true.1 rfl) | apply PubLs.cons | exact PubLs.nil _)) rfl (by first | rfl | first | omega | (simp [bl]; done)) (by first | exact .nil _ | exact .str _ | exact .sl _ _ _ (by first | rfl | first | omega | (simp [bl]; done))) (by first | omega | (simp only [maxLen]; omega)) (by first | omega | (simp only [maxLen]; omega)) ?_
                                                                    refine son rfl rfl rfl ?_
                                                                    refine scall1 rfl fn23 (opnds_cons rfl (opnds_cons rfl opnds_nil)) (by (repeat' first | exact PubA.nil _ | apply PubA.cons | apply PubV.one | apply PubV.agg | exact PubL.nil | exact PubL.id _ rfl | exact PubL.ls _ _ _ _ _ _ rfl (by first | rfl | first | omega | (simp [bl]; done)) | exact PubLs.nil _ | apply PubLs.cons | exact PubLs.all _ _ (List.all_eq_true.1 rfl))) (cmp_k (a := a) (b := a ++ [0]) (n := -1) rfl (app0 a) (cmpL_app0 a)) ?_
                                                                    refine son rfl rfl rfl ?_
                                                                    refine sv rfl (opv_ieql rfl rfl) ?_
                                                                    first | (refine sv rfl (opv_pick_t rfl rfl) ?_) | (refine sv rfl (opv_pick_f rfl rfl) ?_)
                                                                    first | (refine sv rfl (opv_as rfl) ?_) | (refine sv rfl (opv_ast rfl) ?_)
                                                                    refine snil ?_
                                                                    refine cret ?_
                                                                    refine ⟨Or.inr rfl, _, _, _, (resVs_cons (ResV.tmp _ _ rfl) resVs_nil), (pubA_id rfl), ?_⟩
                                                                    first | rfl)
                                                              · first
                                                                | (exfalso; first | omega | contradiction | (rw [str_eq, order_eq] at hg11; contradiction))
                                                                | (
                                                                    refine soff rfl rfl rfl rfl ?_
                                                                    refine soff rfl rfl rfl rfl ?_
                                                                    refine soff rfl rfl rfl rfl ?_
                                                                    refine soff rfl rfl rfl rfl ?_
                                                                    refine soff rfl rfl rfl rfl ?_
                                                                    refine soff rfl rfl rfl rfl ?_
                                                                    refine soff rfl rfl rfl rfl ?_
                                                                    refine soff rfl rfl rfl rfl ?_
                                                                    first | (refine sv rfl (opv_pick_t rfl rfl) ?_) | (refine sv rfl (opv_pick_f rfl rfl) ?_)
                                                                    first | (refine sv rfl (opv_as rfl) ?_) | (refine sv rfl (opv_ast rfl) ?_)
                                                                    refine snil ?_
                                                                    refine cret ?_
                                                                    refine ⟨Or.inr rfl, _, _, _, (resVs_cons (ResV.tmp _ _ rfl) resVs_nil), (pubA_id rfl), ?_⟩
                                                                    first | rfl)))
                                                  · replace hg9 := of_decide_eq_false hg9
                                                    first
                                                    | (exfalso; first | omega | contradiction | (rw [str_eq, order_eq] at hg9; contradiction))
                                                    | (
                                                        refine soff rfl rfl rfl rfl ?_
                                                        refine soff rfl rfl rfl rfl ?_
                                                        refine soff rfl rfl rfl rfl ?_
                                                        refine soff rfl rfl rfl rfl ?_
                                                        first | (refine sv rfl (opv_pick_t rfl rfl) ?_) | (refine sv rfl (opv_pick_f rfl rfl) ?_)
                                                        refine snil ?_
                                                        refine ccond rfl (fun hx => Bool.noConfusion hx) (fun _ => ?_)
                                                        refine cskip ?_
                                                        refine then_normal ?_
                                                        refine cseq ?_
                                                        refine cregion ?_
                                                        first | (refine sv rfl (opv_mv rfl) ?_) | (refine sv rfl (opv_mvt rfl) ?_)
                                                        first | (refine sv rfl (opv_mv rfl) ?_) | (refine sv rfl (opv_mvt rfl) ?_)
                                                        refine ssplit 68 rfl (fun hg12 => ?_) (fun hg12 => ?_)
                                                        · first
                                                          | (exfalso; first | omega | contradiction | (rw [str_eq, order_eq] at hg12; contradiction))
                                                          | (
                                                              refine son rfl rfl rfl ?_
                                                              first | (refine sv rfl (opv_mv rfl) ?_) | (refine sv rfl (opv_mvt rfl) ?_)
                                                              refine son rfl rfl rfl ?_
                                                              refine sbuild0 rfl Try.underlying22 ei5 ?_
                                                              refine son rfl rfl rfl ?_
                                                              first | (refine sv rfl (opv_mv rfl) ?_) | (refine sv rfl (opv_mvt rfl) ?_)
                                                              refine son rfl rfl rfl ?_
                                                              first | (refine sadopt 5 1 70 (by decide) rfl ?_) | (skip)
                                                              refine sappend rfl Try.underlying22 ei5 ni22 rfl rfl (by (repeat' first | exact pubA_id rfl | exact PubA.nil _ | apply PubA.cons | apply PubV.one | apply PubV.agg | exact PubL.nil | exact PubL.id _ rfl | exact PubL.ls _ _ _ _ _ _ rfl (by first | rfl | first | omega | (simp [bl]; done)) | exact PubLs.all _ _ (List.all_eq_true.1 rfl) | apply PubLs.cons | exact PubLs.nil _)) rfl (by first | rfl | first | omega | (simp [bl]; done)) (by first | exact .nil _ | exact .str _ | exact .sl _ _ _ (by first | rfl | first | omega | (simp [bl]; done))) (by first | omega | (simp only [maxLen]; omega)) (by first | omega | (simp only [maxLen]; omega)) ?_
                                                              refine son rfl rfl rfl ?_
                                                              refine sbuild1 rfl Try.underlying22 ei5 rfl rfl (List.all_eq_true.1 rfl) (by decide) ?_
                                                              refine son rfl rfl rfl ?_
                                                              first | (refine sadopt 5 1 72 (by decide) rfl ?_) | (skip)
                                                              refine sappend rfl Try.underlying22 ei5 ni22 rfl rfl (by (repeat' first | exact pubA_id rfl | exact PubA.nil _ | apply PubA.cons | apply PubV.one | apply PubV.agg | exact PubL.nil | exact PubL.id _ rfl | exact PubL.ls _ _ _ _ _ _ rfl (by first | rfl | first | omega | (simp [bl]; done)) | exact PubLs.all _ _ (List.all_eq_true.1 rfl) | apply PubLs.cons | exact PubLs.nil _)) rfl (by first | rfl | first | omega | (simp [bl]; done)) (by first | exact .nil _ | exact .str _ | exact .sl _ _ _ (by first | rfl | first | omega | (simp [bl]; done))) (by first | omega | (simp only [maxLen]; omega)) (by first | omega | (simp only [maxLen]; omega)) ?_
                                                              refine son rfl rfl rfl ?_
                                                              refine scall1 rfl fn23 (opnds_cons rfl (opnds_cons rfl opnds_nil)) (by (repeat' first | exact PubA.nil _ | apply PubA.cons | apply PubV.one | apply PubV.agg | exact PubL.nil | exact PubL.id _ rfl | exact PubL.ls _ _ _ _ _ _ rfl (by first | rfl | first | omega | (simp [bl]; done)) | exact PubLs.nil _ | apply PubLs.cons | exact PubLs.all _ _ (List.all_eq_true.1 rfl))) (cmp_k (a := a) (b := a ++ [0]) (n := -1) rfl (app0 a) (cmpL_app0 a)) ?_
                                                              refine son rfl rfl rfl ?_
                                                              refine sv rfl (opv_ieql rfl rfl) ?_
                                                              first | (refine sv rfl (opv_pick_t rfl rfl) ?_) | (refine sv rfl (opv_pick_f rfl rfl) ?_)
                                                              first | (refine sv rfl (opv_as rfl) ?_) | (refine sv rfl (opv_ast rfl) ?_)
                                                              refine snil ?_
                                                              refine cret ?_
                                                              refine ⟨Or.inr rfl, _, _, _, (resVs_cons (ResV.tmp _ _ rfl) resVs_nil), (pubA_id rfl), ?_⟩
                                                              first | rfl)
                                                        · first
                                                          | (exfalso; first | omega | contradiction | (rw [str_eq, order_eq] at hg12; contradiction))
                                                          | (
                                                              refine soff rfl rfl rfl rfl ?_
                                                              refine soff rfl rfl rfl rfl ?_
                                                              refine soff rfl rfl rfl rfl ?_
                                                              refine soff rfl rfl rfl rfl ?_
                                                              refine soff rfl rfl rfl rfl ?_
                                                              refine soff rfl rfl rfl rfl ?_
                                                              refine soff rfl rfl rfl rfl ?_
                                                              refine soff rfl rfl rfl rfl ?_
                                                              first | (refine sv rfl (opv_pick_t rfl rfl) ?_) | (refine sv rfl (opv_pick_f rfl rfl) ?_)
                                                              first | (refine sv rfl (opv_as rfl) ?_) | (refine sv rfl (opv_ast rfl) ?_)
                                                              refine snil ?_
                                                              refine cret ?_
                                                              refine ⟨Or.inr rfl, _, _, _, (resVs_cons (ResV.tmp _ _ rfl) resVs_nil), (pubA_id rfl), ?_⟩
                                                              first | rfl)))
                                            · replace hg8 := of_decide_eq_false hg8
                                              first
                                              | (exfalso; first | omega | contradiction | (rw [str_eq, order_eq] at hg8; contradiction))
                                              | (
                                                  refine soff rfl rfl rfl rfl ?_
                                                  refine soff rfl rfl rfl rfl ?_
                                                  refine soff rfl rfl rfl rfl ?_
                                                  refine soff rfl rfl rfl rfl ?_
                                                  first | (refine sv rfl (opv_pick_t rfl rfl) ?_) | (refine sv rfl (opv_pick_f rfl rfl) ?_)
                                                  first | (refine sv rfl (opv_mv rfl) ?_) | (refine sv rfl (opv_mvt rfl) ?_)
                                                  refine soff rfl rfl rfl rfl ?_
                                                  refine soff rfl rfl rfl rfl ?_
                                                  refine soff rfl rfl rfl rfl ?_
                                                  refine soff rfl rfl rfl rfl ?_
                                                  first | (refine sv rfl (opv_pick_t rfl rfl) ?_) | (refine sv rfl (opv_pick_f rfl rfl) ?_)
                                                  refine snil ?_
                                                  refine ccond rfl (fun hx => Bool.noConfusion hx) (fun _ => ?_)
                                                  refine cskip ?_
                                                  refine then_normal ?_
                                                  refine cseq ?_
                                                  refine cregion ?_
                                                  first | (refine sv rfl (opv_mv rfl) ?_) | (refine sv rfl (opv_mvt rfl) ?_)
                                                  first | (refine sv rfl (opv_mv rfl) ?_) | (refine sv rfl (opv_mvt rfl) ?_)
                                                  refine ssplit 68 rfl (fun hg13 => ?_) (fun hg13 => ?_)
                                                  · first
                                                    | (exfalso; first | omega | contradiction | (rw [str_eq, order_eq] at hg13; contradiction))
                                                    | (
                                                        refine son rfl rfl rfl ?_
                                                        first | (refine sv rfl (opv_mv rfl) ?_) | (refine sv rfl (opv_mvt rfl) ?_)
                                                        refine son rfl rfl rfl ?_
                                                        refine sbuild0 rfl Try.underlying22 ei5 ?_
                                                        refine son rfl rfl rfl ?_
                                                        first | (refine sv rfl (opv_mv rfl) ?_) | (refine sv rfl (opv_mvt rfl) ?_)
                                                        refine son rfl rfl rfl ?_
                                                        first | (refine sadopt 5 1 70 (by decide) rfl ?_) | (skip)
                                                        refine sappend rfl Try.underlying22 ei5 ni22 rfl rfl (by (repeat' first | exact pubA_id rfl | exact PubA.nil _ | apply PubA.cons | apply PubV.one | apply PubV.agg | exact PubL.nil | exact PubL.id _ rfl | exact PubL.ls _ _ _ _ _ _ rfl (by first | rfl | first | omega | (simp [bl]; done)) | exact PubLs.all _ _ (List.all_eq_true.1 rfl) | apply PubLs.cons | exact PubLs.nil _)) rfl (by first | rfl | first | omega | (simp [bl]; done)) (by first | exact .nil _ | exact .str _ | exact .sl _ _ _ (by first | rfl | first | omega | (simp [bl]; done))) (by first | omega | (simp only [maxLen]; omega)) (by first | omega | (simp only [maxLen]; omega)) ?_
                                                        refine son rfl rfl rfl ?_
                                                        refine sbuild1 rfl Try.underlying22 ei5 rfl rfl (List.all_eq_true.1 rfl) (by decide) ?_
                                                        refine son rfl rfl rfl ?_
                                                        first | (refine sadopt 5 1 72 (by decide) rfl ?_) | (skip)
                                                        refine sappend rfl Try.underlying22 ei5 ni22 rfl rfl (by (repeat' first | exact pubA_id rfl | exact PubA.nil _ | apply PubA.cons | apply PubV.one | apply PubV.agg | exact PubL.nil | exact PubL.id _ rfl | exact PubL.ls _ _ _ _ _ _ rfl (by first | rfl | first | omega | (simp [bl]; done)) | exact PubLs.all _ _ (List.all_eq_true.1 rfl) | apply PubLs.cons | exact PubLs.nil _)) rfl (by first | rfl | first | omega | (simp [bl]; done)) (by first | exact .nil _ | exact .str _ | exact .sl _ _ _ (by first | rfl | first | omega | (simp [bl]; done))) (by first | omega | (simp only [maxLen]; omega)) (by first | omega | (simp only [maxLen]; omega)) ?_
                                                        refine son rfl rfl rfl ?_
                                                        refine scall1 rfl fn23 (opnds_cons rfl (opnds_cons rfl opnds_nil)) (by (repeat' first | exact PubA.nil _ | apply PubA.cons | apply PubV.one | apply PubV.agg | exact PubL.nil | exact PubL.id _ rfl | exact PubL.ls _ _ _ _ _ _ rfl (by first | rfl | first | omega | (simp [bl]; done)) | exact PubLs.nil _ | apply PubLs.cons | exact PubLs.all _ _ (List.all_eq_true.1 rfl))) (cmp_k (a := a) (b := a ++ [0]) (n := -1) rfl (app0 a) (cmpL_app0 a)) ?_
                                                        refine son rfl rfl rfl ?_
                                                        refine sv rfl (opv_ieql rfl rfl) ?_
                                                        first | (refine sv rfl (opv_pick_t rfl rfl) ?_) | (refine sv rfl (opv_pick_f rfl rfl) ?_)
                                                        first | (refine sv rfl (opv_as rfl) ?_) | (refine sv rfl (opv_ast rfl) ?_)
                                                        refine snil ?_
                                                        refine cret ?_
                                                        refine ⟨Or.inr rfl, _, _, _, (resVs_cons (ResV.tmp _ _ rfl) resVs_nil), (pubA_id rfl), ?_⟩
                                                        first | rfl)
                                                  · first
                                                    | (exfalso; first | omega | contradiction | (rw [str_eq, order_eq] at hg13; contradiction))
                                                    | (
                                                        refine soff rfl rfl rfl rfl ?_
                                                        refine soff rfl rfl rfl rfl ?_
                                                        refine soff rfl rfl rfl rfl ?_
                                                        refine soff rfl rfl rfl rfl ?_
                                                        refine soff rfl rfl rfl rfl ?_
                                                        refine soff rfl rfl rfl rfl ?_
                                                        refine soff rfl rfl rfl rfl ?_
                                                        refine soff rfl rfl rfl rfl ?_
                                                        first | (refine sv rfl (opv_pick_t rfl rfl) ?_) | (refine sv rfl (opv_pick_f rfl rfl) ?_)
                                                        first | (refine sv rfl (opv_as rfl) ?_) | (refine sv rfl (opv_ast rfl) ?_)
                                                        refine snil ?_
                                                        refine cret ?_
                                                        refine ⟨Or.inr rfl, _, _, _, (resVs_cons (ResV.tmp _ _ rfl) resVs_nil), (pubA_id rfl), ?_⟩
                                                        first | rfl)))))))))

end Go.Proofs.Ytiadgkkebmclgaa.Abs
