/-
  SeqsIs: the walk
-/
import Derived.Test.YtaffjoloefhodaaQ12
namespace Go.Proofs.Ytaffjoloefhodaa.Abs
open Go.RowKit Go.Proofs
set_option maxRecDepth 100000

theorem fn9 : FnI Try.prog 9 := ⟨⟨_, Try.func9, by kernel_rfl, by kernel_rfl⟩⟩
theorem fn11 : FnI Try.prog 11 := ⟨⟨_, Try.func11, by kernel_rfl, by kernel_rfl⟩⟩
theorem fn12 : FnI Try.prog 12 := ⟨⟨_, Try.func12, by kernel_rfl, by kernel_rfl⟩⟩
theorem fn19 : FnI Try.prog 19 := ⟨⟨_, Try.func19, by kernel_rfl, by kernel_rfl⟩⟩
theorem fn21 : FnI Try.prog 21 := ⟨⟨_, Try.func21, by kernel_rfl, by kernel_rfl⟩⟩

theorem seqsIs_c {b : Int} {u : BitVec 64} {s most : Int} (hb : -9223372036854775808 ≤ b ∧ b ≤ 9223372036854775807) : CallsA Try.prog 3 [wsv b u, .one (.i .i64 s), .one (.i .i64 most)] (· = .s (.one (.b true))) := by
  refine callsA_of Try.func3 rfl (nt := 72) rfl (Nat.le_of_ble_eq_true rfl) ?_
  intro w0 S0
  have hml := miss_len b u most
  obtain ⟨⟨⟨b2, u2⟩, e2⟩, hacc⟩ : ∃ r, acceptM b u s = r := ⟨_, rfl⟩
  refine cseq ?_
  refine cregion ?_
  refine sbox rfl rfl ?_
  first | (refine sv rfl (opv_as rfl) ?_) | (refine sv rfl (opv_ast rfl) ?_)
  refine snil ?_
  refine cseq ?_
  refine cregion ?_
  refine scall1 rfl fn8 opnds_nil (pubA_id rfl) (awake_c) ?_
  first | (refine sv rfl (opv_as rfl) ?_) | (refine sv rfl (opv_ast rfl) ?_)
  refine snil ?_
  refine cseq ?_
  refine cregion ?_
  first | (refine sv rfl (opv_loadN ti24 rfl (.lp _ _ _ rfl) (Nat.le_of_ble_eq_true rfl)) ?_) | (refine sv rfl (opv_loadN ti24 rfl (.cp _) (Nat.le_of_ble_eq_true rfl)) ?_)
  refine scall1 rfl fn9 (opnds_cons rfl opnds_nil) (pubA_id rfl) (ours_c) ?_
  refine salloc rfl zi26 ?_
  first | (refine sstore sz26 rfl rfl rfl rfl (Nat.le_of_ble_eq_true rfl) ?_) | (refine sstore_ap sz26 rfl rfl rfl (by first | rfl | omega) rfl (List.all_eq_true.1 rfl) (by omega) (by omega) ?_)
  refine snil ?_
  refine cseq ?_
  refine cregion ?_
  first | (refine sv rfl (opv_loadN ti26 rfl (.lp _ _ _ rfl) (Nat.le_of_ble_eq_true rfl)) ?_) | (refine sv rfl (opv_loadN ti26 rfl (.cp _) (Nat.le_of_ble_eq_true rfl)) ?_)
  first | (refine sv rfl (opv_mv rfl) ?_) | (refine sv rfl (opv_mvt rfl) ?_)
  refine scall1 rfl fn10 (opnds_cons rfl (opnds_cons rfl opnds_nil)) (pubA_id rfl) (accept_c (by omega)) ?_
  rw [hacc]
  dsimp only
  first | (refine sv rfl (opv_mv rfl) ?_) | (refine sv rfl (opv_mvt rfl) ?_)
  refine sv rfl (opv_extract rfl rfl) ?_
  refine sv rfl (opv_extract rfl rfl) ?_
  refine salloc rfl zi26 ?_
  first | (refine sstore sz26 rfl rfl rfl rfl (Nat.le_of_ble_eq_true rfl) ?_) | (refine sstore_ap sz26 rfl rfl rfl (by first | rfl | omega) rfl (List.all_eq_true.1 rfl) (by omega) (by omega) ?_)
  first | (refine sv rfl (opv_as rfl) ?_) | (refine sv rfl (opv_ast rfl) ?_)
  refine snil ?_
  refine cseq ?_
  refine cregion ?_
  first | (refine sv rfl (opv_loadN ti24 rfl (.lp _ _ _ rfl) (Nat.le_of_ble_eq_true rfl)) ?_) | (refine sv rfl (opv_loadN ti24 rfl (.cp _) (Nat.le_of_ble_eq_true rfl)) ?_)
  first | (refine sv rfl (opv_mv rfl) ?_) | (refine sv rfl (opv_mvt rfl) ?_)
  refine scall1 rfl fn11 (opnds_cons rfl (opnds_cons rfl opnds_nil)) (pubA_id rfl) (refaccept_c (by omega)) ?_
  rw [hacc]
  dsimp only
  first | (refine sv rfl (opv_mv rfl) ?_) | (refine sv rfl (opv_mvt rfl) ?_)
  refine sv rfl (opv_extract rfl rfl) ?_
  refine sv rfl (opv_extract rfl rfl) ?_
  refine salloc rfl zi24 ?_
  first | (refine sstore sz24 rfl rfl rfl rfl (Nat.le_of_ble_eq_true rfl) ?_) | (refine sstore_ap sz24 rfl rfl rfl (by first | rfl | omega) rfl (List.all_eq_true.1 rfl) (by omega) (by omega) ?_)
  first | (refine sv rfl (opv_as rfl) ?_) | (refine sv rfl (opv_ast rfl) ?_)
  refine snil ?_
  refine cseq ?_
  refine cdraw mixed (by kernel_rfl) ?_
  first | (refine dv rfl (opv_mv rfl) ?_) | (refine dv rfl (opv_mvt rfl) ?_)
  first | (refine dv rfl (opv_mv rfl) ?_) | (refine dv rfl (opv_mvt rfl) ?_)
  refine dsplit 29 rfl (fun hg1 => ?_) (fun hg1 => ?_)
  · first
    | (exfalso; first | omega | (simp at hg1; done) | (exact absurd rfl (of_decide_eq_false hg1)))
    | (
        first | (refine dvg rfl rfl rfl (opv_loadN ti26 rfl (.lp _ _ _ rfl) (Nat.le_of_ble_eq_true rfl)) ?_) | (refine dvg rfl rfl rfl (opv_loadN ti26 rfl (.cp _) (Nat.le_of_ble_eq_true rfl)) ?_)
        refine ddg rfl rfl rfl (opD_call fn12 (opnds_cons rfl opnds_nil) rfl (theirs_c)) ?_
        first | (refine dvg rfl rfl rfl (opv_loadN ti24 rfl (.lp _ _ _ rfl) (Nat.le_of_ble_eq_true rfl)) ?_) | (refine dvg rfl rfl rfl (opv_loadN ti24 rfl (.cp _) (Nat.le_of_ble_eq_true rfl)) ?_)
        refine dvg rfl rfl rfl (opv_eq2 (fun w a b c d => eq24 a b c d w) (by kernel_rfl) rfl rfl) ?_
        first | (refine dv rfl (opv_pick_t rfl rfl) ?_) | (refine dv rfl (opv_pick_f rfl rfl) ?_)
        first | (refine dv rfl (opv_mv rfl) ?_) | (refine dv rfl (opv_mvt rfl) ?_)
        refine dsplit 35 rfl (fun hg2 => ?_) (fun hg2 => ?_)
        · first
          | (exfalso; first | omega | (simp at hg2; done) | (exact absurd rfl (of_decide_eq_false hg2)))
          | (
              first | (refine dvg rfl rfl rfl (opv_mv rfl) ?_) | (refine dvg rfl rfl rfl (opv_mvt rfl) ?_)
              first | (refine dvg rfl rfl rfl (opv_mv rfl) ?_) | (refine dvg rfl rfl rfl (opv_mvt rfl) ?_)
              refine dvg rfl rfl rfl (opv_ieql rfl rfl) ?_
              first | (refine dv rfl (opv_pick_t rfl rfl) ?_) | (refine dv rfl (opv_pick_f rfl rfl) ?_)
              first | (refine dv rfl (opv_mv rfl) ?_) | (refine dv rfl (opv_mvt rfl) ?_)
              refine dsplit 40 rfl (fun hg3 => ?_) (fun hg3 => ?_)
              · replace hg3 := of_decide_eq_true hg3
                first
                | (exfalso; first | omega | (simp at hg3; done) | (exact absurd rfl (of_decide_eq_false hg3)))
                | (
                    first | (refine dvg rfl rfl rfl (opv_loadN ti26 rfl (.lp _ _ _ rfl) (Nat.le_of_ble_eq_true rfl)) ?_) | (refine dvg rfl rfl rfl (opv_loadN ti26 rfl (.cp _) (Nat.le_of_ble_eq_true rfl)) ?_)
                    refine ddg rfl rfl rfl (opD_call fn13 (opnds_cons rfl opnds_nil) rfl (sane_c (by omega))) ?_
                    first | (refine dvg rfl rfl rfl (opv_loadN ti24 rfl (.lp _ _ _ rfl) (Nat.le_of_ble_eq_true rfl)) ?_) | (refine dvg rfl rfl rfl (opv_loadN ti24 rfl (.cp _) (Nat.le_of_ble_eq_true rfl)) ?_)
                    refine ddg rfl rfl rfl (opD_call fn14 (opnds_cons rfl opnds_nil) rfl (refsane_c (by omega))) ?_
                    refine dvg rfl rfl rfl (opv_beql Try.underlying4 rfl rfl) ?_
                    first | (refine dv rfl (opv_pick_t rfl rfl) ?_) | (refine dv rfl (opv_pick_f rfl rfl) ?_)
                    first | (refine dv rfl (opv_mv rfl) ?_) | (refine dv rfl (opv_mvt rfl) ?_)
                    refine dsplit 47 rfl (fun hg4 => ?_) (fun hg4 => ?_)
                    · first
                      | (exfalso; first | omega | (simp at hg4; done) | (exact absurd rfl (of_decide_eq_false hg4)))
                      | (
                          first | (refine dvg rfl rfl rfl (opv_loadN ti26 rfl (.lp _ _ _ rfl) (Nat.le_of_ble_eq_true rfl)) ?_) | (refine dvg rfl rfl rfl (opv_loadN ti26 rfl (.cp _) (Nat.le_of_ble_eq_true rfl)) ?_)
                          first | (refine dvg rfl rfl rfl (opv_mv rfl) ?_) | (refine dvg rfl rfl rfl (opv_mvt rfl) ?_)
                          refine ddg rfl rfl rfl (opD_call fn15 (opnds_cons rfl (opnds_cons rfl opnds_nil)) rfl (seen_c (by omega))) ?_
                          first | (refine dvg rfl rfl rfl (opv_loadN ti24 rfl (.lp _ _ _ rfl) (Nat.le_of_ble_eq_true rfl)) ?_) | (refine dvg rfl rfl rfl (opv_loadN ti24 rfl (.cp _) (Nat.le_of_ble_eq_true rfl)) ?_)
                          first | (refine dvg rfl rfl rfl (opv_mv rfl) ?_) | (refine dvg rfl rfl rfl (opv_mvt rfl) ?_)
                          refine ddg rfl rfl rfl (opD_call fn16 (opnds_cons rfl (opnds_cons rfl opnds_nil)) rfl (refseen_c (by omega))) ?_
                          refine dvg rfl rfl rfl (opv_beql Try.underlying4 rfl rfl) ?_
                          first | (refine dv rfl (opv_pick_t rfl rfl) ?_) | (refine dv rfl (opv_pick_f rfl rfl) ?_)
                          first | (refine dv rfl (opv_mv rfl) ?_) | (refine dv rfl (opv_mvt rfl) ?_)
                          refine dsplit 56 rfl (fun hg5 => ?_) (fun hg5 => ?_)
                          · first
                            | (exfalso; first | omega | (simp at hg5; done) | (exact absurd rfl (of_decide_eq_false hg5)))
                            | (
                                first | (refine dvg rfl rfl rfl (opv_loadN ti26 rfl (.lp _ _ _ rfl) (Nat.le_of_ble_eq_true rfl)) ?_) | (refine dvg rfl rfl rfl (opv_loadN ti26 rfl (.cp _) (Nat.le_of_ble_eq_true rfl)) ?_)
                                first | (refine dvg rfl rfl rfl (opv_mv rfl) ?_) | (refine dvg rfl rfl rfl (opv_mvt rfl) ?_)
                                refine ddg rfl rfl rfl (opD_call fn18 (opnds_cons rfl (opnds_cons rfl opnds_nil)) rfl (missing_c (by omega))) ?_
                                first | (refine dvg rfl rfl rfl (opv_loadN ti24 rfl (.lp _ _ _ rfl) (Nat.le_of_ble_eq_true rfl)) ?_) | (refine dvg rfl rfl rfl (opv_loadN ti24 rfl (.cp _) (Nat.le_of_ble_eq_true rfl)) ?_)
                                first | (refine dvg rfl rfl rfl (opv_mv rfl) ?_) | (refine dvg rfl rfl rfl (opv_mvt rfl) ?_)
                                refine ddg rfl rfl rfl (opD_call fn19 (opnds_cons rfl (opnds_cons rfl opnds_nil)) rfl (refmissing_c (by omega))) ?_
                                refine ddg rfl rfl rfl (opD_call fn17 (opnds_cons rfl (opnds_cons rfl opnds_nil)) rfl (ints_c (by omega))) ?_
                                first | (refine dv rfl (opv_pick_t rfl rfl) ?_) | (refine dv rfl (opv_pick_f rfl rfl) ?_)
                                first | (refine dv rfl (opv_mv rfl) ?_) | (refine dv rfl (opv_mvt rfl) ?_)
                                refine dsplit 65 rfl (fun hg6 => ?_) (fun hg6 => ?_)
                                · first
                                  | (exfalso; first | omega | (simp at hg6; done) | (exact absurd rfl (of_decide_eq_false hg6)))
                                  | (
                                      first | (refine dvg rfl rfl rfl (opv_loadN ti26 rfl (.lp _ _ _ rfl) (Nat.le_of_ble_eq_true rfl)) ?_) | (refine dvg rfl rfl rfl (opv_loadN ti26 rfl (.cp _) (Nat.le_of_ble_eq_true rfl)) ?_)
                                      refine ddg rfl rfl rfl (opD_call fn20 (opnds_cons rfl opnds_nil) rfl (full_c (by omega))) ?_
                                      first | (refine dvg rfl rfl rfl (opv_loadN ti24 rfl (.lp _ _ _ rfl) (Nat.le_of_ble_eq_true rfl)) ?_) | (refine dvg rfl rfl rfl (opv_loadN ti24 rfl (.cp _) (Nat.le_of_ble_eq_true rfl)) ?_)
                                      refine ddg rfl rfl rfl (opD_call fn21 (opnds_cons rfl opnds_nil) rfl (reffull_c (by omega))) ?_
                                      refine dvg rfl rfl rfl (opv_beql Try.underlying4 rfl rfl) ?_
                                      first | (refine dv rfl (opv_pick_t rfl rfl) ?_) | (refine dv rfl (opv_pick_f rfl rfl) ?_)
                                      first | (refine dv rfl (opv_as rfl) ?_) | (refine dv rfl (opv_ast rfl) ?_)
                                      refine dnil ?_
                                      refine then_normal ?_
                                      refine cret ?_
                                      refine ⟨Or.inr rfl, _, _, _, (resVs_cons (ResV.tmp _ _ rfl) resVs_nil), (pubA_id rfl), ?_⟩
                                      first | rfl | exact avb (beq_self_eq_true _))
                                · first
                                  | (exfalso; first | omega | (simp at hg6; done) | (exact absurd rfl (of_decide_eq_false hg6)))
                                  | (
                                      refine doff rfl rfl rfl rfl ?_
                                      refine doff rfl rfl rfl rfl ?_
                                      refine doff rfl rfl rfl rfl ?_
                                      refine doff rfl rfl rfl rfl ?_
                                      refine doff rfl rfl rfl rfl ?_
                                      first | (refine dv rfl (opv_pick_t rfl rfl) ?_) | (refine dv rfl (opv_pick_f rfl rfl) ?_)
                                      first | (refine dv rfl (opv_as rfl) ?_) | (refine dv rfl (opv_ast rfl) ?_)
                                      refine dnil ?_
                                      refine then_normal ?_
                                      refine cret ?_
                                      refine ⟨Or.inr rfl, _, _, _, (resVs_cons (ResV.tmp _ _ rfl) resVs_nil), (pubA_id rfl), ?_⟩
                                      first | rfl | exact avb (beq_self_eq_true _)))
                          · first
                            | (exfalso; first | omega | (simp at hg5; done) | (exact absurd rfl (of_decide_eq_false hg5)))
                            | (
                                refine doff rfl rfl rfl rfl ?_
                                refine doff rfl rfl rfl rfl ?_
                                refine doff rfl rfl rfl rfl ?_
                                refine doff rfl rfl rfl rfl ?_
                                refine doff rfl rfl rfl rfl ?_
                                refine doff rfl rfl rfl rfl ?_
                                refine doff rfl rfl rfl rfl ?_
                                first | (refine dv rfl (opv_pick_t rfl rfl) ?_) | (refine dv rfl (opv_pick_f rfl rfl) ?_)
                                first | (refine dv rfl (opv_mv rfl) ?_) | (refine dv rfl (opv_mvt rfl) ?_)
                                refine doff rfl rfl rfl rfl ?_
                                refine doff rfl rfl rfl rfl ?_
                                refine doff rfl rfl rfl rfl ?_
                                refine doff rfl rfl rfl rfl ?_
                                refine doff rfl rfl rfl rfl ?_
                                first | (refine dv rfl (opv_pick_t rfl rfl) ?_) | (refine dv rfl (opv_pick_f rfl rfl) ?_)
                                first | (refine dv rfl (opv_as rfl) ?_) | (refine dv rfl (opv_ast rfl) ?_)
                                refine dnil ?_
                                refine then_normal ?_
                                refine cret ?_
                                refine ⟨Or.inr rfl, _, _, _, (resVs_cons (ResV.tmp _ _ rfl) resVs_nil), (pubA_id rfl), ?_⟩
                                first | rfl | exact avb (beq_self_eq_true _)))
                    · first
                      | (exfalso; first | omega | (simp at hg4; done) | (exact absurd rfl (of_decide_eq_false hg4)))
                      | (
                          refine doff rfl rfl rfl rfl ?_
                          refine doff rfl rfl rfl rfl ?_
                          refine doff rfl rfl rfl rfl ?_
                          refine doff rfl rfl rfl rfl ?_
                          refine doff rfl rfl rfl rfl ?_
                          refine doff rfl rfl rfl rfl ?_
                          refine doff rfl rfl rfl rfl ?_
                          first | (refine dv rfl (opv_pick_t rfl rfl) ?_) | (refine dv rfl (opv_pick_f rfl rfl) ?_)
                          first | (refine dv rfl (opv_mv rfl) ?_) | (refine dv rfl (opv_mvt rfl) ?_)
                          refine doff rfl rfl rfl rfl ?_
                          refine doff rfl rfl rfl rfl ?_
                          refine doff rfl rfl rfl rfl ?_
                          refine doff rfl rfl rfl rfl ?_
                          refine doff rfl rfl rfl rfl ?_
                          refine doff rfl rfl rfl rfl ?_
                          refine doff rfl rfl rfl rfl ?_
                          first | (refine dv rfl (opv_pick_t rfl rfl) ?_) | (refine dv rfl (opv_pick_f rfl rfl) ?_)
                          first | (refine dv rfl (opv_mv rfl) ?_) | (refine dv rfl (opv_mvt rfl) ?_)
                          refine doff rfl rfl rfl rfl ?_
                          refine doff rfl rfl rfl rfl ?_
                          refine doff rfl rfl rfl rfl ?_
                          refine doff rfl rfl rfl rfl ?_
                          refine doff rfl rfl rfl rfl ?_
                          first | (refine dv rfl (opv_pick_t rfl rfl) ?_) | (refine dv rfl (opv_pick_f rfl rfl) ?_)
                          first | (refine dv rfl (opv_as rfl) ?_) | (refine dv rfl (opv_ast rfl) ?_)
                          refine dnil ?_
                          refine then_normal ?_
                          refine cret ?_
                          refine ⟨Or.inr rfl, _, _, _, (resVs_cons (ResV.tmp _ _ rfl) resVs_nil), (pubA_id rfl), ?_⟩
                          first | rfl | exact avb (beq_self_eq_true _)))
              · replace hg3 := of_decide_eq_false hg3
                first
                | (exfalso; first | omega | (simp at hg3; done) | (exact absurd rfl (of_decide_eq_false hg3)))
                | (
                    refine doff rfl rfl rfl rfl ?_
                    refine doff rfl rfl rfl rfl ?_
                    refine doff rfl rfl rfl rfl ?_
                    refine doff rfl rfl rfl rfl ?_
                    refine doff rfl rfl rfl rfl ?_
                    first | (refine dv rfl (opv_pick_t rfl rfl) ?_) | (refine dv rfl (opv_pick_f rfl rfl) ?_)
                    first | (refine dv rfl (opv_mv rfl) ?_) | (refine dv rfl (opv_mvt rfl) ?_)
                    refine doff rfl rfl rfl rfl ?_
                    refine doff rfl rfl rfl rfl ?_
                    refine doff rfl rfl rfl rfl ?_
                    refine doff rfl rfl rfl rfl ?_
                    refine doff rfl rfl rfl rfl ?_
                    refine doff rfl rfl rfl rfl ?_
                    refine doff rfl rfl rfl rfl ?_
                    first | (refine dv rfl (opv_pick_t rfl rfl) ?_) | (refine dv rfl (opv_pick_f rfl rfl) ?_)
                    first | (refine dv rfl (opv_mv rfl) ?_) | (refine dv rfl (opv_mvt rfl) ?_)
                    refine doff rfl rfl rfl rfl ?_
                    refine doff rfl rfl rfl rfl ?_
                    refine doff rfl rfl rfl rfl ?_
                    refine doff rfl rfl rfl rfl ?_
                    refine doff rfl rfl rfl rfl ?_
                    refine doff rfl rfl rfl rfl ?_
                    refine doff rfl rfl rfl rfl ?_
                    first | (refine dv rfl (opv_pick_t rfl rfl) ?_) | (refine dv rfl (opv_pick_f rfl rfl) ?_)
                    first | (refine dv rfl (opv_mv rfl) ?_) | (refine dv rfl (opv_mvt rfl) ?_)
                    refine doff rfl rfl rfl rfl ?_
                    refine doff rfl rfl rfl rfl ?_
                    refine doff rfl rfl rfl rfl ?_
                    refine doff rfl rfl rfl rfl ?_
                    refine doff rfl rfl rfl rfl ?_
                    first | (refine dv rfl (opv_pick_t rfl rfl) ?_) | (refine dv rfl (opv_pick_f rfl rfl) ?_)
                    first | (refine dv rfl (opv_as rfl) ?_) | (refine dv rfl (opv_ast rfl) ?_)
                    refine dnil ?_
                    refine then_normal ?_
                    refine cret ?_
                    refine ⟨Or.inr rfl, _, _, _, (resVs_cons (ResV.tmp _ _ rfl) resVs_nil), (pubA_id rfl), ?_⟩
                    first | rfl | exact avb (beq_self_eq_true _)))
        · first
          | (exfalso; first | omega | (simp at hg2; done) | (exact absurd rfl (of_decide_eq_false hg2)))
          | (
              refine doff rfl rfl rfl rfl ?_
              refine doff rfl rfl rfl rfl ?_
              refine doff rfl rfl rfl rfl ?_
              first | (refine dv rfl (opv_pick_t rfl rfl) ?_) | (refine dv rfl (opv_pick_f rfl rfl) ?_)
              first | (refine dv rfl (opv_mv rfl) ?_) | (refine dv rfl (opv_mvt rfl) ?_)
              refine doff rfl rfl rfl rfl ?_
              refine doff rfl rfl rfl rfl ?_
              refine doff rfl rfl rfl rfl ?_
              refine doff rfl rfl rfl rfl ?_
              refine doff rfl rfl rfl rfl ?_
              first | (refine dv rfl (opv_pick_t rfl rfl) ?_) | (refine dv rfl (opv_pick_f rfl rfl) ?_)
              first | (refine dv rfl (opv_mv rfl) ?_) | (refine dv rfl (opv_mvt rfl) ?_)
              refine doff rfl rfl rfl rfl ?_
              refine doff rfl rfl rfl rfl ?_
              refine doff rfl rfl rfl rfl ?_
              refine doff rfl rfl rfl rfl ?_
              refine doff rfl rfl rfl rfl ?_
              refine doff rfl rfl rfl rfl ?_
              refine doff rfl rfl rfl rfl ?_
              first | (refine dv rfl (opv_pick_t rfl rfl) ?_) | (refine dv rfl (opv_pick_f rfl rfl) ?_)
              first | (refine dv rfl (opv_mv rfl) ?_) | (refine dv rfl (opv_mvt rfl) ?_)
              refine doff rfl rfl rfl rfl ?_
              refine doff rfl rfl rfl rfl ?_
              refine doff rfl rfl rfl rfl ?_
              refine doff rfl rfl rfl rfl ?_
              refine doff rfl rfl rfl rfl ?_
              refine doff rfl rfl rfl rfl ?_
              refine doff rfl rfl rfl rfl ?_
              first | (refine dv rfl (opv_pick_t rfl rfl) ?_) | (refine dv rfl (opv_pick_f rfl rfl) ?_)
              first | (refine dv rfl (opv_mv rfl) ?_) | (refine dv rfl (opv_mvt rfl) ?_)
              refine doff rfl rfl rfl rfl ?_
              refine doff rfl rfl rfl rfl ?_
              refine doff rfl rfl rfl rfl ?_
              refine doff rfl rfl rfl rfl ?_
              refine doff rfl rfl rfl rfl ?_
              first | (refine dv rfl (opv_pick_t rfl rfl) ?_) | (refine dv rfl (opv_pick_f rfl rfl) ?_)
              first | (refine dv rfl (opv_as rfl) ?_) | (refine dv rfl (opv_ast rfl) ?_)
              refine dnil ?_
              refine then_normal ?_
              refine cret ?_
              refine ⟨Or.inr rfl, _, _, _, (resVs_cons (ResV.tmp _ _ rfl) resVs_nil), (pubA_id rfl), ?_⟩
              first | rfl | exact avb (beq_self_eq_true _)))
  · first
    | (exfalso; first | omega | (simp at hg1; done) | (exact absurd rfl (of_decide_eq_false hg1)))
    | (
        refine doff rfl rfl rfl rfl ?_
        refine doff rfl rfl rfl rfl ?_
        refine doff rfl rfl rfl rfl ?_
        refine doff rfl rfl rfl rfl ?_
        first | (refine dv rfl (opv_pick_t rfl rfl) ?_) | (refine dv rfl (opv_pick_f rfl rfl) ?_)
        first | (refine dv rfl (opv_mv rfl) ?_) | (refine dv rfl (opv_mvt rfl) ?_)
        refine doff rfl rfl rfl rfl ?_
        refine doff rfl rfl rfl rfl ?_
        refine doff rfl rfl rfl rfl ?_
        first | (refine dv rfl (opv_pick_t rfl rfl) ?_) | (refine dv rfl (opv_pick_f rfl rfl) ?_)
        first | (refine dv rfl (opv_mv rfl) ?_) | (refine dv rfl (opv_mvt rfl) ?_)
        refine doff rfl rfl rfl rfl ?_
        refine doff rfl rfl rfl rfl ?_
        refine doff rfl rfl rfl rfl ?_
        refine doff rfl rfl rfl rfl ?_
        refine doff rfl rfl rfl rfl ?_
        first | (refine dv rfl (opv_pick_t rfl rfl) ?_) | (refine dv rfl (opv_pick_f rfl rfl) ?_)
        first | (refine dv rfl (opv_mv rfl) ?_) | (refine dv rfl (opv_mvt rfl) ?_)
        refine doff rfl rfl rfl rfl ?_
        refine doff rfl rfl rfl rfl ?_
        refine doff rfl rfl rfl rfl ?_
        refine doff rfl rfl rfl rfl ?_
        refine doff rfl rfl rfl rfl ?_
        refine doff rfl rfl rfl rfl ?_
        refine doff rfl rfl rfl rfl ?_
        first | (refine dv rfl (opv_pick_t rfl rfl) ?_) | (refine dv rfl (opv_pick_f rfl rfl) ?_)
        first | (refine dv rfl (opv_mv rfl) ?_) | (refine dv rfl (opv_mvt rfl) ?_)
        refine doff rfl rfl rfl rfl ?_
        refine doff rfl rfl rfl rfl ?_
        refine doff rfl rfl rfl rfl ?_
        refine doff rfl rfl rfl rfl ?_
        refine doff rfl rfl rfl rfl ?_
        refine doff rfl rfl rfl rfl ?_
        refine doff rfl rfl rfl rfl ?_
        first | (refine dv rfl (opv_pick_t rfl rfl) ?_) | (refine dv rfl (opv_pick_f rfl rfl) ?_)
        first | (refine dv rfl (opv_mv rfl) ?_) | (refine dv rfl (opv_mvt rfl) ?_)
        refine doff rfl rfl rfl rfl ?_
        refine doff rfl rfl rfl rfl ?_
        refine doff rfl rfl rfl rfl ?_
        refine doff rfl rfl rfl rfl ?_
        refine doff rfl rfl rfl rfl ?_
        first | (refine dv rfl (opv_pick_t rfl rfl) ?_) | (refine dv rfl (opv_pick_f rfl rfl) ?_)
        first | (refine dv rfl (opv_as rfl) ?_) | (refine dv rfl (opv_ast rfl) ?_)
        refine dnil ?_
        refine then_normal ?_
        refine cret ?_
        refine ⟨Or.inr rfl, _, _, _, (resVs_cons (ResV.tmp _ _ rfl) resVs_nil), (pubA_id rfl), ?_⟩
        first | rfl | exact avb (beq_self_eq_true _))

end Go.Proofs.Ytaffjoloefhodaa.Abs
