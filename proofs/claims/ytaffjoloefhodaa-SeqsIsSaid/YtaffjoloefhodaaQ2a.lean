/-
  SeqsOnce: the walk
-/
import Derived.Test.YtaffjoloefhodaaQ1
namespace Go.Proofs.Ytaffjoloefhodaa.Abs
open Go.RowKit Go.Proofs
set_option maxRecDepth 100000

theorem fn8 : FnI Try.prog 8 := ⟨⟨_, Try.func8, by kernel_rfl, by kernel_rfl⟩⟩
theorem si39 : SI Try.prog 39 3 1 := ⟨Try.underlying39, by kernel_rfl, by decide⟩

theorem seqsOnce_c {xs : List Int} {k : Int} (hxs : ∀ x ∈ xs, -9223372036854775808 ≤ x ∧ x ≤ 9223372036854775807) : CallsA Try.prog 4 [.one (.sl xs.length (il xs)), .one (.i .i64 k)] (· = .s (.one (.b true))) := by
  refine callsA_of Try.func4 rfl (nt := 79) rfl (Nat.le_of_ble_eq_true rfl) ?_
  intro w0 S0
  refine cseq ?_
  refine cregion ?_
  first | (refine sv rfl (opv_as rfl) ?_) | (refine sv rfl (opv_ast rfl) ?_)
  refine snil ?_
  refine cseq ?_
  refine cregion ?_
  refine scall1 rfl fn8 opnds_nil (pubA_id rfl) (awake_c) ?_
  first | (refine sv rfl (opv_as rfl) ?_) | (refine sv rfl (opv_ast rfl) ?_)
  refine snil ?_
  refine cseq ?_
  refine cseq ?_
  refine cregion ?_
  first | (refine sv rfl (opv_mv rfl) ?_) | (refine sv rfl (opv_mvt rfl) ?_)
  first | (refine sv rfl (opv_len_sl si39 rfl) ?_) | (refine sv rfl (opv_len_nil si39 rfl) ?_) | (refine sv rfl (opv_len_ls si39 rfl rfl (by first | rfl | omega)) ?_)
  refine sv rfl (opv_gtr rfl rfl) ?_
  refine snil ?_
  refine ccond rfl (fun hc1 => ?_) (fun hc1 => ?_)
  · replace hc1 := of_decide_eq_true hc1
    first
    | (exfalso; first | omega | contradiction | (rw [accept7 hs] at hc1; contradiction) | (rw [hsy, decide_eq_true rfl] at hc1; contradiction) | (rw [hs'] at hc1; contradiction))
    | (
        refine cseq ?_
        refine cregion ?_
        first | (refine sv rfl (opv_mv rfl) ?_) | (refine sv rfl (opv_mvt rfl) ?_)
        first | (refine sv rfl (opv_as rfl) ?_) | (refine sv rfl (opv_ast rfl) ?_)
        refine snil ?_
        refine cret ?_
        refine then_ret ?_
        refine ⟨Or.inr rfl, _, _, _, (resVs_cons (ResV.tmp _ _ rfl) resVs_nil), (pubA_id rfl), ?_⟩
        first | rfl | exact avb (cntM_seen b u k))
  · replace hc1 := of_decide_eq_false hc1
    first
    | (exfalso; first | omega | contradiction | (rw [accept7 hs] at hc1; contradiction) | (rw [hsy, decide_eq_true rfl] at hc1; contradiction) | (rw [hs'] at hc1; contradiction))
    | (
        refine cskip ?_
        refine then_normal ?_
        refine cseq ?_
        refine cregion ?_
        refine sv rfl (opv_build zi26 pi26 parts_nil (.nil _)) ?_
        refine salloc rfl zi26 ?_
        first | (refine sstore sz26 rfl rfl rfl rfl (Nat.le_of_ble_eq_true rfl) ?_) | (refine sstore_ap sz26 rfl rfl rfl (by first | rfl | omega) rfl (List.all_eq_true.1 rfl) (by omega) (by omega) ?_)
        refine snil ?_
        refine cseq ?_
        refine cregion ?_
        first | (refine sv rfl (opv_as rfl) ?_) | (refine sv rfl (opv_ast rfl) ?_)
        refine snil ?_
        refine cseq ?_
        refine cseq ?_
        refine cregion ?_
        first | (refine sv rfl (opv_as rfl) ?_) | (refine sv rfl (opv_ast rfl) ?_)
        refine snil ?_
        refine cblock ?_
        refine awc_loop (G := Nat × Int × BitVec 64) (fun g => [(0, .s (.one (.sl xs.length (il xs)))), (1, .s (.one (.i .i64 k))), (5, .s (.one (.b true))), (6, .s (.one (.lp 0 0))), (7, .s (.one (.i .i64 (cntM g.2.1 g.2.2 k)))), (8, .s (.one (.i .i64 (g.1 : Int))))]) (fun g => [.box (wsv g.2.1 g.2.2).cells]) (fun g => saneM g.2.1 g.2.2 = true ∧ g.1 ≤ xs.length) (fun g => xs.length - g.1) (0, 0, 0#64) ⟨by decide, Nat.zero_le _⟩ ⟨rfl, rfl, rfl, rfl, congrArg (fun n => AV.s (.one (.i .i64 n))) (cntM_zero k).symm, rfl, trivial⟩ _ rfl (fun _ _ => ⟨rfl, rfl, rfl, rfl, rfl, rfl, trivial⟩) (fun _ _ => blk_inb rfl) ?_
        intro ⟨i, b, u⟩ ⟨hs, hi⟩
        dsimp only at hs hi ⊢
        have hsb := (saneM_iff b u).1 hs
        have hcl := cntM_le b u k
        refine cseq ?_
        refine cseq ?_
        refine cregion ?_
        first | (refine sv rfl (opv_mv rfl) ?_) | (refine sv rfl (opv_mvt rfl) ?_)
        first | (refine sv rfl (opv_mv rfl) ?_) | (refine sv rfl (opv_mvt rfl) ?_)
        first | (refine sv rfl (opv_len_sl si39 rfl) ?_) | (refine sv rfl (opv_len_nil si39 rfl) ?_) | (refine sv rfl (opv_len_ls si39 rfl rfl (by first | rfl | omega)) ?_)
        refine sv rfl (opv_lss rfl rfl) ?_
        refine snil ?_
        refine ccond rfl (fun hc2 => ?_) (fun hc2 => ?_)
        · replace hc2 := of_decide_eq_true hc2
          obtain ⟨x, hx⟩ : ∃ x, xs[i]? = some x := ⟨_, List.getElem?_eq_getElem (by omega)⟩
          have hxr := hxs x (List.mem_of_getElem? hx)
          first
          | (exfalso; first | omega | contradiction | (rw [accept7 hs] at hc2; contradiction) | (rw [hsy, decide_eq_true rfl] at hc2; contradiction) | (rw [hs'] at hc2; contradiction))
          | (
              refine cskip ?_
              refine then_normal ?_
              refine cseq ?_
              refine cblock ?_
              refine cseq ?_
              refine cdraw mixed (by kernel_rfl) ?_
              first | (refine dv rfl (opv_loadN ti26 rfl (.lp _ _ _ rfl) (Nat.le_of_ble_eq_true rfl)) ?_) | (refine dv rfl (opv_loadN ti26 rfl (.cp _) (Nat.le_of_ble_eq_true rfl)) ?_)
              first | (refine dv rfl (opv_mv rfl) ?_) | (refine dv rfl (opv_mvt rfl) ?_)
              first | (refine dv rfl (opv_mv rfl) ?_) | (refine dv rfl (opv_mvt rfl) ?_)
              first | (refine dv rfl (opv_indexAddr_sl si39 rfl rfl (by omega) (by omega)) ?_) | (refine dv rfl (opv_indexAddr_ls si39 rfl rfl rfl (by first | rfl | omega) (by omega) (by omega)) ?_)
              first | (refine dv rfl (opv_load1 ti3 rfl (.lp _ _ _ rfl) rfl) ?_) | (refine dv rfl (opv_load1 ti3 rfl (.cp _) rfl) ?_) | (refine dv rfl (opv_load1 ti3 rfl (.cp _) (il_drop hx)) ?_) | (refine dv rfl (opv_load1 ti3 rfl (.ap _ _ _ _ _ _ _ rfl (by first | rfl | omega)) rfl) ?_)
              refine dd rfl (opD_call fn15 (opnds_cons rfl (opnds_cons rfl opnds_nil)) rfl (seen_c (by omega))) ?_
              first | (refine dv rfl (opv_as rfl) ?_) | (refine dv rfl (opv_ast rfl) ?_)
              refine dnil ?_
              refine then_normal ?_
              refine cseq ?_
              refine cdraw_as (zl := [.i .i64 0, .i .u64 0]) 10 9 mixed (by kernel_rfl) rfl rfl (by kernel_rfl) sz26 zi26 ?_
              first | (refine mv rfl (opv_loadN ti26 rfl (.lp _ _ _ rfl) (Nat.le_of_ble_eq_true rfl)) ?_) | (refine mv rfl (opv_loadN ti26 rfl (.cp _) (Nat.le_of_ble_eq_true rfl)) ?_)
              first | (refine mv rfl (opv_mv rfl) ?_) | (refine mv rfl (opv_mvt rfl) ?_)
              first | (refine mv rfl (opv_mv rfl) ?_) | (refine mv rfl (opv_mvt rfl) ?_)
              first | (refine mv rfl (opv_indexAddr_sl si39 rfl rfl (by omega) (by omega)) ?_) | (refine mv rfl (opv_indexAddr_ls si39 rfl rfl rfl (by first | rfl | omega) (by omega) (by omega)) ?_)
              first | (refine mv rfl (opv_load1 ti3 rfl (.lp _ _ _ rfl) rfl) ?_) | (refine mv rfl (opv_load1 ti3 rfl (.cp _) rfl) ?_) | (refine mv rfl (opv_load1 ti3 rfl (.cp _) (il_drop hx)) ?_) | (refine mv rfl (opv_load1 ti3 rfl (.ap _ _ _ _ _ _ _ rfl (by first | rfl | omega)) rfl) ?_)
              refine mdd rfl (opD_call fn10 (opnds_cons rfl (opnds_cons rfl opnds_nil)) rfl (accept_c (by omega))) ?_
              first | (refine mv rfl (opv_mv rfl) ?_) | (refine mv rfl (opv_mvt rfl) ?_)
              refine mv rfl (opv_extract rfl rfl) ?_
              refine mv rfl (opv_extract rfl rfl) ?_
              refine mal rfl ?_
              refine mst ?_
              first | (refine mv rfl (opv_as rfl) ?_) | (refine mv rfl (opv_ast rfl) ?_)
              refine mnil ?_
              refine ⟨rfl, rfl, _, rfl, rfl, ?_⟩
              refine then_normal ?_
              refine cseq ?_
              refine cseq ?_
              refine cregion ?_
              first | (refine sv rfl (opv_mv rfl) ?_) | (refine sv rfl (opv_mvt rfl) ?_)
              first | (refine sv rfl (opv_mv rfl) ?_) | (refine sv rfl (opv_mvt rfl) ?_)
              refine sv rfl (opv_ieql rfl rfl) ?_
              refine sv rfl (opv_bneq Try.underlying4 rfl rfl) ?_
              refine snil ?_
              refine ccond rfl (fun hc3 => ?_) (fun hc3 => ?_)
              · replace hc3 := bnot_t hc3
                first
                | (exfalso; first | omega | contradiction | (rw [accept7 hs] at hc3; contradiction) | (rw [hsy, decide_eq_true rfl] at hc3; contradiction) | (rw [hs'] at hc3; contradiction))
                | (
                    refine cseq ?_
                    refine cregion ?_
                    first | (refine sv rfl (opv_as rfl) ?_) | (refine sv rfl (opv_ast rfl) ?_)
                    refine snil ?_
                    refine cret ?_
                    refine then_ret ?_
                    refine block_ret ?_
                    refine then_ret ?_
                    refine then_ret ?_
                    refine block_ret ?_
                    refine then_ret ?_
                    refine ⟨Or.inr rfl, _, _, _, (resVs_cons (ResV.tmp _ _ rfl) resVs_nil), (pubA_id rfl), ?_⟩
                    first | rfl | exact avb (cntM_seen b u k))
              · replace hc3 := bnot_f hc3
                first
                | (exfalso; first | omega | contradiction | (rw [accept7 hs] at hc3; contradiction) | (rw [hsy, decide_eq_true rfl] at hc3; contradiction) | (rw [hs'] at hc3; contradiction))
                | (
                    refine cskip ?_
                    refine then_normal ?_
                    refine cseq ?_
                    refine cseq ?_
                    refine cregion ?_
                    first | (refine sv rfl (opv_mv rfl) ?_) | (refine sv rfl (opv_mvt rfl) ?_)
                    refine sv rfl (opv_ineq rfl rfl) ?_
                    refine snil ?_
                    refine ccond rfl (fun hc4 => ?_) (fun hc4 => ?_)
                    · replace hc4 := ndec_t hc4
                      first
                      | (exfalso; first | omega | contradiction | (rw [accept7 hs] at hc4; contradiction) | (rw [hsy, decide_eq_true rfl] at hc4; contradiction) | (rw [hs'] at hc4; contradiction))
                      | (
                          refine cexit ?_
                          refine then_exit ?_
                          refine block_hit ?_
                          refine then_normal ?_
                          refine cregion ?_
                          first | (refine sv rfl (opv_mv rfl) ?_) | (refine sv rfl (opv_mvt rfl) ?_)
                          refine sv rfl (opv_add_ok rfl rfl (wrap_i64 (by omega) (by omega))) ?_
                          first | (refine sv rfl (opv_as rfl) ?_) | (refine sv rfl (opv_ast rfl) ?_)
                          refine snil ?_
                          first
                            | exact ⟨(i + 1, b, u), _, ⟨hs, by dsimp only; omega⟩, ⟨rfl, rfl, rfl, rfl, rfl, rfl, trivial⟩, rfl, by dsimp only; omega⟩
                            | exact ⟨(i + 1, (acceptM b u x).1.1, (acceptM b u x).1.2), _, ⟨hs', by dsimp only; omega⟩, ⟨rfl, rfl, rfl, rfl, congrArg (fun n => AV.s (.one (.i .i64 n))) (by rw [cntM_next hs hc4, if_pos hc5]), rfl, trivial⟩, rfl, by dsimp only; omega⟩
                            | exact ⟨(i + 1, (acceptM b u x).1.1, (acceptM b u x).1.2), _, ⟨hs', by dsimp only; omega⟩, ⟨rfl, rfl, rfl, rfl, congrArg (fun n => AV.s (.one (.i .i64 n))) (by rw [cntM_next hs hc4, if_neg hc5]), rfl, trivial⟩, rfl, by dsimp only; omega⟩
                           )
                    · replace hc4 := ndec_f hc4
                      obtain ⟨hs', hsn, hsy⟩ := accept_spec hs hc4
                      have hsb' := (saneM_iff _ _).1 hs'
                      first
                      | (exfalso; first | omega | contradiction | (rw [accept7 hs] at hc4; contradiction) | (rw [hsy, decide_eq_true rfl] at hc4; contradiction) | (rw [hs'] at hc4; contradiction))
                      | (
                          refine cskip ?_
                          refine then_normal ?_
                          refine cseq ?_
                          refine cregion ?_
                          first | (refine sv rfl (opv_loadN ti26 rfl (.lp _ _ _ rfl) (Nat.le_of_ble_eq_true rfl)) ?_) | (refine sv rfl (opv_loadN ti26 rfl (.cp _) (Nat.le_of_ble_eq_true rfl)) ?_)
                          first | (refine sstore sz26 rfl rfl rfl rfl (Nat.le_of_ble_eq_true rfl) ?_) | (refine sstore_ap sz26 rfl rfl rfl (by first | rfl | omega) rfl (List.all_eq_true.1 rfl) (by omega) (by omega) ?_)
                          refine snil ?_
                          refine cseq ?_
                          refine cseq ?_
                          refine cregion ?_
                          first | (refine sv rfl (opv_mv rfl) ?_) | (refine sv rfl (opv_mvt rfl) ?_)
                          first | (refine sv rfl (opv_mv rfl) ?_) | (refine sv rfl (opv_mvt rfl) ?_)
                          first | (refine sv rfl (opv_indexAddr_sl si39 rfl rfl (by omega) (by omega)) ?_) | (refine sv rfl (opv_indexAddr_ls si39 rfl rfl rfl (by first | rfl | omega) (by omega) (by omega)) ?_)
                          first | (refine sv rfl (opv_load1 ti3 rfl (.lp _ _ _ rfl) rfl) ?_) | (refine sv rfl (opv_load1 ti3 rfl (.cp _) rfl) ?_) | (refine sv rfl (opv_load1 ti3 rfl (.cp _) (il_drop hx)) ?_) | (refine sv rfl (opv_load1 ti3 rfl (.ap _ _ _ _ _ _ _ rfl (by first | rfl | omega)) rfl) ?_)
                          first | (refine sv rfl (opv_mv rfl) ?_) | (refine sv rfl (opv_mvt rfl) ?_)
                          refine sv rfl (opv_ieql rfl rfl) ?_
                          refine snil ?_
                          refine ccond rfl (fun hc5 => ?_) (fun hc5 => ?_)
                          · replace hc5 := of_decide_eq_true hc5
                            first
                            | (exfalso; first | omega | contradiction | (rw [accept7 hs] at hc5; contradiction) | (rw [hsy, decide_eq_true rfl] at hc5; contradiction) | (rw [hs'] at hc5; contradiction))
                            | (
                                refine cregion ?_
                                first | (refine sv rfl (opv_mv rfl) ?_) | (refine sv rfl (opv_mvt rfl) ?_)
                                refine sv rfl (opv_add_ok rfl rfl (wrap_i64 (by omega) (by omega))) ?_
                                first | (refine sv rfl (opv_as rfl) ?_) | (refine sv rfl (opv_ast rfl) ?_)
                                refine snil ?_
                                refine cseq ?_
                                refine cdraw mixed (by kernel_rfl) ?_
                                first | (refine dv rfl (opv_loadN ti26 rfl (.lp _ _ _ rfl) (Nat.le_of_ble_eq_true rfl)) ?_) | (refine dv rfl (opv_loadN ti26 rfl (.cp _) (Nat.le_of_ble_eq_true rfl)) ?_)
                                first | (refine dv rfl (opv_mv rfl) ?_) | (refine dv rfl (opv_mvt rfl) ?_)
                                first | (refine dv rfl (opv_mv rfl) ?_) | (refine dv rfl (opv_mvt rfl) ?_)
                                first | (refine dv rfl (opv_indexAddr_sl si39 rfl rfl (by omega) (by omega)) ?_) | (refine dv rfl (opv_indexAddr_ls si39 rfl rfl rfl (by first | rfl | omega) (by omega) (by omega)) ?_)
                                first | (refine dv rfl (opv_load1 ti3 rfl (.lp _ _ _ rfl) rfl) ?_) | (refine dv rfl (opv_load1 ti3 rfl (.cp _) rfl) ?_) | (refine dv rfl (opv_load1 ti3 rfl (.cp _) (il_drop hx)) ?_) | (refine dv rfl (opv_load1 ti3 rfl (.ap _ _ _ _ _ _ _ rfl (by first | rfl | omega)) rfl) ?_)
                                refine dd rfl (opD_call fn15 (opnds_cons rfl (opnds_cons rfl opnds_nil)) rfl (seen_c (by omega))) ?_
                                refine dv rfl (opv_not rfl) ?_
                                first | (refine dv rfl (opv_mv rfl) ?_) | (refine dv rfl (opv_mvt rfl) ?_)
                                refine dsplit 61 rfl (fun hg6 => ?_) (fun hg6 => ?_)
                                · replace hg6 := bnot_t hg6
                                  first
                                  | (exfalso; first | omega | contradiction | (rw [accept7 hs] at hg6; contradiction) | (rw [hsy, decide_eq_true rfl] at hg6; contradiction) | (rw [hs'] at hg6; contradiction))
                                  | (
                                      refine doff rfl rfl rfl rfl ?_
                                      refine doff rfl rfl rfl rfl ?_
                                      refine doff rfl rfl rfl rfl ?_
                                      first | (refine dv rfl (opv_pick_t rfl rfl) ?_) | (refine dv rfl (opv_pick_f rfl rfl) ?_)
                                      refine dnil ?_
                                      refine then_normal ?_
                                      refine ccond rfl (fun _ => ?_) (fun hx => Bool.noConfusion hx)
                                      refine cseq ?_
                                      refine cregion ?_
                                      first | (refine sv rfl (opv_as rfl) ?_) | (refine sv rfl (opv_ast rfl) ?_)
                                      refine snil ?_
                                      refine cret ?_
                                      refine block_ret ?_
                                      refine then_ret ?_
                                      refine then_ret ?_
                                      refine block_ret ?_
                                      refine then_ret ?_
                                      refine ⟨Or.inr rfl, _, _, _, (resVs_cons (ResV.tmp _ _ rfl) resVs_nil), (pubA_id rfl), ?_⟩
                                      first | rfl | exact avb (cntM_seen b u k))
                                · replace hg6 := bnot_f hg6
                                  first
                                  | (exfalso; first | omega | contradiction | (rw [accept7 hs] at hg6; contradiction) | (rw [hsy, decide_eq_true rfl] at hg6; contradiction) | (rw [hs'] at hg6; contradiction))
                                  | (
                                      first | (refine dvg rfl rfl rfl (opv_loadN ti26 rfl (.lp _ _ _ rfl) (Nat.le_of_ble_eq_true rfl)) ?_) | (refine dvg rfl rfl rfl (opv_loadN ti26 rfl (.cp _) (Nat.le_of_ble_eq_true rfl)) ?_)
                                      refine ddg rfl rfl rfl (opD_call fn13 (opnds_cons rfl opnds_nil) rfl (sane_c (by omega))) ?_
                                      refine dvg rfl rfl rfl (opv_not rfl) ?_
                                      first | (refine dv rfl (opv_pick_t rfl rfl) ?_) | (refine dv rfl (opv_pick_f rfl rfl) ?_)
                                      refine dnil ?_
                                      refine then_normal ?_
                                      refine ccond rfl (fun hc7 => ?_) (fun hc7 => ?_)
                                      · replace hc7 := bnot_t hc7
                                        first
                                        | (exfalso; first | omega | contradiction | (rw [accept7 hs] at hc7; contradiction) | (rw [hsy, decide_eq_true rfl] at hc7; contradiction) | (rw [hs'] at hc7; contradiction))
                                        | (
                                            refine cseq ?_
                                            refine cregion ?_
                                            first | (refine sv rfl (opv_as rfl) ?_) | (refine sv rfl (opv_ast rfl) ?_)
                                            refine snil ?_
                                            refine cret ?_
                                            refine block_ret ?_
                                            refine then_ret ?_
                                            refine then_ret ?_
                                            refine block_ret ?_
                                            refine then_ret ?_
                                            refine ⟨Or.inr rfl, _, _, _, (resVs_cons (ResV.tmp _ _ rfl) resVs_nil), (pubA_id rfl), ?_⟩
                                            first | rfl | exact avb (cntM_seen b u k))
                                      · replace hc7 := bnot_f hc7
                                        first
                                        | (exfalso; first | omega | contradiction | (rw [accept7 hs] at hc7; contradiction) | (rw [hsy, decide_eq_true rfl] at hc7; contradiction) | (rw [hs'] at hc7; contradiction))
                                        | (
                                            refine cskip ?_
                                            refine block_normal ?_
                                            refine then_normal ?_
                                            refine cregion ?_
                                            first | (refine sv rfl (opv_mv rfl) ?_) | (refine sv rfl (opv_mvt rfl) ?_)
                                            refine sv rfl (opv_add_ok rfl rfl (wrap_i64 (by omega) (by omega))) ?_
                                            first | (refine sv rfl (opv_as rfl) ?_) | (refine sv rfl (opv_ast rfl) ?_)
                                            refine snil ?_
                                            first
                                              | exact ⟨(i + 1, b, u), _, ⟨hs, by dsimp only; omega⟩, ⟨rfl, rfl, rfl, rfl, rfl, rfl, trivial⟩, rfl, by dsimp only; omega⟩
                                              | exact ⟨(i + 1, (acceptM b u x).1.1, (acceptM b u x).1.2), _, ⟨hs', by dsimp only; omega⟩, ⟨rfl, rfl, rfl, rfl, congrArg (fun n => AV.s (.one (.i .i64 n))) (by rw [cntM_next hs hc4, if_pos hc5]), rfl, trivial⟩, rfl, by dsimp only; omega⟩
                                              | exact ⟨(i + 1, (acceptM b u x).1.1, (acceptM b u x).1.2), _, ⟨hs', by dsimp only; omega⟩, ⟨rfl, rfl, rfl, rfl, congrArg (fun n => AV.s (.one (.i .i64 n))) (by rw [cntM_next hs hc4, if_neg hc5]), rfl, trivial⟩, rfl, by dsimp only; omega⟩
                                             )))
                          · replace hc5 := of_decide_eq_false hc5
                            first
                            | (exfalso; first | omega | contradiction | (rw [accept7 hs] at hc5; contradiction) | (rw [hsy, decide_eq_true rfl] at hc5; contradiction) | (rw [hs'] at hc5; contradiction))
                            | (
                                refine cskip ?_
                                refine then_normal ?_
                                refine cseq ?_
                                refine cdraw mixed (by kernel_rfl) ?_
                                first | (refine dv rfl (opv_loadN ti26 rfl (.lp _ _ _ rfl) (Nat.le_of_ble_eq_true rfl)) ?_) | (refine dv rfl (opv_loadN ti26 rfl (.cp _) (Nat.le_of_ble_eq_true rfl)) ?_)
                                first | (refine dv rfl (opv_mv rfl) ?_) | (refine dv rfl (opv_mvt rfl) ?_)
                                first | (refine dv rfl (opv_mv rfl) ?_) | (refine dv rfl (opv_mvt rfl) ?_)
                                first | (refine dv rfl (opv_indexAddr_sl si39 rfl rfl (by omega) (by omega)) ?_) | (refine dv rfl (opv_indexAddr_ls si39 rfl rfl rfl (by first | rfl | omega) (by omega) (by omega)) ?_)
                                first | (refine dv rfl (opv_load1 ti3 rfl (.lp _ _ _ rfl) rfl) ?_) | (refine dv rfl (opv_load1 ti3 rfl (.cp _) rfl) ?_) | (refine dv rfl (opv_load1 ti3 rfl (.cp _) (il_drop hx)) ?_) | (refine dv rfl (opv_load1 ti3 rfl (.ap _ _ _ _ _ _ _ rfl (by first | rfl | omega)) rfl) ?_)
                                refine dd rfl (opD_call fn15 (opnds_cons rfl (opnds_cons rfl opnds_nil)) rfl (seen_c (by omega))) ?_
                                refine dv rfl (opv_not rfl) ?_
                                first | (refine dv rfl (opv_mv rfl) ?_) | (refine dv rfl (opv_mvt rfl) ?_)
                                refine dsplit 61 rfl (fun hg8 => ?_) (fun hg8 => ?_)
                                · replace hg8 := bnot_t hg8
                                  first
                                  | (exfalso; first | omega | contradiction | (rw [accept7 hs] at hg8; contradiction) | (rw [hsy, decide_eq_true rfl] at hg8; contradiction) | (rw [hs'] at hg8; contradiction))
                                  | (
                                      refine doff rfl rfl rfl rfl ?_
                                      refine doff rfl rfl rfl rfl ?_
                                      refine doff rfl rfl rfl rfl ?_
                                      first | (refine dv rfl (opv_pick_t rfl rfl) ?_) | (refine dv rfl (opv_pick_f rfl rfl) ?_)
                                      refine dnil ?_
                                      refine then_normal ?_
                                      refine ccond rfl (fun _ => ?_) (fun hx => Bool.noConfusion hx)
                                      refine cseq ?_
                                      refine cregion ?_
                                      first | (refine sv rfl (opv_as rfl) ?_) | (refine sv rfl (opv_ast rfl) ?_)
                                      refine snil ?_
                                      refine cret ?_
                                      refine block_ret ?_
                                      refine then_ret ?_
                                      refine then_ret ?_
                                      refine block_ret ?_
                                      refine then_ret ?_
                                      refine ⟨Or.inr rfl, _, _, _, (resVs_cons (ResV.tmp _ _ rfl) resVs_nil), (pubA_id rfl), ?_⟩
                                      first | rfl | exact avb (cntM_seen b u k))
                                · replace hg8 := bnot_f hg8
                                  first
                                  | (exfalso; first | omega | contradiction | (rw [accept7 hs] at hg8; contradiction) | (rw [hsy, decide_eq_true rfl] at hg8; contradiction) | (rw [hs'] at hg8; contradiction))
                                  | (
                                      first | (refine dvg rfl rfl rfl (opv_loadN ti26 rfl (.lp _ _ _ rfl) (Nat.le_of_ble_eq_true rfl)) ?_) | (refine dvg rfl rfl rfl (opv_loadN ti26 rfl (.cp _) (Nat.le_of_ble_eq_true rfl)) ?_)
                                      refine ddg rfl rfl rfl (opD_call fn13 (opnds_cons rfl opnds_nil) rfl (sane_c (by omega))) ?_
                                      refine dvg rfl rfl rfl (opv_not rfl) ?_
                                      first | (refine dv rfl (opv_pick_t rfl rfl) ?_) | (refine dv rfl (opv_pick_f rfl rfl) ?_)
                                      refine dnil ?_
                                      refine then_normal ?_
                                      refine ccond rfl (fun hc9 => ?_) (fun hc9 => ?_)
                                      · replace hc9 := bnot_t hc9
                                        first
                                        | (exfalso; first | omega | contradiction | (rw [accept7 hs] at hc9; contradiction) | (rw [hsy, decide_eq_true rfl] at hc9; contradiction) | (rw [hs'] at hc9; contradiction))
                                        | (
                                            refine cseq ?_
                                            refine cregion ?_
                                            first | (refine sv rfl (opv_as rfl) ?_) | (refine sv rfl (opv_ast rfl) ?_)
                                            refine snil ?_
                                            refine cret ?_
                                            refine block_ret ?_
                                            refine then_ret ?_
                                            refine then_ret ?_
                                            refine block_ret ?_
                                            refine then_ret ?_
                                            refine ⟨Or.inr rfl, _, _, _, (resVs_cons (ResV.tmp _ _ rfl) resVs_nil), (pubA_id rfl), ?_⟩
                                            first | rfl | exact avb (cntM_seen b u k))
                                      · replace hc9 := bnot_f hc9
                                        first
                                        | (exfalso; first | omega | contradiction | (rw [accept7 hs] at hc9; contradiction) | (rw [hsy, decide_eq_true rfl] at hc9; contradiction) | (rw [hs'] at hc9; contradiction))
                                        | (
                                            refine cskip ?_
                                            refine block_normal ?_
                                            refine then_normal ?_
                                            refine cregion ?_
                                            first | (refine sv rfl (opv_mv rfl) ?_) | (refine sv rfl (opv_mvt rfl) ?_)
                                            refine sv rfl (opv_add_ok rfl rfl (wrap_i64 (by omega) (by omega))) ?_
                                            first | (refine sv rfl (opv_as rfl) ?_) | (refine sv rfl (opv_ast rfl) ?_)
                                            refine snil ?_
                                            first
                                              | exact ⟨(i + 1, b, u), _, ⟨hs, by dsimp only; omega⟩, ⟨rfl, rfl, rfl, rfl, rfl, rfl, trivial⟩, rfl, by dsimp only; omega⟩
                                              | exact ⟨(i + 1, (acceptM b u x).1.1, (acceptM b u x).1.2), _, ⟨hs', by dsimp only; omega⟩, ⟨rfl, rfl, rfl, rfl, congrArg (fun n => AV.s (.one (.i .i64 n))) (by rw [cntM_next hs hc4, if_pos hc5]), rfl, trivial⟩, rfl, by dsimp only; omega⟩
                                              | exact ⟨(i + 1, (acceptM b u x).1.1, (acceptM b u x).1.2), _, ⟨hs', by dsimp only; omega⟩, ⟨rfl, rfl, rfl, rfl, congrArg (fun n => AV.s (.one (.i .i64 n))) (by rw [cntM_next hs hc4, if_neg hc5]), rfl, trivial⟩, rfl, by dsimp only; omega⟩
                                             ))))))
        · replace hc2 := of_decide_eq_false hc2
          first
          | (exfalso; first | omega | contradiction | (rw [accept7 hs] at hc2; contradiction) | (rw [hsy, decide_eq_true rfl] at hc2; contradiction) | (rw [hs'] at hc2; contradiction))
          | (
              refine cexit ?_
              refine then_exit ?_
              refine then_exit ?_
              refine block_hit ?_
              refine then_normal ?_
              refine cseq ?_
              refine cregion ?_
              first | (refine sv rfl (opv_mv rfl) ?_) | (refine sv rfl (opv_mvt rfl) ?_)
              first | (refine sv rfl (opv_mv rfl) ?_) | (refine sv rfl (opv_mvt rfl) ?_)
              refine ssplit 67 rfl (fun hg10 => ?_) (fun hg10 => ?_)
              · first
                | (exfalso; first | omega | contradiction | (rw [accept7 hs] at hg10; contradiction) | (rw [hsy, decide_eq_true rfl] at hg10; contradiction) | (rw [hs'] at hg10; contradiction))
                | (
                    refine son rfl rfl rfl ?_
                    first | (refine sv rfl (opv_mv rfl) ?_) | (refine sv rfl (opv_mvt rfl) ?_)
                    refine son rfl rfl rfl ?_
                    refine sv rfl (opv_leq rfl rfl) ?_
                    first | (refine sv rfl (opv_pick_t rfl rfl) ?_) | (refine sv rfl (opv_pick_f rfl rfl) ?_)
                    first | (refine sv rfl (opv_mv rfl) ?_) | (refine sv rfl (opv_mvt rfl) ?_)
                    refine ssplit 71 rfl (fun hg11 => ?_) (fun hg11 => ?_)
                    · replace hg11 := of_decide_eq_true hg11
                      first
                      | (exfalso; first | omega | contradiction | (rw [accept7 hs] at hg11; contradiction) | (rw [hsy, decide_eq_true rfl] at hg11; contradiction) | (rw [hs'] at hg11; contradiction))
                      | (
                          refine son rfl rfl rfl ?_
                          first | (refine sv rfl (opv_loadN ti26 rfl (.lp _ _ _ rfl) (Nat.le_of_ble_eq_true rfl)) ?_) | (refine sv rfl (opv_loadN ti26 rfl (.cp _) (Nat.le_of_ble_eq_true rfl)) ?_)
                          refine son rfl rfl rfl ?_
                          first | (refine sv rfl (opv_mv rfl) ?_) | (refine sv rfl (opv_mvt rfl) ?_)
                          refine son rfl rfl rfl ?_
                          refine scall1 rfl fn15 (opnds_cons rfl (opnds_cons rfl opnds_nil)) (pubA_id rfl) (seen_c (by omega)) ?_
                          refine son rfl rfl rfl ?_
                          first | (refine sv rfl (opv_mv rfl) ?_) | (refine sv rfl (opv_mvt rfl) ?_)
                          refine son rfl rfl rfl ?_
                          refine sv rfl (opv_ieql rfl rfl) ?_
                          refine son rfl rfl rfl ?_
                          refine sv rfl (opv_beql Try.underlying4 rfl rfl) ?_
                          first | (refine sv rfl (opv_pick_t rfl rfl) ?_) | (refine sv rfl (opv_pick_f rfl rfl) ?_)
                          first | (refine sv rfl (opv_as rfl) ?_) | (refine sv rfl (opv_ast rfl) ?_)
                          refine snil ?_
                          refine cret ?_
                          refine ⟨Or.inr rfl, _, _, _, (resVs_cons (ResV.tmp _ _ rfl) resVs_nil), (pubA_id rfl), ?_⟩
                          first | rfl | exact avb (cntM_seen b u k))
                    · replace hg11 := of_decide_eq_false hg11
                      first
                      | (exfalso; first | omega | contradiction | (rw [accept7 hs] at hg11; contradiction) | (rw [hsy, decide_eq_true rfl] at hg11; contradiction) | (rw [hs'] at hg11; contradiction))
                      | (
                          refine soff rfl rfl rfl rfl ?_
                          refine soff rfl rfl rfl rfl ?_
                          refine soff rfl rfl rfl rfl ?_
                          refine soff rfl rfl rfl rfl ?_
                          refine soff rfl rfl rfl rfl ?_
                          refine soff rfl rfl rfl rfl ?_
                          first | (refine sv rfl (opv_pick_t rfl rfl) ?_) | (refine sv rfl (opv_pick_f rfl rfl) ?_)
                          first | (refine sv rfl (opv_as rfl) ?_) | (refine sv rfl (opv_ast rfl) ?_)
                          refine snil ?_
                          refine cret ?_
                          refine ⟨Or.inr rfl, _, _, _, (resVs_cons (ResV.tmp _ _ rfl) resVs_nil), (pubA_id rfl), ?_⟩
                          first | rfl | exact avb (cntM_seen b u k)))
              · first
                | (exfalso; first | omega | contradiction | (rw [accept7 hs] at hg10; contradiction) | (rw [hsy, decide_eq_true rfl] at hg10; contradiction) | (rw [hs'] at hg10; contradiction))
                | (
                    refine soff rfl rfl rfl rfl ?_
                    refine soff rfl rfl rfl rfl ?_
                    first | (refine sv rfl (opv_pick_t rfl rfl) ?_) | (refine sv rfl (opv_pick_f rfl rfl) ?_)
                    first | (refine sv rfl (opv_mv rfl) ?_) | (refine sv rfl (opv_mvt rfl) ?_)
                    refine soff rfl rfl rfl rfl ?_
                    refine soff rfl rfl rfl rfl ?_
                    refine soff rfl rfl rfl rfl ?_
                    refine soff rfl rfl rfl rfl ?_
                    refine soff rfl rfl rfl rfl ?_
                    refine soff rfl rfl rfl rfl ?_
                    first | (refine sv rfl (opv_pick_t rfl rfl) ?_) | (refine sv rfl (opv_pick_f rfl rfl) ?_)
                    first | (refine sv rfl (opv_as rfl) ?_) | (refine sv rfl (opv_ast rfl) ?_)
                    refine snil ?_
                    refine cret ?_
                    refine ⟨Or.inr rfl, _, _, _, (resVs_cons (ResV.tmp _ _ rfl) resVs_nil), (pubA_id rfl), ?_⟩
                    first | rfl | exact avb (cntM_seen b u k))))

end Go.Proofs.Ytaffjoloefhodaa.Abs
