/-
  The document answers, more
-/
import Derived.Test.YtaffjoloefhodaaQ10
namespace Go.Proofs.Ytaffjoloefhodaa.Abs
open Go.RowKit Go.Proofs
set_option maxRecDepth 100000

theorem fn14 : FnI Try.prog 14 := ⟨⟨_, Try.func14, by kernel_rfl, by kernel_rfl⟩⟩

theorem refseen_c {b : Int} {u : BitVec 64} {s : Int} (hb : -9223372036854775808 ≤ b ∧ b ≤ 9223372036854775807) : CallsA Try.prog 16 [wsv b u, .one (.i .i64 s)] (· = .s (.one (.b (seenM b u s)))) := by
  refine callsA_of Try.func16 rfl (nt := 36) rfl (Nat.le_of_ble_eq_true rfl) ?_
  intro w0 S0
  refine cseq ?_
  refine cregion ?_
  refine sbox rfl rfl ?_
  first | (refine sv rfl (opv_as rfl) ?_) | (refine sv rfl (opv_ast rfl) ?_)
  refine snil ?_
  refine cseq ?_
  refine cseq ?_
  refine cregion ?_
  first | (refine sv rfl (opv_loadN ti24 rfl (.lp _ _ _ rfl) (Nat.le_of_ble_eq_true rfl)) ?_) | (refine sv rfl (opv_loadN ti24 rfl (.cp _) (Nat.le_of_ble_eq_true rfl)) ?_)
  refine scall1 rfl fn14 (opnds_cons rfl opnds_nil) (pubA_id rfl) (refsane_c (by omega)) ?_
  refine sv rfl (opv_not rfl) ?_
  first | (refine sv rfl (opv_mv rfl) ?_) | (refine sv rfl (opv_mvt rfl) ?_)
  refine ssplit 8 rfl (fun hg1 => ?_) (fun hg1 => ?_)
  · replace hg1 := bnot_t hg1
    try rw [saneM_iff] at hg1
    first
    | (exfalso; first | omega | contradiction)
    | (
        refine soff rfl rfl rfl rfl ?_
        refine soff rfl rfl rfl rfl ?_
        first | (refine sv rfl (opv_pick_t rfl rfl) ?_) | (refine sv rfl (opv_pick_f rfl rfl) ?_)
        first | (refine sv rfl (opv_mv rfl) ?_) | (refine sv rfl (opv_mvt rfl) ?_)
        refine soff rfl rfl rfl rfl ?_
        refine soff rfl rfl rfl rfl ?_
        first | (refine sv rfl (opv_pick_t rfl rfl) ?_) | (refine sv rfl (opv_pick_f rfl rfl) ?_)
        refine snil ?_
        refine ccond rfl (fun _ => ?_) (fun hx => Bool.noConfusion hx)
        refine cseq ?_
        refine cregion ?_
        first | (refine sv rfl (opv_as rfl) ?_) | (refine sv rfl (opv_ast rfl) ?_)
        refine snil ?_
        refine cret ?_
        refine then_ret ?_
        refine ⟨Or.inr rfl, _, _, _, (resVs_cons (ResV.tmp _ _ rfl) resVs_nil), (pubA_id rfl), ?_⟩
        refine avb ?_
        first | exact (seen_no1 (by assumption)).symm | exact (seen_no2 (by omega)).symm | exact (seen_lt ((saneM_iff b u).2 (by assumption)) ⟨by omega, by omega⟩ (by assumption)).symm | exact (seen_bit ((saneM_iff b u).2 (by assumption)) ⟨by omega, by omega⟩ (by assumption) (by omega)).symm | exact (seen_far ((saneM_iff b u).2 (by assumption)) ⟨by omega, by omega⟩ (by assumption) (by omega)).symm)
  · replace hg1 := bnot_f hg1
    try rw [saneM_iff] at hg1
    first
    | (exfalso; first | omega | contradiction)
    | (
        refine son rfl rfl rfl ?_
        first | (refine sv rfl (opv_mv rfl) ?_) | (refine sv rfl (opv_mvt rfl) ?_)
        refine son rfl rfl rfl ?_
        refine sv rfl (opv_lss rfl rfl) ?_
        first | (refine sv rfl (opv_pick_t rfl rfl) ?_) | (refine sv rfl (opv_pick_f rfl rfl) ?_)
        first | (refine sv rfl (opv_mv rfl) ?_) | (refine sv rfl (opv_mvt rfl) ?_)
        refine ssplit 12 rfl (fun hg2 => ?_) (fun hg2 => ?_)
        · replace hg2 := of_decide_eq_true hg2
          try rw [saneM_iff] at hg2
          first
          | (exfalso; first | omega | contradiction)
          | (
              refine soff rfl rfl rfl rfl ?_
              refine soff rfl rfl rfl rfl ?_
              first | (refine sv rfl (opv_pick_t rfl rfl) ?_) | (refine sv rfl (opv_pick_f rfl rfl) ?_)
              refine snil ?_
              refine ccond rfl (fun _ => ?_) (fun hx => Bool.noConfusion hx)
              refine cseq ?_
              refine cregion ?_
              first | (refine sv rfl (opv_as rfl) ?_) | (refine sv rfl (opv_ast rfl) ?_)
              refine snil ?_
              refine cret ?_
              refine then_ret ?_
              refine ⟨Or.inr rfl, _, _, _, (resVs_cons (ResV.tmp _ _ rfl) resVs_nil), (pubA_id rfl), ?_⟩
              refine avb ?_
              first | exact (seen_no1 (by assumption)).symm | exact (seen_no2 (by omega)).symm | exact (seen_lt ((saneM_iff b u).2 (by assumption)) ⟨by omega, by omega⟩ (by assumption)).symm | exact (seen_bit ((saneM_iff b u).2 (by assumption)) ⟨by omega, by omega⟩ (by assumption) (by omega)).symm | exact (seen_far ((saneM_iff b u).2 (by assumption)) ⟨by omega, by omega⟩ (by assumption) (by omega)).symm)
        · replace hg2 := of_decide_eq_false hg2
          try rw [saneM_iff] at hg2
          first
          | (exfalso; first | omega | contradiction)
          | (
              refine son rfl rfl rfl ?_
              first | (refine sv rfl (opv_mv rfl) ?_) | (refine sv rfl (opv_mvt rfl) ?_)
              refine son rfl rfl rfl ?_
              refine sv rfl (opv_geq rfl rfl) ?_
              first | (refine sv rfl (opv_pick_t rfl rfl) ?_) | (refine sv rfl (opv_pick_f rfl rfl) ?_)
              refine snil ?_
              refine ccond rfl (fun hc3 => ?_) (fun hc3 => ?_)
              · replace hc3 := of_decide_eq_true hc3
                first
                | (exfalso; first | omega | contradiction)
                | (
                    refine cseq ?_
                    refine cregion ?_
                    first | (refine sv rfl (opv_as rfl) ?_) | (refine sv rfl (opv_ast rfl) ?_)
                    refine snil ?_
                    refine cret ?_
                    refine then_ret ?_
                    refine ⟨Or.inr rfl, _, _, _, (resVs_cons (ResV.tmp _ _ rfl) resVs_nil), (pubA_id rfl), ?_⟩
                    refine avb ?_
                    first | exact (seen_no1 (by assumption)).symm | exact (seen_no2 (by omega)).symm | exact (seen_lt ((saneM_iff b u).2 (by assumption)) ⟨by omega, by omega⟩ (by assumption)).symm | exact (seen_bit ((saneM_iff b u).2 (by assumption)) ⟨by omega, by omega⟩ (by assumption) (by omega)).symm | exact (seen_far ((saneM_iff b u).2 (by assumption)) ⟨by omega, by omega⟩ (by assumption) (by omega)).symm)
              · replace hc3 := of_decide_eq_false hc3
                first
                | (exfalso; first | omega | contradiction)
                | (
                    refine cskip ?_
                    refine then_normal ?_
                    refine cseq ?_
                    refine cregion ?_
                    first | (refine sv rfl (opv_mv rfl) ?_) | (refine sv rfl (opv_mvt rfl) ?_)
                    first | (refine sv rfl (opv_fieldAddr_lp fi24_0 rfl) ?_) | (refine sv rfl (opv_fieldAddr_cp fi24_0 rfl) ?_) | (refine sv rfl (opv_fieldAddr_ap fi24_0 rfl rfl (by first | rfl | omega)) ?_)
                    first | (refine sv rfl (opv_load1 ti3 rfl (.lp _ _ _ rfl) rfl) ?_) | (refine sv rfl (opv_load1 ti3 rfl (.cp _) rfl) ?_) | (refine sv rfl (opv_load1 ti3 rfl (.ap _ _ _ _ _ _ _ rfl (by first | rfl | omega)) rfl) ?_)
                    refine sv rfl (opv_lss rfl rfl) ?_
                    first | (refine sv rfl (opv_mv rfl) ?_) | (refine sv rfl (opv_mvt rfl) ?_)
                    refine ssplit 20 rfl (fun hg4 => ?_) (fun hg4 => ?_)
                    · replace hg4 := of_decide_eq_true hg4
                      first
                      | (exfalso; first | omega | contradiction)
                      | (
                          refine soff rfl rfl rfl rfl ?_
                          refine soff rfl rfl rfl rfl ?_
                          refine soff rfl rfl rfl rfl ?_
                          refine soff rfl rfl rfl rfl ?_
                          refine soff rfl rfl rfl rfl ?_
                          refine soff rfl rfl rfl rfl ?_
                          refine soffu rfl rfl rfl ?_
                          refine soffu rfl rfl rfl ?_
                          refine soffu rfl rfl rfl ?_
                          refine soffu rfl rfl rfl ?_
                          refine soffu rfl rfl rfl ?_
                          refine soffu rfl rfl rfl ?_
                          refine soffu rfl rfl rfl ?_
                          refine soff rfl rfl rfl rfl ?_
                          first | (refine sv rfl (opv_pick_t rfl rfl) ?_) | (refine sv rfl (opv_pick_f rfl rfl) ?_)
                          first | (refine sv rfl (opv_as rfl) ?_) | (refine sv rfl (opv_ast rfl) ?_)
                          refine snil ?_
                          refine cret ?_
                          refine ⟨Or.inr rfl, _, _, _, (resVs_cons (ResV.tmp _ _ rfl) resVs_nil), (pubA_id rfl), ?_⟩
                          refine avb ?_
                          first | exact (seen_no1 (by assumption)).symm | exact (seen_no2 (by omega)).symm | exact (seen_lt ((saneM_iff b u).2 (by assumption)) ⟨by omega, by omega⟩ (by assumption)).symm | exact (seen_bit ((saneM_iff b u).2 (by assumption)) ⟨by omega, by omega⟩ (by assumption) (by omega)).symm | exact (seen_far ((saneM_iff b u).2 (by assumption)) ⟨by omega, by omega⟩ (by assumption) (by omega)).symm)
                    · replace hg4 := of_decide_eq_false hg4
                      first
                      | (exfalso; first | omega | contradiction)
                      | (
                          refine son rfl rfl rfl ?_
                          first | (refine sv rfl (opv_mv rfl) ?_) | (refine sv rfl (opv_mvt rfl) ?_)
                          refine son rfl rfl rfl ?_
                          first | (refine sv rfl (opv_fieldAddr_lp fi24_0 rfl) ?_) | (refine sv rfl (opv_fieldAddr_cp fi24_0 rfl) ?_) | (refine sv rfl (opv_fieldAddr_ap fi24_0 rfl rfl (by first | rfl | omega)) ?_)
                          refine son rfl rfl rfl ?_
                          first | (refine sv rfl (opv_load1 ti3 rfl (.lp _ _ _ rfl) rfl) ?_) | (refine sv rfl (opv_load1 ti3 rfl (.cp _) rfl) ?_) | (refine sv rfl (opv_load1 ti3 rfl (.ap _ _ _ _ _ _ _ rfl (by first | rfl | omega)) rfl) ?_)
                          refine son rfl rfl rfl ?_
                          refine sv rfl (opv_add_ok rfl rfl (wrap_i64 (by omega) (by omega))) ?_
                          refine son rfl rfl rfl ?_
                          refine sv rfl (opv_lss rfl rfl) ?_
                          refine son rfl rfl rfl ?_
                          first | (refine sv rfl (opv_mv rfl) ?_) | (refine sv rfl (opv_mvt rfl) ?_)
                          refine ssplit 26 rfl (fun hg5 => ?_) (fun hg5 => ?_)
                          · replace hg5 := of_decide_eq_true hg5
                            first
                            | (exfalso; first | omega | contradiction)
                            | (
                                refine son rfl rfl rfl ?_
                                first | (refine sv rfl (opv_fieldAddr_lp fi24_1 rfl) ?_) | (refine sv rfl (opv_fieldAddr_cp fi24_1 rfl) ?_) | (refine sv rfl (opv_fieldAddr_ap fi24_1 rfl rfl (by first | rfl | omega)) ?_)
                                refine son rfl rfl rfl ?_
                                first | (refine sv rfl (opv_load1 ti22 rfl (.lp _ _ _ rfl) rfl) ?_) | (refine sv rfl (opv_load1 ti22 rfl (.cp _) rfl) ?_) | (refine sv rfl (opv_load1 ti22 rfl (.ap _ _ _ _ _ _ _ rfl (by first | rfl | omega)) rfl) ?_)
                                refine son rfl rfl rfl ?_
                                first | (refine sv rfl (opv_mv rfl) ?_) | (refine sv rfl (opv_mvt rfl) ?_)
                                refine son rfl rfl rfl ?_
                                first | (refine sv rfl (opv_fieldAddr_lp fi24_0 rfl) ?_) | (refine sv rfl (opv_fieldAddr_cp fi24_0 rfl) ?_) | (refine sv rfl (opv_fieldAddr_ap fi24_0 rfl rfl (by first | rfl | omega)) ?_)
                                refine son rfl rfl rfl ?_
                                first | (refine sv rfl (opv_load1 ti3 rfl (.lp _ _ _ rfl) rfl) ?_) | (refine sv rfl (opv_load1 ti3 rfl (.cp _) rfl) ?_) | (refine sv rfl (opv_load1 ti3 rfl (.ap _ _ _ _ _ _ _ rfl (by first | rfl | omega)) rfl) ?_)
                                refine son rfl rfl rfl ?_
                                refine sv rfl (opv_sub_ok rfl rfl (wrap_i64 (by omega) (by omega))) ?_
                                refine son rfl rfl rfl ?_
                                refine scall1 rfl fn25 (opnds_cons rfl (opnds_cons rfl opnds_nil)) (pubA_id rfl) (refdigit_c (by omega)) ?_
                                refine son rfl rfl rfl ?_
                                first | (refine sv rfl (opv_pick_t rfl rfl) ?_) | (refine sv rfl (opv_pick_f rfl rfl) ?_)
                                first | (refine sv rfl (opv_pick_t rfl rfl) ?_) | (refine sv rfl (opv_pick_f rfl rfl) ?_)
                                first | (refine sv rfl (opv_as rfl) ?_) | (refine sv rfl (opv_ast rfl) ?_)
                                refine snil ?_
                                refine cret ?_
                                refine ⟨Or.inr rfl, _, _, _, (resVs_cons (ResV.tmp _ _ rfl) resVs_nil), (pubA_id rfl), ?_⟩
                                refine avb ?_
                                first | exact (seen_no1 (by assumption)).symm | exact (seen_no2 (by omega)).symm | exact (seen_lt ((saneM_iff b u).2 (by assumption)) ⟨by omega, by omega⟩ (by assumption)).symm | exact (seen_bit ((saneM_iff b u).2 (by assumption)) ⟨by omega, by omega⟩ (by assumption) (by omega)).symm | exact (seen_far ((saneM_iff b u).2 (by assumption)) ⟨by omega, by omega⟩ (by assumption) (by omega)).symm)
                          · replace hg5 := of_decide_eq_false hg5
                            first
                            | (exfalso; first | omega | contradiction)
                            | (
                                refine soff rfl rfl rfl rfl ?_
                                refine soff rfl rfl rfl rfl ?_
                                refine soff rfl rfl rfl rfl ?_
                                refine soff rfl rfl rfl rfl ?_
                                refine soff rfl rfl rfl rfl ?_
                                refine soff rfl rfl rfl rfl ?_
                                refine soff rfl rfl rfl rfl ?_
                                refine son rfl rfl rfl ?_
                                first | (refine sv rfl (opv_pick_t rfl rfl) ?_) | (refine sv rfl (opv_pick_f rfl rfl) ?_)
                                first | (refine sv rfl (opv_pick_t rfl rfl) ?_) | (refine sv rfl (opv_pick_f rfl rfl) ?_)
                                first | (refine sv rfl (opv_as rfl) ?_) | (refine sv rfl (opv_ast rfl) ?_)
                                refine snil ?_
                                refine cret ?_
                                refine ⟨Or.inr rfl, _, _, _, (resVs_cons (ResV.tmp _ _ rfl) resVs_nil), (pubA_id rfl), ?_⟩
                                refine avb ?_
                                first | exact (seen_no1 (by assumption)).symm | exact (seen_no2 (by omega)).symm | exact (seen_lt ((saneM_iff b u).2 (by assumption)) ⟨by omega, by omega⟩ (by assumption)).symm | exact (seen_bit ((saneM_iff b u).2 (by assumption)) ⟨by omega, by omega⟩ (by assumption) (by omega)).symm | exact (seen_far ((saneM_iff b u).2 (by assumption)) ⟨by omega, by omega⟩ (by assumption) (by omega)).symm)))))

theorem reffull_c {b : Int} {u : BitVec 64} (hb : -9223372036854775808 ≤ b ∧ b ≤ 9223372036854775807) : CallsA Try.prog 21 [wsv b u] (· = .s (.one (.b (fullM b u)))) := by
  refine callsA_of Try.func21 rfl (nt := 10) rfl (Nat.le_of_ble_eq_true rfl) ?_
  intro w0 S0
  refine cseq ?_
  refine cregion ?_
  refine sbox rfl rfl ?_
  first | (refine sv rfl (opv_as rfl) ?_) | (refine sv rfl (opv_ast rfl) ?_)
  refine snil ?_
  refine cseq ?_
  refine cregion ?_
  first | (refine sv rfl (opv_loadN ti24 rfl (.lp _ _ _ rfl) (Nat.le_of_ble_eq_true rfl)) ?_) | (refine sv rfl (opv_loadN ti24 rfl (.cp _) (Nat.le_of_ble_eq_true rfl)) ?_)
  refine scall1 rfl fn14 (opnds_cons rfl opnds_nil) (pubA_id rfl) (refsane_c (by omega)) ?_
  first | (refine sv rfl (opv_mv rfl) ?_) | (refine sv rfl (opv_mvt rfl) ?_)
  refine ssplit 5 rfl (fun hg1 => ?_) (fun hg1 => ?_)
  · first
    | (exfalso; first | omega | contradiction)
    | (
        refine son rfl rfl rfl ?_
        first | (refine sv rfl (opv_fieldAddr_lp fi24_0 rfl) ?_) | (refine sv rfl (opv_fieldAddr_cp fi24_0 rfl) ?_) | (refine sv rfl (opv_fieldAddr_ap fi24_0 rfl rfl (by first | rfl | omega)) ?_)
        refine son rfl rfl rfl ?_
        first | (refine sv rfl (opv_load1 ti3 rfl (.lp _ _ _ rfl) rfl) ?_) | (refine sv rfl (opv_load1 ti3 rfl (.cp _) rfl) ?_) | (refine sv rfl (opv_load1 ti3 rfl (.ap _ _ _ _ _ _ _ rfl (by first | rfl | omega)) rfl) ?_)
        refine son rfl rfl rfl ?_
        refine sv rfl (opv_ieql rfl rfl) ?_
        first | (refine sv rfl (opv_pick_t rfl rfl) ?_) | (refine sv rfl (opv_pick_f rfl rfl) ?_)
        first | (refine sv rfl (opv_as rfl) ?_) | (refine sv rfl (opv_ast rfl) ?_)
        refine snil ?_
        refine cret ?_
        refine ⟨Or.inr rfl, _, _, _, (resVs_cons (ResV.tmp _ _ rfl) resVs_nil), (pubA_id rfl), ?_⟩
        refine avb ?_
        first | exact (full_no (by assumption)).symm | exact (full_eq (by assumption)).symm)
  · first
    | (exfalso; first | omega | contradiction)
    | (
        refine soff rfl rfl rfl rfl ?_
        refine soff rfl rfl rfl rfl ?_
        refine soff rfl rfl rfl rfl ?_
        first | (refine sv rfl (opv_pick_t rfl rfl) ?_) | (refine sv rfl (opv_pick_f rfl rfl) ?_)
        first | (refine sv rfl (opv_as rfl) ?_) | (refine sv rfl (opv_ast rfl) ?_)
        refine snil ?_
        refine cret ?_
        refine ⟨Or.inr rfl, _, _, _, (resVs_cons (ResV.tmp _ _ rfl) resVs_nil), (pubA_id rfl), ?_⟩
        refine avb ?_
        first | exact (full_no (by assumption)).symm | exact (full_eq (by assumption)).symm)

theorem refmissing_c {b : Int} {u : BitVec 64} {most : Int} (hb : -9223372036854775808 ≤ b ∧ b ≤ 9223372036854775807) : CallsA Try.prog 19 [wsv b u, .one (.i .i64 most)] (· = .s (.one (.sl (missM b u most).length (il (missM b u most))))) := by
  refine callsA_of Try.func19 rfl (nt := 41) rfl (Nat.le_of_ble_eq_true rfl) ?_
  intro w0 S0
  refine cseq ?_
  refine cregion ?_
  refine sbox rfl rfl ?_
  first | (refine sv rfl (opv_as rfl) ?_) | (refine sv rfl (opv_ast rfl) ?_)
  refine snil ?_
  refine cseq ?_
  refine cregion ?_
  first | (refine sv rfl (opv_as rfl) ?_) | (refine sv rfl (opv_ast rfl) ?_)
  refine snil ?_
  refine cseq ?_
  refine cseq ?_
  refine cregion ?_
  first | (refine sv rfl (opv_as rfl) ?_) | (refine sv rfl (opv_ast rfl) ?_)
  refine snil ?_
  refine cblock ?_
  refine sadopt_c 3 1 5 (by decide) rfl ?_
  refine awc_loop (G := Nat) (fun i => [(1, .s (.one (.i .i64 most))), (2, .s (.one (.lp 0 0))), (5, .s (.one (.ls 1 ((unseenM b u i).take most.toNat).length))), (6, .s (.one (.i .i64 (i : Int))))]) (fun i => [.box (wsv b u).cells, .arr 3 1 0 (il ((unseenM b u i).take most.toNat))]) (fun i => i ≤ 64 ∧ (0 < i → saneM b u = true)) (fun i => 64 - i) 0 ⟨Nat.zero_le _, fun h => absurd h (Nat.lt_irrefl _)⟩ ⟨rfl, rfl, (by rw [show (unseenM b u 0).take most.toNat = [] from List.take_nil]; rfl), rfl, trivial⟩ [] (by rw [show (unseenM b u 0).take most.toNat = [] from List.take_nil]; rfl) (fun _ _ => ⟨rfl, rfl, rfl, rfl, trivial⟩) (fun _ _ => blk_inb rfl) ?_
  intro i hp
  have hul := unseen_len b u i
  have htl : ((unseenM b u i).take most.toNat).length ≤ (unseenM b u i).length := by rw [List.length_take]; omega
  have hil : (il ((unseenM b u i).take most.toNat)).length = ((unseenM b u i).take most.toNat).length := List.length_map ..
  refine cseq ?_
  refine cseq ?_
  refine cregion ?_
  first | (refine sv rfl (opv_mv rfl) ?_) | (refine sv rfl (opv_mvt rfl) ?_)
  refine sv rfl (opv_lss rfl rfl) ?_
  first | (refine sv rfl (opv_mv rfl) ?_) | (refine sv rfl (opv_mvt rfl) ?_)
  refine ssplit 9 rfl (fun hg1 => ?_) (fun hg1 => ?_)
  · replace hg1 := of_decide_eq_true hg1
    first
    | (exfalso; first | omega | contradiction)
    | (
        refine son rfl rfl rfl ?_
        first | (refine sv rfl (opv_loadN ti24 rfl (.lp _ _ _ rfl) (Nat.le_of_ble_eq_true rfl)) ?_) | (refine sv rfl (opv_loadN ti24 rfl (.cp _) (Nat.le_of_ble_eq_true rfl)) ?_)
        refine son rfl rfl rfl ?_
        refine scall1 rfl fn14 (opnds_cons rfl opnds_nil) (pubA_id rfl) (refsane_c (by omega)) ?_
        first | (refine sv rfl (opv_pick_t rfl rfl) ?_) | (refine sv rfl (opv_pick_f rfl rfl) ?_)
        refine snil ?_
        refine ccond rfl (fun hc2 => ?_) (fun hc2 => ?_)
        · have hsb := (saneM_iff b u).1 hc2
          first
          | (exfalso; first | omega | contradiction)
          | (
              refine cskip ?_
              refine then_normal ?_
              refine cseq ?_
              refine cblock ?_
              refine cseq ?_
              refine cregion ?_
              first | (refine sv rfl (opv_mv rfl) ?_) | (refine sv rfl (opv_mvt rfl) ?_)
              first | (refine sv rfl (opv_len_sl si39 rfl) ?_) | (refine sv rfl (opv_len_nil si39 rfl) ?_) | (refine sv rfl (opv_len_ls si39 rfl rfl (by first | rfl | first | omega | (simp; done) | (simp; omega))) ?_)
              first | (refine sv rfl (opv_mv rfl) ?_) | (refine sv rfl (opv_mvt rfl) ?_)
              refine sv rfl (opv_lss rfl rfl) ?_
              first | (refine sv rfl (opv_mv rfl) ?_) | (refine sv rfl (opv_mvt rfl) ?_)
              refine ssplit 19 rfl (fun hg3 => ?_) (fun hg3 => ?_)
              · replace hg3 := of_decide_eq_true hg3
                first
                | (exfalso; first | omega | contradiction)
                | (
                    refine son rfl rfl rfl ?_
                    first | (refine sv rfl (opv_fieldAddr_lp fi24_0 rfl) ?_) | (refine sv rfl (opv_fieldAddr_cp fi24_0 rfl) ?_) | (refine sv rfl (opv_fieldAddr_ap fi24_0 rfl rfl (by first | rfl | first | omega | (simp; done) | (simp; omega))) ?_)
                    refine son rfl rfl rfl ?_
                    first | (refine sv rfl (opv_load1 ti3 rfl (.lp _ _ _ rfl) rfl) ?_) | (refine sv rfl (opv_load1 ti3 rfl (.cp _) rfl) ?_) | (refine sv rfl (opv_load1 ti3 rfl (.ap _ _ _ _ _ _ _ rfl (by first | rfl | first | omega | (simp; done) | (simp; omega))) rfl) ?_)
                    refine son rfl rfl rfl ?_
                    first | (refine sv rfl (opv_mv rfl) ?_) | (refine sv rfl (opv_mvt rfl) ?_)
                    refine son rfl rfl rfl ?_
                    refine sv rfl (opv_add_ok rfl rfl (wrap_i64 (by first | omega | (simp; done) | (simp; omega)) (by first | omega | (simp; done) | (simp; omega)))) ?_
                    refine son rfl rfl rfl ?_
                    refine sv rfl (opv_lss rfl rfl) ?_
                    first | (refine sv rfl (opv_pick_t rfl rfl) ?_) | (refine sv rfl (opv_pick_f rfl rfl) ?_)
                    first | (refine sv rfl (opv_mv rfl) ?_) | (refine sv rfl (opv_mvt rfl) ?_)
                    refine ssplit 26 rfl (fun hg4 => ?_) (fun hg4 => ?_)
                    · replace hg4 := of_decide_eq_true hg4
                      first
                      | (exfalso; first | omega | contradiction)
                      | (
                          refine son rfl rfl rfl ?_
                          first | (refine sv rfl (opv_fieldAddr_lp fi24_1 rfl) ?_) | (refine sv rfl (opv_fieldAddr_cp fi24_1 rfl) ?_) | (refine sv rfl (opv_fieldAddr_ap fi24_1 rfl rfl (by first | rfl | first | omega | (simp; done) | (simp; omega))) ?_)
                          refine son rfl rfl rfl ?_
                          first | (refine sv rfl (opv_load1 ti22 rfl (.lp _ _ _ rfl) rfl) ?_) | (refine sv rfl (opv_load1 ti22 rfl (.cp _) rfl) ?_) | (refine sv rfl (opv_load1 ti22 rfl (.ap _ _ _ _ _ _ _ rfl (by first | rfl | first | omega | (simp; done) | (simp; omega))) rfl) ?_)
                          refine son rfl rfl rfl ?_
                          first | (refine sv rfl (opv_mv rfl) ?_) | (refine sv rfl (opv_mvt rfl) ?_)
                          refine son rfl rfl rfl ?_
                          refine scall1 rfl fn25 (opnds_cons rfl (opnds_cons rfl opnds_nil)) (pubA_id rfl) (refdigit_c (by omega)) ?_
                          refine son rfl rfl rfl ?_
                          refine sv rfl (opv_not rfl) ?_
                          first | (refine sv rfl (opv_pick_t rfl rfl) ?_) | (refine sv rfl (opv_pick_f rfl rfl) ?_)
                          refine snil ?_
                          refine ccond rfl (fun hc5 => ?_) (fun hc5 => ?_)
                          · replace hc5 := bnot_t hc5
                            have hnx := take_one (b := b) (u := u) (m := most.toNat) (k := i) (by omega) ⟨by omega, hc5⟩
                            first
                            | (exfalso; first | omega | contradiction)
                            | (
                                refine cregion ?_
                                first | (refine sv rfl (opv_mv rfl) ?_) | (refine sv rfl (opv_mvt rfl) ?_)
                                first | (refine sv rfl (opv_fieldAddr_lp fi24_0 rfl) ?_) | (refine sv rfl (opv_fieldAddr_cp fi24_0 rfl) ?_) | (refine sv rfl (opv_fieldAddr_ap fi24_0 rfl rfl (by first | rfl | first | omega | (simp; done) | (simp; omega))) ?_)
                                first | (refine sv rfl (opv_load1 ti3 rfl (.lp _ _ _ rfl) rfl) ?_) | (refine sv rfl (opv_load1 ti3 rfl (.cp _) rfl) ?_) | (refine sv rfl (opv_load1 ti3 rfl (.ap _ _ _ _ _ _ _ rfl (by first | rfl | first | omega | (simp; done) | (simp; omega))) rfl) ?_)
                                first | (refine sv rfl (opv_mv rfl) ?_) | (refine sv rfl (opv_mvt rfl) ?_)
                                refine sv rfl (opv_add_ok rfl rfl (wrap_i64 (by first | omega | (simp; done) | (simp; omega)) (by first | omega | (simp; done) | (simp; omega)))) ?_
                                first | (refine spub 37 rfl (by (repeat' first | exact pubA_id rfl | exact PubA.nil _ | apply PubA.cons | apply PubV.one | apply PubV.agg | exact PubL.nil | exact PubL.id _ rfl | exact PubL.ls _ _ _ _ _ _ rfl (by first | rfl | first | omega | (simp; done) | (simp; omega)) | exact PubLs.all _ _ (List.all_eq_true.1 rfl) | apply PubLs.cons | exact PubLs.nil _)) ?_) | (skip)
                                refine sbuild1 rfl Try.underlying39 ei3 rfl rfl (List.all_eq_true.1 rfl) (by decide) ?_
                                first | (refine sadopt 3 1 33 (by decide) rfl ?_) | (skip)
                                refine sappend rfl Try.underlying39 ei3 ni39 rfl rfl (by (repeat' first | exact pubA_id rfl | exact PubA.nil _ | apply PubA.cons | apply PubV.one | apply PubV.agg | exact PubL.nil | exact PubL.id _ rfl | exact PubL.ls _ _ _ _ _ _ rfl (by first | rfl | first | omega | (simp; done) | (simp; omega)) | exact PubLs.all _ _ (List.all_eq_true.1 rfl) | apply PubLs.cons | exact PubLs.nil _)) rfl (by first | rfl | omega) (by first | exact .nil _ | exact .str _ | exact .sl _ _ _ (by first | rfl | omega)) (by first | omega | (simp only [maxLen]; omega)) (by first | omega | (simp only [maxLen]; omega)) ?_
                                first | (refine sv rfl (opv_as rfl) ?_) | (refine sv rfl (opv_ast rfl) ?_)
                                refine snil0 ?_
                                refine block_normal ?_
                                refine then_normal ?_
                                refine cregion ?_
                                first | (refine sv rfl (opv_mv rfl) ?_) | (refine sv rfl (opv_mvt rfl) ?_)
                                refine sv rfl (opv_add_ok rfl rfl (wrap_i64 (by first | omega | (simp; done) | (simp; omega)) (by first | omega | (simp; done) | (simp; omega)))) ?_
                                first | (refine sv rfl (opv_as rfl) ?_) | (refine sv rfl (opv_ast rfl) ?_)
                                refine snil ?_
                                first
                                  | exact ⟨i + 1, _, ⟨by omega, fun _ => by assumption⟩, ⟨rfl, rfl, (by rw [hnx, List.length_append]; rfl), rfl, trivial⟩, (by rw [hnx, il_app]; rfl), by omega⟩
                                  | exact ⟨i + 1, [], ⟨by omega, fun _ => by assumption⟩, ⟨rfl, rfl, (by rw [hnx]; rfl), rfl, trivial⟩, (by rw [hnx]; rfl), by omega⟩
                                 )
                          · replace hc5 := bnot_f hc5
                            have hnx := take_same (b := b) (u := u) (m := most.toNat) (k := i) (.inr (fun h => by rw [show (i : Int).toNat = i from rfl, h.2] at hc5; cases hc5))
                            first
                            | (exfalso; first | omega | contradiction)
                            | (
                                refine cskip ?_
                                refine block_normal ?_
                                refine then_normal ?_
                                refine cregion ?_
                                first | (refine sv rfl (opv_mv rfl) ?_) | (refine sv rfl (opv_mvt rfl) ?_)
                                refine sv rfl (opv_add_ok rfl rfl (wrap_i64 (by first | omega | (simp; done) | (simp; omega)) (by first | omega | (simp; done) | (simp; omega)))) ?_
                                first | (refine sv rfl (opv_as rfl) ?_) | (refine sv rfl (opv_ast rfl) ?_)
                                refine snil ?_
                                first
                                  | exact ⟨i + 1, _, ⟨by omega, fun _ => by assumption⟩, ⟨rfl, rfl, (by rw [hnx, List.length_append]; rfl), rfl, trivial⟩, (by rw [hnx, il_app]; rfl), by omega⟩
                                  | exact ⟨i + 1, [], ⟨by omega, fun _ => by assumption⟩, ⟨rfl, rfl, (by rw [hnx]; rfl), rfl, trivial⟩, (by rw [hnx]; rfl), by omega⟩
                                 ))
                    · replace hg4 := of_decide_eq_false hg4
                      have hnx := take_same (b := b) (u := u) (m := most.toNat) (k := i) (.inr (by omega))
                      first
                      | (exfalso; first | omega | contradiction)
                      | (
                          refine soff rfl rfl rfl rfl ?_
                          refine soff rfl rfl rfl rfl ?_
                          refine soff rfl rfl rfl rfl ?_
                          refine soff rfl rfl rfl rfl ?_
                          refine soff rfl rfl rfl rfl ?_
                          first | (refine sv rfl (opv_pick_t rfl rfl) ?_) | (refine sv rfl (opv_pick_f rfl rfl) ?_)
                          refine snil ?_
                          refine ccond rfl (fun hx => Bool.noConfusion hx) (fun _ => ?_)
                          refine cskip ?_
                          refine block_normal ?_
                          refine then_normal ?_
                          refine cregion ?_
                          first | (refine sv rfl (opv_mv rfl) ?_) | (refine sv rfl (opv_mvt rfl) ?_)
                          refine sv rfl (opv_add_ok rfl rfl (wrap_i64 (by first | omega | (simp; done) | (simp; omega)) (by first | omega | (simp; done) | (simp; omega)))) ?_
                          first | (refine sv rfl (opv_as rfl) ?_) | (refine sv rfl (opv_ast rfl) ?_)
                          refine snil ?_
                          first
                            | exact ⟨i + 1, _, ⟨by omega, fun _ => by assumption⟩, ⟨rfl, rfl, (by rw [hnx, List.length_append]; rfl), rfl, trivial⟩, (by rw [hnx, il_app]; rfl), by omega⟩
                            | exact ⟨i + 1, [], ⟨by omega, fun _ => by assumption⟩, ⟨rfl, rfl, (by rw [hnx]; rfl), rfl, trivial⟩, (by rw [hnx]; rfl), by omega⟩
                           ))
              · replace hg3 := of_decide_eq_false hg3
                have hnx := take_same (b := b) (u := u) (m := most.toNat) (k := i) (.inl (by omega))
                first
                | (exfalso; first | omega | contradiction)
                | (
                    refine soff rfl rfl rfl rfl ?_
                    refine soff rfl rfl rfl rfl ?_
                    refine soff rfl rfl rfl rfl ?_
                    refine soff rfl rfl rfl rfl ?_
                    refine soff rfl rfl rfl rfl ?_
                    first | (refine sv rfl (opv_pick_t rfl rfl) ?_) | (refine sv rfl (opv_pick_f rfl rfl) ?_)
                    first | (refine sv rfl (opv_mv rfl) ?_) | (refine sv rfl (opv_mvt rfl) ?_)
                    refine soff rfl rfl rfl rfl ?_
                    refine soff rfl rfl rfl rfl ?_
                    refine soff rfl rfl rfl rfl ?_
                    refine soff rfl rfl rfl rfl ?_
                    refine soff rfl rfl rfl rfl ?_
                    first | (refine sv rfl (opv_pick_t rfl rfl) ?_) | (refine sv rfl (opv_pick_f rfl rfl) ?_)
                    refine snil ?_
                    refine ccond rfl (fun hx => Bool.noConfusion hx) (fun _ => ?_)
                    refine cskip ?_
                    refine block_normal ?_
                    refine then_normal ?_
                    refine cregion ?_
                    first | (refine sv rfl (opv_mv rfl) ?_) | (refine sv rfl (opv_mvt rfl) ?_)
                    refine sv rfl (opv_add_ok rfl rfl (wrap_i64 (by first | omega | (simp; done) | (simp; omega)) (by first | omega | (simp; done) | (simp; omega)))) ?_
                    first | (refine sv rfl (opv_as rfl) ?_) | (refine sv rfl (opv_ast rfl) ?_)
                    refine snil ?_
                    first
                      | exact ⟨i + 1, _, ⟨by omega, fun _ => by assumption⟩, ⟨rfl, rfl, (by rw [hnx, List.length_append]; rfl), rfl, trivial⟩, (by rw [hnx, il_app]; rfl), by omega⟩
                      | exact ⟨i + 1, [], ⟨by omega, fun _ => by assumption⟩, ⟨rfl, rfl, (by rw [hnx]; rfl), rfl, trivial⟩, (by rw [hnx]; rfl), by omega⟩
                     ))
        · first
          | (exfalso; first | omega | contradiction)
          | (
              refine cexit ?_
              refine then_exit ?_
              refine then_exit ?_
              refine block_hit ?_
              refine then_normal ?_
              refine cseq ?_
              refine cregion ?_
              first | (refine sv rfl (opv_mv rfl) ?_) | (refine sv rfl (opv_mvt rfl) ?_)
              first | (refine sv rfl (opv_as rfl) ?_) | (refine sv rfl (opv_ast rfl) ?_)
              refine snil ?_
              refine cret ?_
              refine ⟨Or.inr rfl, _, _, _, (resVs_cons (ResV.tmp _ _ rfl) resVs_nil), (by (repeat' first | exact PubA.nil _ | apply PubA.cons | apply PubV.one | apply PubV.agg | exact PubL.nil | exact PubL.id _ rfl | exact PubL.ls _ _ _ _ _ _ rfl (by first | rfl | first | omega | (simp; done) | (simp; omega)) | exact PubLs.nil _ | apply PubLs.cons | exact PubLs.all _ _ (List.all_eq_true.1 rfl))), ?_⟩
              first | (rw [ref_end1 hp.2 (by assumption)]; rfl) | (rw [ref_end2 (by omega) hp.2]; rfl)))
  · replace hg1 := of_decide_eq_false hg1
    first
    | (exfalso; first | omega | contradiction)
    | (
        refine soff rfl rfl rfl rfl ?_
        refine soff rfl rfl rfl rfl ?_
        first | (refine sv rfl (opv_pick_t rfl rfl) ?_) | (refine sv rfl (opv_pick_f rfl rfl) ?_)
        refine snil ?_
        refine ccond rfl (fun hx => Bool.noConfusion hx) (fun _ => ?_)
        refine cexit ?_
        refine then_exit ?_
        refine then_exit ?_
        refine block_hit ?_
        refine then_normal ?_
        refine cseq ?_
        refine cregion ?_
        first | (refine sv rfl (opv_mv rfl) ?_) | (refine sv rfl (opv_mvt rfl) ?_)
        first | (refine sv rfl (opv_as rfl) ?_) | (refine sv rfl (opv_ast rfl) ?_)
        refine snil ?_
        refine cret ?_
        refine ⟨Or.inr rfl, _, _, _, (resVs_cons (ResV.tmp _ _ rfl) resVs_nil), (by (repeat' first | exact PubA.nil _ | apply PubA.cons | apply PubV.one | apply PubV.agg | exact PubL.nil | exact PubL.id _ rfl | exact PubL.ls _ _ _ _ _ _ rfl (by first | rfl | first | omega | (simp; done) | (simp; omega)) | exact PubLs.nil _ | apply PubLs.cons | exact PubLs.all _ _ (List.all_eq_true.1 rfl))), ?_⟩
        first | (rw [ref_end1 hp.2 (by assumption)]; rfl) | (rw [ref_end2 (by omega) hp.2]; rfl))

end Go.Proofs.Ytaffjoloefhodaa.Abs
