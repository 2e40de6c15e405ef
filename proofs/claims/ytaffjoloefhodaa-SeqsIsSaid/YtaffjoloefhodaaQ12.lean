/-
  Accept, as the document answers
-/
import Derived.Test.YtaffjoloefhodaaQ11
namespace Go.Proofs.Ytaffjoloefhodaa.Abs
open Go.RowKit Go.Proofs
set_option maxRecDepth 100000

theorem fn16 : FnI Try.prog 16 := ⟨⟨_, Try.func16, by kernel_rfl, by kernel_rfl⟩⟩

theorem refaccept_c {b : Int} {u : BitVec 64} {s : Int} (hb : -9223372036854775808 ≤ b ∧ b ≤ 9223372036854775807) : CallsA Try.prog 11 [wsv b u, .one (.i .i64 s)] (· = .tup [wsv (acceptM b u s).1.1 (acceptM b u s).1.2, .one (.i .i64 (acceptM b u s).2)]) := by
  refine callsA_of Try.func11 rfl (nt := 57) rfl (Nat.le_of_ble_eq_true rfl) ?_
  intro w0 S0
  refine cseq ?_
  refine cregion ?_
  refine sbox rfl rfl ?_
  refine salloc rfl zi24 ?_
  first | (refine sv rfl (opv_as rfl) ?_) | (refine sv rfl (opv_ast rfl) ?_)
  refine snil ?_
  refine cseq ?_
  refine cseq ?_
  refine cregion ?_
  first | (refine sv rfl (opv_loadN ti24 rfl (.lp _ _ _ rfl) (Nat.le_of_ble_eq_true rfl)) ?_) | (refine sv rfl (opv_loadN ti24 rfl (.cp _) (Nat.le_of_ble_eq_true rfl)) ?_)
  refine scall1 rfl fn14 (opnds_cons rfl opnds_nil) (pubA_id rfl) (refsane_c (by omega)) ?_
  refine sv rfl (opv_not rfl) ?_
  first | (refine sv rfl (opv_mv rfl) ?_) | (refine sv rfl (opv_mvt rfl) ?_)
  refine ssplit 11 rfl (fun hg1 => ?_) (fun hg1 => ?_)
  · replace hg1 := bnot_t hg1
    first
    | (exfalso; first | omega | contradiction)
    | (
        refine soff rfl rfl rfl rfl ?_
        refine soff rfl rfl rfl rfl ?_
        first | (refine sv rfl (opv_pick_t rfl rfl) ?_) | (refine sv rfl (opv_pick_f rfl rfl) ?_)
        first | (refine sv rfl (opv_mv rfl) ?_) | (refine sv rfl (opv_mvt rfl) ?_)
        refine soff rfl rfl rfl rfl ?_
        refine soff rfl rfl rfl rfl ?_
        first | (refine sv rfl (opv_pick_t rfl rfl) ?_) | (refine sv rfl (opv_pick_f rfl rfl) ?_)
        refine snil ?_
        refine ccond rfl (fun _ => ?_) (fun hx => Bool.noConfusion hx)
        refine cseq ?_
        refine cregion ?_
        refine sv rfl (opv_build zi24 pi24 parts_nil (.nil _)) ?_
        first | (refine sstore sz24 rfl rfl rfl rfl (Nat.le_of_ble_eq_true rfl) ?_) | (refine sstore_ap sz24 rfl rfl rfl (by first | rfl | omega) rfl (List.all_eq_true.1 rfl) (by omega) (by omega) ?_)
        first | (refine sv rfl (opv_as rfl) ?_) | (refine sv rfl (opv_ast rfl) ?_)
        refine snil ?_
        refine cret ?_
        refine then_ret ?_
        refine ⟨Or.inr rfl, _, _, _, (resVs_cons (ResV.agg _ _ _ _ _ ti24 rfl (.lp _ _ _ rfl) (Nat.le_of_ble_eq_true rfl)) (resVs_cons (ResV.tmp _ _ rfl) resVs_nil)), (pubA_id rfl), ?_⟩
        first | (rw [accept_arg (.inl hg1)]; rfl) | (rw [accept_arg (.inr (sane_seq_no (by omega)))]; rfl) | (rw [accept_seen hss hsq (by assumption)]; rfl) | (rw [accept_far hss hsq (by assumption) (by omega)]; rfl) | (rw [accept_ok hss hsq (by assumption) (by omega), show (b + (n : Int) - b).toNat = n by omega, hu1, tone_of hp.2 hb0]; rfl))
  · replace hg1 := bnot_f hg1
    first
    | (exfalso; first | omega | contradiction)
    | (
        refine son rfl rfl rfl ?_
        first | (refine sv rfl (opv_mv rfl) ?_) | (refine sv rfl (opv_mvt rfl) ?_)
        refine son rfl rfl rfl ?_
        refine sv rfl (opv_lss rfl rfl) ?_
        first | (refine sv rfl (opv_pick_t rfl rfl) ?_) | (refine sv rfl (opv_pick_f rfl rfl) ?_)
        first | (refine sv rfl (opv_mv rfl) ?_) | (refine sv rfl (opv_mvt rfl) ?_)
        refine ssplit 15 rfl (fun hg2 => ?_) (fun hg2 => ?_)
        · replace hg2 := of_decide_eq_true hg2
          first
          | (exfalso; first | omega | contradiction)
          | (
              refine soff rfl rfl rfl rfl ?_
              refine soff rfl rfl rfl rfl ?_
              first | (refine sv rfl (opv_pick_t rfl rfl) ?_) | (refine sv rfl (opv_pick_f rfl rfl) ?_)
              refine snil ?_
              refine ccond rfl (fun _ => ?_) (fun hx => Bool.noConfusion hx)
              refine cseq ?_
              refine cregion ?_
              refine sv rfl (opv_build zi24 pi24 parts_nil (.nil _)) ?_
              first | (refine sstore sz24 rfl rfl rfl rfl (Nat.le_of_ble_eq_true rfl) ?_) | (refine sstore_ap sz24 rfl rfl rfl (by first | rfl | omega) rfl (List.all_eq_true.1 rfl) (by omega) (by omega) ?_)
              first | (refine sv rfl (opv_as rfl) ?_) | (refine sv rfl (opv_ast rfl) ?_)
              refine snil ?_
              refine cret ?_
              refine then_ret ?_
              refine ⟨Or.inr rfl, _, _, _, (resVs_cons (ResV.agg _ _ _ _ _ ti24 rfl (.lp _ _ _ rfl) (Nat.le_of_ble_eq_true rfl)) (resVs_cons (ResV.tmp _ _ rfl) resVs_nil)), (pubA_id rfl), ?_⟩
              first | (rw [accept_arg (.inl hg1)]; rfl) | (rw [accept_arg (.inr (sane_seq_no (by omega)))]; rfl) | (rw [accept_seen hss hsq (by assumption)]; rfl) | (rw [accept_far hss hsq (by assumption) (by omega)]; rfl) | (rw [accept_ok hss hsq (by assumption) (by omega), show (b + (n : Int) - b).toNat = n by omega, hu1, tone_of hp.2 hb0]; rfl))
        · replace hg2 := of_decide_eq_false hg2
          first
          | (exfalso; first | omega | contradiction)
          | (
              refine son rfl rfl rfl ?_
              first | (refine sv rfl (opv_mv rfl) ?_) | (refine sv rfl (opv_mvt rfl) ?_)
              refine son rfl rfl rfl ?_
              refine sv rfl (opv_geq rfl rfl) ?_
              first | (refine sv rfl (opv_pick_t rfl rfl) ?_) | (refine sv rfl (opv_pick_f rfl rfl) ?_)
              refine snil ?_
              refine ccond rfl (fun hc3 => ?_) (fun hc3 => ?_)
              · replace hc3 := of_decide_eq_true hc3
                first
                | (exfalso; first | omega | contradiction)
                | (
                    refine cseq ?_
                    refine cregion ?_
                    refine sv rfl (opv_build zi24 pi24 parts_nil (.nil _)) ?_
                    first | (refine sstore sz24 rfl rfl rfl rfl (Nat.le_of_ble_eq_true rfl) ?_) | (refine sstore_ap sz24 rfl rfl rfl (by first | rfl | omega) rfl (List.all_eq_true.1 rfl) (by omega) (by omega) ?_)
                    first | (refine sv rfl (opv_as rfl) ?_) | (refine sv rfl (opv_ast rfl) ?_)
                    refine snil ?_
                    refine cret ?_
                    refine then_ret ?_
                    refine ⟨Or.inr rfl, _, _, _, (resVs_cons (ResV.agg _ _ _ _ _ ti24 rfl (.lp _ _ _ rfl) (Nat.le_of_ble_eq_true rfl)) (resVs_cons (ResV.tmp _ _ rfl) resVs_nil)), (pubA_id rfl), ?_⟩
                    first | (rw [accept_arg (.inl hg1)]; rfl) | (rw [accept_arg (.inr (sane_seq_no (by omega)))]; rfl) | (rw [accept_seen hss hsq (by assumption)]; rfl) | (rw [accept_far hss hsq (by assumption) (by omega)]; rfl) | (rw [accept_ok hss hsq (by assumption) (by omega), show (b + (n : Int) - b).toNat = n by omega, hu1, tone_of hp.2 hb0]; rfl))
              · replace hc3 := of_decide_eq_false hc3
                have hss : saneM b u = true := by assumption
                have hsb := (saneM_iff b u).1 hss
                have hsq : saneSeqM s = true := (saneSeqM_iff s).2 ⟨by omega, by omega⟩
                first
                | (exfalso; first | omega | contradiction)
                | (
                    refine cskip ?_
                    refine then_normal ?_
                    refine cseq ?_
                    refine cseq ?_
                    refine cregion ?_
                    first | (refine sv rfl (opv_loadN ti24 rfl (.lp _ _ _ rfl) (Nat.le_of_ble_eq_true rfl)) ?_) | (refine sv rfl (opv_loadN ti24 rfl (.cp _) (Nat.le_of_ble_eq_true rfl)) ?_)
                    first | (refine sv rfl (opv_mv rfl) ?_) | (refine sv rfl (opv_mvt rfl) ?_)
                    refine scall1 rfl fn16 (opnds_cons rfl (opnds_cons rfl opnds_nil)) (pubA_id rfl) (refseen_c (by omega)) ?_
                    refine snil ?_
                    refine ccond rfl (fun hc4 => ?_) (fun hc4 => ?_)
                    · first
                      | (exfalso; first | omega | contradiction)
                      | (
                          refine cseq ?_
                          refine cregion ?_
                          refine sv rfl (opv_build zi24 pi24 parts_nil (.nil _)) ?_
                          first | (refine sstore sz24 rfl rfl rfl rfl (Nat.le_of_ble_eq_true rfl) ?_) | (refine sstore_ap sz24 rfl rfl rfl (by first | rfl | omega) rfl (List.all_eq_true.1 rfl) (by omega) (by omega) ?_)
                          first | (refine sv rfl (opv_as rfl) ?_) | (refine sv rfl (opv_ast rfl) ?_)
                          refine snil ?_
                          refine cret ?_
                          refine then_ret ?_
                          refine ⟨Or.inr rfl, _, _, _, (resVs_cons (ResV.agg _ _ _ _ _ ti24 rfl (.lp _ _ _ rfl) (Nat.le_of_ble_eq_true rfl)) (resVs_cons (ResV.tmp _ _ rfl) resVs_nil)), (pubA_id rfl), ?_⟩
                          first | (rw [accept_arg (.inl hg1)]; rfl) | (rw [accept_arg (.inr (sane_seq_no (by omega)))]; rfl) | (rw [accept_seen hss hsq (by assumption)]; rfl) | (rw [accept_far hss hsq (by assumption) (by omega)]; rfl) | (rw [accept_ok hss hsq (by assumption) (by omega), show (b + (n : Int) - b).toNat = n by omega, hu1, tone_of hp.2 hb0]; rfl))
                    · have hge := seen_ge hss hsq hc4
                      first
                      | (exfalso; first | omega | contradiction)
                      | (
                          refine cskip ?_
                          refine then_normal ?_
                          refine cseq ?_
                          refine cseq ?_
                          refine cregion ?_
                          first | (refine sv rfl (opv_mv rfl) ?_) | (refine sv rfl (opv_mvt rfl) ?_)
                          first | (refine sv rfl (opv_fieldAddr_lp fi24_0 rfl) ?_) | (refine sv rfl (opv_fieldAddr_cp fi24_0 rfl) ?_) | (refine sv rfl (opv_fieldAddr_ap fi24_0 rfl rfl (by first | rfl | omega)) ?_)
                          first | (refine sv rfl (opv_load1 ti3 rfl (.lp _ _ _ rfl) rfl) ?_) | (refine sv rfl (opv_load1 ti3 rfl (.cp _) rfl) ?_) | (refine sv rfl (opv_load1 ti3 rfl (.ap _ _ _ _ _ _ _ rfl (by first | rfl | omega)) rfl) ?_)
                          refine sv rfl (opv_add_ok rfl rfl (wrap_i64 (by omega) (by omega))) ?_
                          refine sv rfl (opv_geq rfl rfl) ?_
                          refine snil ?_
                          refine ccond rfl (fun hc5 => ?_) (fun hc5 => ?_)
                          · replace hc5 := of_decide_eq_true hc5
                            first
                            | (exfalso; first | omega | contradiction)
                            | (
                                refine cseq ?_
                                refine cregion ?_
                                refine sv rfl (opv_build zi24 pi24 parts_nil (.nil _)) ?_
                                first | (refine sstore sz24 rfl rfl rfl rfl (Nat.le_of_ble_eq_true rfl) ?_) | (refine sstore_ap sz24 rfl rfl rfl (by first | rfl | omega) rfl (List.all_eq_true.1 rfl) (by omega) (by omega) ?_)
                                first | (refine sv rfl (opv_as rfl) ?_) | (refine sv rfl (opv_ast rfl) ?_)
                                refine snil ?_
                                refine cret ?_
                                refine then_ret ?_
                                refine ⟨Or.inr rfl, _, _, _, (resVs_cons (ResV.agg _ _ _ _ _ ti24 rfl (.lp _ _ _ rfl) (Nat.le_of_ble_eq_true rfl)) (resVs_cons (ResV.tmp _ _ rfl) resVs_nil)), (pubA_id rfl), ?_⟩
                                first | (rw [accept_arg (.inl hg1)]; rfl) | (rw [accept_arg (.inr (sane_seq_no (by omega)))]; rfl) | (rw [accept_seen hss hsq (by assumption)]; rfl) | (rw [accept_far hss hsq (by assumption) (by omega)]; rfl) | (rw [accept_ok hss hsq (by assumption) (by omega), show (b + (n : Int) - b).toNat = n by omega, hu1, tone_of hp.2 hb0]; rfl))
                          · replace hc5 := of_decide_eq_false hc5
                            obtain ⟨n, hn⟩ : ∃ n : Nat, s = b + n := ⟨(s - b).toNat, by omega⟩
                            subst hn
                            have hn64 : n < 64 := by omega
                            have hbn : u.getLsbD n = false := by
                              have h := seen_bit hss ⟨by omega, by omega⟩ (show ¬ b + (n : Int) < b by omega) (show b + (n : Int) - b < 64 by omega)
                              rw [show (b + (n : Int) - b).toNat = n by omega] at h
                              rw [← h]; assumption
                            first
                            | (exfalso; first | omega | contradiction)
                            | (
                                refine cskip ?_
                                refine then_normal ?_
                                refine cseq ?_
                                refine cregion ?_
                                first | (refine sv rfl (opv_as rfl) ?_) | (refine sv rfl (opv_ast rfl) ?_)
                                refine snil ?_
                                refine cseq ?_
                                refine cseq ?_
                                refine cregion ?_
                                first | (refine sv rfl (opv_fieldAddr_lp fi24_0 rfl) ?_) | (refine sv rfl (opv_fieldAddr_cp fi24_0 rfl) ?_) | (refine sv rfl (opv_fieldAddr_ap fi24_0 rfl rfl (by first | rfl | omega)) ?_)
                                first | (refine sv rfl (opv_load1 ti3 rfl (.lp _ _ _ rfl) rfl) ?_) | (refine sv rfl (opv_load1 ti3 rfl (.cp _) rfl) ?_) | (refine sv rfl (opv_load1 ti3 rfl (.ap _ _ _ _ _ _ _ rfl (by first | rfl | omega)) rfl) ?_)
                                first | (refine sv rfl (opv_as rfl) ?_) | (refine sv rfl (opv_ast rfl) ?_)
                                refine snil ?_
                                refine cblock ?_
                                refine awc_loop (G := Nat) (fun j => [(1, .s (.one (.i .i64 (b + (n : Int))))), (2, .s (.one (.lp 0 0))), (4, .s (.one (.lp 1 0))), (6, .s (.one (.i .u64 ((1#64 <<< j).toNat : Int)))), (7, .s (.one (.i .i64 (b + (j : Int)))))]) (fun j => [.box (wsv b u).cells, .box [.i .i64 0, .i .u64 0]]) (fun j => j ≤ n) (fun j => n - j) 0 (Nat.zero_le _) ⟨rfl, rfl, rfl, rfl, congrArg (fun n => AV.s (.one (.i .i64 n))) (show b = b + ((0 : Nat) : Int) by omega), trivial⟩ _ rfl (fun _ _ => ⟨rfl, rfl, rfl, rfl, rfl, trivial⟩) (fun _ _ => blk_inb rfl) ?_
                                intro j hj
                                refine cseq ?_
                                refine cseq ?_
                                refine cregion ?_
                                first | (refine sv rfl (opv_mv rfl) ?_) | (refine sv rfl (opv_mvt rfl) ?_)
                                first | (refine sv rfl (opv_mv rfl) ?_) | (refine sv rfl (opv_mvt rfl) ?_)
                                refine sv rfl (opv_lss rfl rfl) ?_
                                refine snil ?_
                                refine ccond rfl (fun hc6 => ?_) (fun hc6 => ?_)
                                · replace hc6 := of_decide_eq_true hc6
                                  first
                                  | (exfalso; first | omega | contradiction)
                                  | (
                                      refine cskip ?_
                                      refine then_normal ?_
                                      refine cseq ?_
                                      refine cblock ?_
                                      refine cregion ?_
                                      first | (refine sv rfl (opv_mv rfl) ?_) | (refine sv rfl (opv_mvt rfl) ?_)
                                      refine sv rfl (opv_mul_u64 rfl rfl rfl (show ((2 : Int)) = ((2#64).toNat : Int) from rfl)) ?_
                                      first | (refine sv rfl (opv_as rfl) ?_) | (refine sv rfl (opv_ast rfl) ?_)
                                      refine snil0 ?_
                                      refine block_normal ?_
                                      refine then_normal ?_
                                      refine cregion ?_
                                      first | (refine sv rfl (opv_mv rfl) ?_) | (refine sv rfl (opv_mvt rfl) ?_)
                                      refine sv rfl (opv_add_ok rfl rfl (wrap_i64 (by omega) (by omega))) ?_
                                      first | (refine sv rfl (opv_as rfl) ?_) | (refine sv rfl (opv_ast rfl) ?_)
                                      refine snil ?_
                                      refine ⟨j + 1, [], by omega, ⟨rfl, rfl, rfl, ?_, congrArg (fun n => AV.s (.one (.i .i64 n))) (show b + (j : Int) + 1 = b + ((j + 1 : Nat) : Int) by omega), trivial⟩, rfl, by omega⟩
                                      rw [← shl_mul2]; rfl)
                                · replace hc6 := of_decide_eq_false hc6
                                  rw [show j = n by omega]
                                  first
                                  | (exfalso; first | omega | contradiction)
                                  | (
                                      refine cexit ?_
                                      refine then_exit ?_
                                      refine then_exit ?_
                                      refine block_hit ?_
                                      refine then_normal ?_
                                      refine cseq ?_
                                      refine cregion ?_
                                      first | (refine sv rfl (opv_fieldAddr_lp fi24_1 rfl) ?_) | (refine sv rfl (opv_fieldAddr_cp fi24_1 rfl) ?_) | (refine sv rfl (opv_fieldAddr_ap fi24_1 rfl rfl (by first | rfl | omega)) ?_)
                                      first | (refine sv rfl (opv_load1 ti22 rfl (.lp _ _ _ rfl) rfl) ?_) | (refine sv rfl (opv_load1 ti22 rfl (.cp _) rfl) ?_) | (refine sv rfl (opv_load1 ti22 rfl (.ap _ _ _ _ _ _ _ rfl (by first | rfl | omega)) rfl) ?_)
                                      first | (refine sv rfl (opv_mv rfl) ?_) | (refine sv rfl (opv_mvt rfl) ?_)
                                      refine sv rfl (opv_add_u64 rfl rfl rfl rfl) ?_
                                      rw [add_or u hn64 hbn]
                                      obtain ⟨u1, hu1⟩ : ∃ u1, u ||| (1#64 <<< n) = u1 := ⟨_, rfl⟩
                                      rw [hu1]
                                      first | (refine sv rfl (opv_fieldAddr_lp fi24_1 rfl) ?_) | (refine sv rfl (opv_fieldAddr_cp fi24_1 rfl) ?_) | (refine sv rfl (opv_fieldAddr_ap fi24_1 rfl rfl (by first | rfl | omega)) ?_)
                                      first | (refine sstore sz22 rfl rfl rfl rfl (Nat.le_of_ble_eq_true rfl) ?_) | (refine sstore_ap sz22 rfl rfl rfl (by first | rfl | omega) rfl (List.all_eq_true.1 rfl) (by omega) (by omega) ?_)
                                      refine snil ?_
                                      refine cseq ?_
                                      refine cblock ?_
                                      refine awc_loop (G := Nat) (fun k => [(2, .s (.one (.lp 0 0))), (4, .s (.one (.lp 1 0)))]) (fun k => [.box [.i .i64 (b + k), .i .u64 ((u1 >>> k).toNat : Int)], .box [.i .i64 0, .i .u64 0]]) (fun k => k ≤ 64 ∧ ∀ j, j < k → u1.getLsbD j = true) (fun k => 64 - k) 0 ⟨Nat.zero_le _, fun _ h => absurd h (Nat.not_lt_zero _)⟩ ⟨rfl, rfl, trivial⟩ [] (by simp [SV.cells, putAt]) (fun _ _ => ⟨rfl, rfl, trivial⟩) (fun _ _ => blk_inb rfl) ?_
                                      intro k hp
                                      refine cseq ?_
                                      refine cseq ?_
                                      refine cregion ?_
                                      first | (refine sv rfl (opv_fieldAddr_lp fi24_1 rfl) ?_) | (refine sv rfl (opv_fieldAddr_cp fi24_1 rfl) ?_) | (refine sv rfl (opv_fieldAddr_ap fi24_1 rfl rfl (by first | rfl | omega)) ?_)
                                      first | (refine sv rfl (opv_load1 ti22 rfl (.lp _ _ _ rfl) rfl) ?_) | (refine sv rfl (opv_load1 ti22 rfl (.cp _) rfl) ?_) | (refine sv rfl (opv_load1 ti22 rfl (.ap _ _ _ _ _ _ _ rfl (by first | rfl | omega)) rfl) ?_)
                                      refine sv rfl (opv_rem2 rfl rfl) ?_
                                      refine sv rfl (opv_ieql rfl rfl) ?_
                                      refine snil ?_
                                      refine ccond rfl (fun hc7 => ?_) (fun hc7 => ?_)
                                      · replace hc7 := of_decide_eq_true hc7
                                        have hb0 : u1.getLsbD k = true := by
                                          have h := rem2 (u1 >>> k)
                                          rw [decide_eq_true hc7, BitVec.getLsbD_ushiftRight] at h
                                          exact h.symm
                                        first
                                        | (exfalso; first | omega | contradiction)
                                        | (
                                            refine cskip ?_
                                            refine then_normal ?_
                                            refine cblock ?_
                                            refine cseq ?_
                                            refine cregion ?_
                                            first | (refine sv rfl (opv_fieldAddr_lp fi24_1 rfl) ?_) | (refine sv rfl (opv_fieldAddr_cp fi24_1 rfl) ?_) | (refine sv rfl (opv_fieldAddr_ap fi24_1 rfl rfl (by first | rfl | omega)) ?_)
                                            first | (refine sv rfl (opv_load1 ti22 rfl (.lp _ _ _ rfl) rfl) ?_) | (refine sv rfl (opv_load1 ti22 rfl (.cp _) rfl) ?_) | (refine sv rfl (opv_load1 ti22 rfl (.ap _ _ _ _ _ _ _ rfl (by first | rfl | omega)) rfl) ?_)
                                            refine sv rfl (opv_quo2 rfl rfl) ?_
                                            first | (refine sv rfl (opv_fieldAddr_lp fi24_1 rfl) ?_) | (refine sv rfl (opv_fieldAddr_cp fi24_1 rfl) ?_) | (refine sv rfl (opv_fieldAddr_ap fi24_1 rfl rfl (by first | rfl | omega)) ?_)
                                            first | (refine sstore sz22 rfl rfl rfl rfl (Nat.le_of_ble_eq_true rfl) ?_) | (refine sstore_ap sz22 rfl rfl rfl (by first | rfl | omega) rfl (List.all_eq_true.1 rfl) (by omega) (by omega) ?_)
                                            refine snil ?_
                                            refine cregion ?_
                                            first | (refine sv rfl (opv_fieldAddr_lp fi24_0 rfl) ?_) | (refine sv rfl (opv_fieldAddr_cp fi24_0 rfl) ?_) | (refine sv rfl (opv_fieldAddr_ap fi24_0 rfl rfl (by first | rfl | omega)) ?_)
                                            first | (refine sv rfl (opv_load1 ti3 rfl (.lp _ _ _ rfl) rfl) ?_) | (refine sv rfl (opv_load1 ti3 rfl (.cp _) rfl) ?_) | (refine sv rfl (opv_load1 ti3 rfl (.ap _ _ _ _ _ _ _ rfl (by first | rfl | omega)) rfl) ?_)
                                            refine sv rfl (opv_add_ok rfl rfl (wrap_i64 (by omega) (by omega))) ?_
                                            first | (refine sv rfl (opv_fieldAddr_lp fi24_0 rfl) ?_) | (refine sv rfl (opv_fieldAddr_cp fi24_0 rfl) ?_) | (refine sv rfl (opv_fieldAddr_ap fi24_0 rfl rfl (by first | rfl | omega)) ?_)
                                            first | (refine sstore sz3 rfl rfl rfl rfl (Nat.le_of_ble_eq_true rfl) ?_) | (refine sstore_ap sz3 rfl rfl rfl (by first | rfl | omega) rfl (List.all_eq_true.1 rfl) (by omega) (by omega) ?_)
                                            refine snil0 ?_
                                            refine block_normal ?_
                                            refine then_normal ?_
                                            have hk : k < 64 := by
                                              apply Classical.byContradiction
                                              intro hn
                                              rw [BitVec.getLsbD_of_ge _ _ (by omega)] at hb0
                                              cases hb0
                                            have e1 : b + (k : Int) + 1 = b + ((k + 1 : Nat) : Int) := by omega
                                            have e2 : (u1 >>> k) >>> 1 = u1 >>> (k + 1) := (BitVec.shiftRight_add u1 k 1).symm
                                            refine ⟨k + 1, [], ⟨by omega, fun j hj => ?_⟩, ⟨rfl, rfl, trivial⟩, by rw [← e1, ← e2]; rfl, by omega⟩
                                            by_cases e : j = k
                                            · rw [e]; exact hb0
                                            · exact hp.2 j (by omega))
                                      · replace hc7 := of_decide_eq_false hc7
                                        have hb0 : u1.getLsbD k = false := by
                                          have h := rem2 (u1 >>> k)
                                          rw [decide_eq_false hc7, BitVec.getLsbD_ushiftRight] at h
                                          exact h.symm
                                        first
                                        | (exfalso; first | omega | contradiction)
                                        | (
                                            refine cexit ?_
                                            refine then_exit ?_
                                            refine then_exit ?_
                                            refine block_hit ?_
                                            refine then_normal ?_
                                            refine cseq ?_
                                            refine cregion ?_
                                            first | (refine sv rfl (opv_loadN ti24 rfl (.lp _ _ _ rfl) (Nat.le_of_ble_eq_true rfl)) ?_) | (refine sv rfl (opv_loadN ti24 rfl (.cp _) (Nat.le_of_ble_eq_true rfl)) ?_)
                                            first | (refine sstore sz24 rfl rfl rfl rfl (Nat.le_of_ble_eq_true rfl) ?_) | (refine sstore_ap sz24 rfl rfl rfl (by first | rfl | omega) rfl (List.all_eq_true.1 rfl) (by omega) (by omega) ?_)
                                            first | (refine sv rfl (opv_as rfl) ?_) | (refine sv rfl (opv_ast rfl) ?_)
                                            refine snil ?_
                                            refine cret ?_
                                            refine ⟨Or.inr rfl, _, _, _, (resVs_cons (ResV.agg _ _ _ _ _ ti24 rfl (.lp _ _ _ rfl) (Nat.le_of_ble_eq_true rfl)) (resVs_cons (ResV.tmp _ _ rfl) resVs_nil)), (pubA_id rfl), ?_⟩
                                            first | (rw [accept_arg (.inl hg1)]; rfl) | (rw [accept_arg (.inr (sane_seq_no (by omega)))]; rfl) | (rw [accept_seen hss hsq (by assumption)]; rfl) | (rw [accept_far hss hsq (by assumption) (by omega)]; rfl) | (rw [accept_ok hss hsq (by assumption) (by omega), show (b + (n : Int) - b).toNat = n by omega, hu1, tone_of hp.2 hb0]; rfl))))))))

end Go.Proofs.Ytaffjoloefhodaa.Abs
