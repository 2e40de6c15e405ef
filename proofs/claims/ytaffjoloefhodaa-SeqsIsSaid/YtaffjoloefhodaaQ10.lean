/-
  The document answers
-/
import Derived.Test.YtaffjoloefhodaaQ9
namespace Go.Proofs.Ytaffjoloefhodaa.Abs
open Go.RowKit Go.Proofs
set_option maxRecDepth 100000

theorem fi24_0 : FI Try.prog 24 0 0 := ⟨⟨_, _, 1, Try.underlying24, rfl, rfl, by kernel_rfl, by decide⟩⟩
theorem fi24_1 : FI Try.prog 24 1 1 := ⟨⟨_, _, 1, Try.underlying24, rfl, rfl, by kernel_rfl, by decide⟩⟩
theorem fn25 : FnI Try.prog 25 := ⟨⟨_, Try.func25, by kernel_rfl, by kernel_rfl⟩⟩
theorem zi24 : ZI Try.prog 24 ([.i .i64 0, .i .u64 0]) := zi_of (by kernel_rfl)
theorem pi24 : PI Try.prog 24 [(0, 1), (1, 1)] := pi_of Try.underlying24 (by kernel_rfl) (by kernel_rfl)
theorem sz24 : (Try.prog.info? 24).map (·.size) = some 2 := by kernel_rfl
theorem ti24 : TI Try.prog 24 true 2 := ⟨⟨_, Try.underlying24, rfl⟩, by kernel_rfl⟩

theorem refdigit_c {u : BitVec 64} {i : Int} (hi : 0 ≤ i ∧ i ≤ 9223372036854775807) : CallsA Try.prog 25 [.one (.i .u64 (u.toNat : Int)), .one (.i .i64 i)] (· = .s (.one (.b (u.getLsbD i.toNat)))) := by
  refine callsA_of Try.func25 rfl (nt := 11) rfl (Nat.le_of_ble_eq_true rfl) ?_
  intro w0 S0
  refine cseq ?_
  refine cregion ?_
  first | (refine sv rfl (opv_as rfl) ?_) | (refine sv rfl (opv_ast rfl) ?_)
  refine snil ?_
  refine cseq ?_
  refine cregion ?_
  first | (refine sv rfl (opv_mv rfl) ?_) | (refine sv rfl (opv_mvt rfl) ?_)
  first | (refine sv rfl (opv_mv rfl) ?_) | (refine sv rfl (opv_mvt rfl) ?_)
  refine sv rfl (opv_conv_ok Try.underlying3 Try.underlying44 rfl (wrap_u64 (by omega) (by omega))) ?_
  refine sv rfl (opv_shr_u64 rfl rfl rfl (by omega)) ?_
  refine sv rfl (opv_and_u64 rfl rfl rfl (show ((1 : Int)) = ((1#64).toNat : Int) from rfl)) ?_
  refine sv rfl (opv_ieql rfl rfl) ?_
  first | (refine sv rfl (opv_as rfl) ?_) | (refine sv rfl (opv_ast rfl) ?_)
  refine snil ?_
  refine cret ?_
  refine ⟨Or.inr rfl, _, _, _, (resVs_cons (ResV.tmp _ _ rfl) resVs_nil), (pubA_id rfl), ?_⟩
  show AV.s (.one (.b (decide ((((u >>> i.toNat) &&& 1#64).toNat : Int) = 1)))) = _
  rw [digit_eq]

theorem refsane_c {b : Int} {u : BitVec 64} (hb : -9223372036854775808 ≤ b ∧ b ≤ 9223372036854775807) : CallsA Try.prog 14 [wsv b u] (· = .s (.one (.b (saneM b u)))) := by
  refine callsA_of Try.func14 rfl (nt := 32) rfl (Nat.le_of_ble_eq_true rfl) ?_
  intro w0 S0
  refine cseq ?_
  refine cregion ?_
  refine sbox rfl rfl ?_
  first | (refine sv rfl (opv_as rfl) ?_) | (refine sv rfl (opv_ast rfl) ?_)
  refine snil ?_
  refine cseq ?_
  refine cseq ?_
  refine cregion ?_
  first | (refine sv rfl (opv_fieldAddr_lp fi24_0 rfl) ?_) | (refine sv rfl (opv_fieldAddr_cp fi24_0 rfl) ?_) | (refine sv rfl (opv_fieldAddr_ap fi24_0 rfl rfl (by first | rfl | omega)) ?_)
  first | (refine sv rfl (opv_load1 ti3 rfl (.lp _ _ _ rfl) rfl) ?_) | (refine sv rfl (opv_load1 ti3 rfl (.cp _) rfl) ?_) | (refine sv rfl (opv_load1 ti3 rfl (.ap _ _ _ _ _ _ _ rfl (by first | rfl | omega)) rfl) ?_)
  refine sv rfl (opv_lss rfl rfl) ?_
  first | (refine sv rfl (opv_mv rfl) ?_) | (refine sv rfl (opv_mvt rfl) ?_)
  refine ssplit 7 rfl (fun hg1 => ?_) (fun hg1 => ?_)
  · replace hg1 := of_decide_eq_true hg1
    first
    | (exfalso; first | omega | contradiction)
    | (
        refine soff rfl rfl rfl rfl ?_
        refine soff rfl rfl rfl rfl ?_
        refine soff rfl rfl rfl rfl ?_
        first | (refine sv rfl (opv_pick_t rfl rfl) ?_) | (refine sv rfl (opv_pick_f rfl rfl) ?_)
        first | (refine sv rfl (opv_mv rfl) ?_) | (refine sv rfl (opv_mvt rfl) ?_)
        refine soff rfl rfl rfl rfl ?_
        refine soff rfl rfl rfl rfl ?_
        refine soff rfl rfl rfl rfl ?_
        first | (refine sv rfl (opv_pick_t rfl rfl) ?_) | (refine sv rfl (opv_pick_f rfl rfl) ?_)
        refine snil ?_
        refine ccond rfl (fun _ => ?_) (fun hx => Bool.noConfusion hx)
        refine cseq ?_
        refine cregion ?_
        first | (refine sv rfl (opv_as rfl) ?_) | (refine sv rfl (opv_ast rfl) ?_)
        refine snil ?_
        refine cret ?_
        refine then_ret ?_
        refine ⟨Or.inr rfl, _, _, _, (resVs_cons (ResV.tmp _ _ rfl) resVs_nil), (pubA_id rfl), ?_⟩
        refine avb ?_
        first | exact (sane_no1 (by omega)).symm | exact (sane_no2 (by assumption)).symm | exact (sane_no3 (k := k) (by omega) (by assumption) (by omega)).symm | exact ((sane_ref (by omega) (by assumption)).2 (fun j hj hb0 => hp.2 j (by omega) hb0)).symm)
  · replace hg1 := of_decide_eq_false hg1
    first
    | (exfalso; first | omega | contradiction)
    | (
        refine son rfl rfl rfl ?_
        first | (refine sv rfl (opv_fieldAddr_lp fi24_0 rfl) ?_) | (refine sv rfl (opv_fieldAddr_cp fi24_0 rfl) ?_) | (refine sv rfl (opv_fieldAddr_ap fi24_0 rfl rfl (by first | rfl | omega)) ?_)
        refine son rfl rfl rfl ?_
        first | (refine sv rfl (opv_load1 ti3 rfl (.lp _ _ _ rfl) rfl) ?_) | (refine sv rfl (opv_load1 ti3 rfl (.cp _) rfl) ?_) | (refine sv rfl (opv_load1 ti3 rfl (.ap _ _ _ _ _ _ _ rfl (by first | rfl | omega)) rfl) ?_)
        refine son rfl rfl rfl ?_
        refine sv rfl (opv_gtr rfl rfl) ?_
        first | (refine sv rfl (opv_pick_t rfl rfl) ?_) | (refine sv rfl (opv_pick_f rfl rfl) ?_)
        first | (refine sv rfl (opv_mv rfl) ?_) | (refine sv rfl (opv_mvt rfl) ?_)
        refine ssplit 12 rfl (fun hg2 => ?_) (fun hg2 => ?_)
        · replace hg2 := of_decide_eq_true hg2
          first
          | (exfalso; first | omega | contradiction)
          | (
              refine soff rfl rfl rfl rfl ?_
              refine soff rfl rfl rfl rfl ?_
              refine soff rfl rfl rfl rfl ?_
              first | (refine sv rfl (opv_pick_t rfl rfl) ?_) | (refine sv rfl (opv_pick_f rfl rfl) ?_)
              refine snil ?_
              refine ccond rfl (fun _ => ?_) (fun hx => Bool.noConfusion hx)
              refine cseq ?_
              refine cregion ?_
              first | (refine sv rfl (opv_as rfl) ?_) | (refine sv rfl (opv_ast rfl) ?_)
              refine snil ?_
              refine cret ?_
              refine then_ret ?_
              refine ⟨Or.inr rfl, _, _, _, (resVs_cons (ResV.tmp _ _ rfl) resVs_nil), (pubA_id rfl), ?_⟩
              refine avb ?_
              first | exact (sane_no1 (by omega)).symm | exact (sane_no2 (by assumption)).symm | exact (sane_no3 (k := k) (by omega) (by assumption) (by omega)).symm | exact ((sane_ref (by omega) (by assumption)).2 (fun j hj hb0 => hp.2 j (by omega) hb0)).symm)
        · replace hg2 := of_decide_eq_false hg2
          first
          | (exfalso; first | omega | contradiction)
          | (
              refine son rfl rfl rfl ?_
              first | (refine sv rfl (opv_fieldAddr_lp fi24_1 rfl) ?_) | (refine sv rfl (opv_fieldAddr_cp fi24_1 rfl) ?_) | (refine sv rfl (opv_fieldAddr_ap fi24_1 rfl rfl (by first | rfl | omega)) ?_)
              refine son rfl rfl rfl ?_
              first | (refine sv rfl (opv_load1 ti22 rfl (.lp _ _ _ rfl) rfl) ?_) | (refine sv rfl (opv_load1 ti22 rfl (.cp _) rfl) ?_) | (refine sv rfl (opv_load1 ti22 rfl (.ap _ _ _ _ _ _ _ rfl (by first | rfl | omega)) rfl) ?_)
              refine son rfl rfl rfl ?_
              refine scall1 rfl fn25 (opnds_cons rfl (opnds_cons rfl opnds_nil)) (pubA_id rfl) (refdigit_c (by omega)) ?_
              first | (refine sv rfl (opv_pick_t rfl rfl) ?_) | (refine sv rfl (opv_pick_f rfl rfl) ?_)
              refine snil ?_
              refine ccond rfl (fun hc3 => ?_) (fun hc3 => ?_)
              · first
                | (exfalso; first | omega | contradiction)
                | (
                    refine cseq ?_
                    refine cregion ?_
                    first | (refine sv rfl (opv_as rfl) ?_) | (refine sv rfl (opv_ast rfl) ?_)
                    refine snil ?_
                    refine cret ?_
                    refine then_ret ?_
                    refine ⟨Or.inr rfl, _, _, _, (resVs_cons (ResV.tmp _ _ rfl) resVs_nil), (pubA_id rfl), ?_⟩
                    refine avb ?_
                    first | exact (sane_no1 (by omega)).symm | exact (sane_no2 (by assumption)).symm | exact (sane_no3 (k := k) (by omega) (by assumption) (by omega)).symm | exact ((sane_ref (by omega) (by assumption)).2 (fun j hj hb0 => hp.2 j (by omega) hb0)).symm)
              · first
                | (exfalso; first | omega | contradiction)
                | (
                    refine cskip ?_
                    refine then_normal ?_
                    refine cseq ?_
                    refine cseq ?_
                    refine cregion ?_
                    first | (refine sv rfl (opv_as rfl) ?_) | (refine sv rfl (opv_ast rfl) ?_)
                    refine snil ?_
                    refine cblock ?_
                    refine awc_loop (G := Nat) (fun k => [(1, .s (.one (.lp 0 0))), (3, .s (.one (.i .i64 (k : Int))))]) (fun k => [.box (wsv b u).cells]) (fun k => k ≤ 64 ∧ ∀ j : Nat, j < k → u.getLsbD j = true → b + (j : Int) < 4294967296) (fun k => 64 - k) 0 ⟨Nat.zero_le _, fun j hj => absurd hj (Nat.not_lt_zero _)⟩ ⟨rfl, rfl, trivial⟩ _ rfl (fun _ _ => ⟨rfl, rfl, trivial⟩) (fun _ _ => blk_inb rfl) ?_
                    intro k hp
                    try (have hz : u.getLsbD 0 = false := hc3)
                    refine cseq ?_
                    refine cseq ?_
                    refine cregion ?_
                    first | (refine sv rfl (opv_mv rfl) ?_) | (refine sv rfl (opv_mvt rfl) ?_)
                    refine sv rfl (opv_lss rfl rfl) ?_
                    refine snil ?_
                    refine ccond rfl (fun hc4 => ?_) (fun hc4 => ?_)
                    · replace hc4 := of_decide_eq_true hc4
                      first
                      | (exfalso; first | omega | contradiction)
                      | (
                          refine cskip ?_
                          refine then_normal ?_
                          refine cseq ?_
                          refine cblock ?_
                          refine cseq ?_
                          refine cregion ?_
                          first | (refine sv rfl (opv_fieldAddr_lp fi24_1 rfl) ?_) | (refine sv rfl (opv_fieldAddr_cp fi24_1 rfl) ?_) | (refine sv rfl (opv_fieldAddr_ap fi24_1 rfl rfl (by first | rfl | omega)) ?_)
                          first | (refine sv rfl (opv_load1 ti22 rfl (.lp _ _ _ rfl) rfl) ?_) | (refine sv rfl (opv_load1 ti22 rfl (.cp _) rfl) ?_) | (refine sv rfl (opv_load1 ti22 rfl (.ap _ _ _ _ _ _ _ rfl (by first | rfl | omega)) rfl) ?_)
                          first | (refine sv rfl (opv_mv rfl) ?_) | (refine sv rfl (opv_mvt rfl) ?_)
                          refine scall1 rfl fn25 (opnds_cons rfl (opnds_cons rfl opnds_nil)) (pubA_id rfl) (refdigit_c (by omega)) ?_
                          first | (refine sv rfl (opv_mv rfl) ?_) | (refine sv rfl (opv_mvt rfl) ?_)
                          refine ssplit 25 rfl (fun hg5 => ?_) (fun hg5 => ?_)
                          · first
                            | (exfalso; first | omega | contradiction)
                            | (
                                refine son rfl rfl rfl ?_
                                first | (refine sv rfl (opv_fieldAddr_lp fi24_0 rfl) ?_) | (refine sv rfl (opv_fieldAddr_cp fi24_0 rfl) ?_) | (refine sv rfl (opv_fieldAddr_ap fi24_0 rfl rfl (by first | rfl | omega)) ?_)
                                refine son rfl rfl rfl ?_
                                first | (refine sv rfl (opv_load1 ti3 rfl (.lp _ _ _ rfl) rfl) ?_) | (refine sv rfl (opv_load1 ti3 rfl (.cp _) rfl) ?_) | (refine sv rfl (opv_load1 ti3 rfl (.ap _ _ _ _ _ _ _ rfl (by first | rfl | omega)) rfl) ?_)
                                refine son rfl rfl rfl ?_
                                first | (refine sv rfl (opv_mv rfl) ?_) | (refine sv rfl (opv_mvt rfl) ?_)
                                refine son rfl rfl rfl ?_
                                refine sv rfl (opv_add_ok rfl rfl (wrap_i64 (by omega) (by omega))) ?_
                                refine son rfl rfl rfl ?_
                                refine sv rfl (opv_geq rfl rfl) ?_
                                first | (refine sv rfl (opv_pick_t rfl rfl) ?_) | (refine sv rfl (opv_pick_f rfl rfl) ?_)
                                refine snil ?_
                                refine ccond rfl (fun hc6 => ?_) (fun hc6 => ?_)
                                · replace hc6 := of_decide_eq_true hc6
                                  first
                                  | (exfalso; first | omega | contradiction)
                                  | (
                                      refine cseq ?_
                                      refine cregion ?_
                                      first | (refine sv rfl (opv_as rfl) ?_) | (refine sv rfl (opv_ast rfl) ?_)
                                      refine snil ?_
                                      refine cret ?_
                                      refine block_ret ?_
                                      refine then_ret ?_
                                      refine then_ret ?_
                                      refine block_ret ?_
                                      refine then_ret ?_
                                      refine ⟨Or.inr rfl, _, _, _, (resVs_cons (ResV.tmp _ _ rfl) resVs_nil), (pubA_id rfl), ?_⟩
                                      refine avb ?_
                                      first | exact (sane_no1 (by omega)).symm | exact (sane_no2 (by assumption)).symm | exact (sane_no3 (k := k) (by omega) (by assumption) (by omega)).symm | exact ((sane_ref (by omega) (by assumption)).2 (fun j hj hb0 => hp.2 j (by omega) hb0)).symm)
                                · replace hc6 := of_decide_eq_false hc6
                                  first
                                  | (exfalso; first | omega | contradiction)
                                  | (
                                      refine cskip ?_
                                      refine block_normal ?_
                                      refine then_normal ?_
                                      refine cregion ?_
                                      first | (refine sv rfl (opv_mv rfl) ?_) | (refine sv rfl (opv_mvt rfl) ?_)
                                      refine sv rfl (opv_add_ok rfl rfl (wrap_i64 (by omega) (by omega))) ?_
                                      first | (refine sv rfl (opv_as rfl) ?_) | (refine sv rfl (opv_ast rfl) ?_)
                                      refine snil ?_
                                      refine ⟨k + 1, _, ⟨by omega, fun j hj hb0 => ?_⟩, ⟨rfl, rfl, trivial⟩, rfl, by omega⟩
                                      by_cases e : j = k
                                      · subst e
                                        first | omega | (rw [show (j : Int).toNat = j from rfl, hb0] at *; contradiction)
                                      · exact hp.2 j (by omega) hb0))
                          · first
                            | (exfalso; first | omega | contradiction)
                            | (
                                refine soff rfl rfl rfl rfl ?_
                                refine soff rfl rfl rfl rfl ?_
                                refine soff rfl rfl rfl rfl ?_
                                refine soff rfl rfl rfl rfl ?_
                                refine soff rfl rfl rfl rfl ?_
                                first | (refine sv rfl (opv_pick_t rfl rfl) ?_) | (refine sv rfl (opv_pick_f rfl rfl) ?_)
                                refine snil ?_
                                refine ccond rfl (fun hx => Bool.noConfusion hx) (fun _ => ?_)
                                refine cskip ?_
                                refine block_normal ?_
                                refine then_normal ?_
                                refine cregion ?_
                                first | (refine sv rfl (opv_mv rfl) ?_) | (refine sv rfl (opv_mvt rfl) ?_)
                                refine sv rfl (opv_add_ok rfl rfl (wrap_i64 (by omega) (by omega))) ?_
                                first | (refine sv rfl (opv_as rfl) ?_) | (refine sv rfl (opv_ast rfl) ?_)
                                refine snil ?_
                                refine ⟨k + 1, _, ⟨by omega, fun j hj hb0 => ?_⟩, ⟨rfl, rfl, trivial⟩, rfl, by omega⟩
                                by_cases e : j = k
                                · subst e
                                  first | omega | (rw [show (j : Int).toNat = j from rfl, hb0] at *; contradiction)
                                · exact hp.2 j (by omega) hb0))
                    · replace hc4 := of_decide_eq_false hc4
                      first
                      | (exfalso; first | omega | contradiction)
                      | (
                          refine cexit ?_
                          refine then_exit ?_
                          refine then_exit ?_
                          refine block_hit ?_
                          refine then_normal ?_
                          refine cseq ?_
                          refine cregion ?_
                          first | (refine sv rfl (opv_as rfl) ?_) | (refine sv rfl (opv_ast rfl) ?_)
                          refine snil ?_
                          refine cret ?_
                          refine ⟨Or.inr rfl, _, _, _, (resVs_cons (ResV.tmp _ _ rfl) resVs_nil), (pubA_id rfl), ?_⟩
                          refine avb ?_
                          first | exact (sane_no1 (by omega)).symm | exact (sane_no2 (by assumption)).symm | exact (sane_no3 (k := k) (by omega) (by assumption) (by omega)).symm | exact ((sane_ref (by omega) (by assumption)).2 (fun j hj hb0 => hp.2 j (by omega) hb0)).symm))))

theorem ours_c {b : Int} {u : BitVec 64} : CallsA Try.prog 9 [wsv b u] (· = .s (wsv b u)) := by
  refine callsA_of Try.func9 rfl (nt := 8) rfl (Nat.le_of_ble_eq_true rfl) ?_
  intro w0 S0
  refine cseq ?_
  refine cregion ?_
  refine sbox rfl rfl ?_
  refine salloc rfl zi26 ?_
  refine snil ?_
  refine cseq ?_
  refine cregion ?_
  first | (refine sv rfl (opv_fieldAddr_lp fi24_0 rfl) ?_) | (refine sv rfl (opv_fieldAddr_cp fi24_0 rfl) ?_) | (refine sv rfl (opv_fieldAddr_ap fi24_0 rfl rfl (by first | rfl | omega)) ?_)
  first | (refine sv rfl (opv_load1 ti3 rfl (.lp _ _ _ rfl) rfl) ?_) | (refine sv rfl (opv_load1 ti3 rfl (.cp _) rfl) ?_) | (refine sv rfl (opv_load1 ti3 rfl (.ap _ _ _ _ _ _ _ rfl (by first | rfl | omega)) rfl) ?_)
  first | (refine sv rfl (opv_fieldAddr_lp fi24_1 rfl) ?_) | (refine sv rfl (opv_fieldAddr_cp fi24_1 rfl) ?_) | (refine sv rfl (opv_fieldAddr_ap fi24_1 rfl rfl (by first | rfl | omega)) ?_)
  first | (refine sv rfl (opv_load1 ti22 rfl (.lp _ _ _ rfl) rfl) ?_) | (refine sv rfl (opv_load1 ti22 rfl (.cp _) rfl) ?_) | (refine sv rfl (opv_load1 ti22 rfl (.ap _ _ _ _ _ _ _ rfl (by first | rfl | omega)) rfl) ?_)
  refine sv rfl (opv_build zi26 pi26 (parts_cons rfl (parts_cons rfl parts_nil)) (.cons _ _ _ _ _ _ _ rfl rfl (Nat.le_of_ble_eq_true rfl) (.cons _ _ _ _ _ _ _ rfl rfl (Nat.le_of_ble_eq_true rfl) (.nil _)))) ?_
  first | (refine sstore sz26 rfl rfl rfl rfl (Nat.le_of_ble_eq_true rfl) ?_) | (refine sstore_ap sz26 rfl rfl rfl (by first | rfl | omega) rfl (List.all_eq_true.1 rfl) (by omega) (by omega) ?_)
  refine snil ?_
  refine cret ?_
  refine ⟨Or.inr rfl, _, _, _, (resVs_cons (ResV.agg _ _ _ _ _ ti26 rfl (.lp _ _ _ rfl) (Nat.le_of_ble_eq_true rfl)) resVs_nil), (pubA_id rfl), ?_⟩
  rfl

theorem theirs_c {b : Int} {u : BitVec 64} : CallsA Try.prog 12 [wsv b u] (· = .s (wsv b u)) := by
  refine callsA_of Try.func12 rfl (nt := 8) rfl (Nat.le_of_ble_eq_true rfl) ?_
  intro w0 S0
  refine cseq ?_
  refine cregion ?_
  refine sbox rfl rfl ?_
  refine salloc rfl zi24 ?_
  refine snil ?_
  refine cseq ?_
  refine cregion ?_
  first | (refine sv rfl (opv_fieldAddr_lp fi26_0 rfl) ?_) | (refine sv rfl (opv_fieldAddr_cp fi26_0 rfl) ?_) | (refine sv rfl (opv_fieldAddr_ap fi26_0 rfl rfl (by first | rfl | omega)) ?_)
  first | (refine sv rfl (opv_load1 ti3 rfl (.lp _ _ _ rfl) rfl) ?_) | (refine sv rfl (opv_load1 ti3 rfl (.cp _) rfl) ?_) | (refine sv rfl (opv_load1 ti3 rfl (.ap _ _ _ _ _ _ _ rfl (by first | rfl | omega)) rfl) ?_)
  first | (refine sv rfl (opv_fieldAddr_lp fi26_1 rfl) ?_) | (refine sv rfl (opv_fieldAddr_cp fi26_1 rfl) ?_) | (refine sv rfl (opv_fieldAddr_ap fi26_1 rfl rfl (by first | rfl | omega)) ?_)
  first | (refine sv rfl (opv_load1 ti22 rfl (.lp _ _ _ rfl) rfl) ?_) | (refine sv rfl (opv_load1 ti22 rfl (.cp _) rfl) ?_) | (refine sv rfl (opv_load1 ti22 rfl (.ap _ _ _ _ _ _ _ rfl (by first | rfl | omega)) rfl) ?_)
  refine sv rfl (opv_build zi24 pi24 (parts_cons rfl (parts_cons rfl parts_nil)) (.cons _ _ _ _ _ _ _ rfl rfl (Nat.le_of_ble_eq_true rfl) (.cons _ _ _ _ _ _ _ rfl rfl (Nat.le_of_ble_eq_true rfl) (.nil _)))) ?_
  first | (refine sstore sz24 rfl rfl rfl rfl (Nat.le_of_ble_eq_true rfl) ?_) | (refine sstore_ap sz24 rfl rfl rfl (by first | rfl | omega) rfl (List.all_eq_true.1 rfl) (by omega) (by omega) ?_)
  refine snil ?_
  refine cret ?_
  refine ⟨Or.inr rfl, _, _, _, (resVs_cons (ResV.agg _ _ _ _ _ ti24 rfl (.lp _ _ _ rfl) (Nat.le_of_ble_eq_true rfl)) resVs_nil), (pubA_id rfl), ?_⟩
  rfl

end Go.Proofs.Ytaffjoloefhodaa.Abs
