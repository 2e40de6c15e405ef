/-
  SeqsEnds: the walk
-/
import Derived.Test.YtaffjoloefhodaaQ3
namespace Go.Proofs.Ytaffjoloefhodaa.Abs
open Go.RowKit Go.Proofs
set_option maxRecDepth 100000

theorem fn20 : FnI Try.prog 20 := ⟨⟨_, Try.func20, by kernel_rfl, by kernel_rfl⟩⟩
theorem fn18 : FnI Try.prog 18 := ⟨⟨_, Try.func18, by kernel_rfl, by kernel_rfl⟩⟩

theorem ends_start {m : Nat} (hm : m ≤ 63) : saneM (4294967296 - (m : Int)) 0#64 = true := by
  rw [saneM_iff]
  exact ⟨by omega, by omega, BitVec.getLsbD_zero, BitVec.zero_ushiftRight⟩
theorem ends_seen {m : Nat} (hm : m ≤ 63) {y : Int} (hy : saneSeqM y = true) : seenM (4294967296 - (m : Int)) 0#64 y = (decide (y < 4294967296 - m) || decide (4294967295 - ((0 : Nat) : Int) < y)) := by
  have := (saneSeqM_iff y).1 hy
  unfold seenM
  rw [ends_start hm, hy, Bool.true_and, Bool.true_and, BitVec.getLsbD_zero, Bool.and_false, decide_eq_false (show ¬ 4294967295 - ((0 : Nat) : Int) < y by omega)]

theorem seqsEnds_c {n k : Int} : CallsA Try.prog 6 [.one (.i .i64 n), .one (.i .i64 k)] (· = .s (.one (.b true))) := by
  refine callsA_of Try.func6 rfl (nt := 72) rfl (Nat.le_of_ble_eq_true rfl) ?_
  intro w0 S0
  refine cseq ?_
  refine cregion ?_
  first | (refine sv rfl (opv_as rfl) ?_) | (refine sv rfl (opv_ast rfl) ?_)
  refine snil ?_
  refine cseq ?_
  refine cregion ?_
  refine scall1 rfl fn8 opnds_nil (pubA_id rfl) (awake_c) ?_
  first | (refine sv rfl (opv_as rfl) ?_) | (refine sv rfl (opv_ast rfl) ?_)
  refine snil ?_
  refine cseq ?_
  refine cregion ?_
  first | (refine sv rfl (opv_mv rfl) ?_) | (refine sv rfl (opv_mvt rfl) ?_)
  refine sv rfl (opv_andc rfl rfl) ?_
  obtain ⟨hm1, hm2⟩ := imask_le n (m := 63) (by omega) (by omega)
  obtain ⟨m, hm⟩ : ∃ m : Nat, imask n 63 = m := ⟨(imask n 63).toNat, by omega⟩
  rw [hm] at hm1 hm2 ⊢
  first | (refine sv rfl (opv_as rfl) ?_) | (refine sv rfl (opv_ast rfl) ?_)
  refine snil ?_
  refine cseq ?_
  refine cregion ?_
  first | (refine sv rfl (opv_mv rfl) ?_) | (refine sv rfl (opv_mvt rfl) ?_)
  refine sv rfl (opv_sub_ok rfl rfl (wrap_i64 (by omega) (by omega))) ?_
  refine sv rfl (opv_build zi26 pi26 (parts_cons rfl parts_nil) (.cons _ _ _ _ _ _ _ rfl rfl (Nat.le_of_ble_eq_true rfl) (.nil _))) ?_
  refine salloc rfl zi26 ?_
  first | (refine sstore sz26 rfl rfl rfl rfl (Nat.le_of_ble_eq_true rfl) ?_) | (refine sstore_ap sz26 rfl rfl rfl (by first | rfl | omega) rfl (List.all_eq_true.1 rfl) (by omega) (by omega) ?_)
  refine snil ?_
  refine cseq ?_
  refine cregion ?_
  first | (refine sv rfl (opv_loadN ti26 rfl (.lp _ _ _ rfl) (Nat.le_of_ble_eq_true rfl)) ?_) | (refine sv rfl (opv_loadN ti26 rfl (.cp _) (Nat.le_of_ble_eq_true rfl)) ?_)
  refine scall1 rfl fn10 (opnds_cons rfl (opnds_cons rfl opnds_nil)) (pubA_id rfl) (accept_k (u := 0#64) (by omega) (accept_arg (.inr rfl))) ?_
  first | (refine sv rfl (opv_mv rfl) ?_) | (refine sv rfl (opv_mvt rfl) ?_)
  refine sv rfl (opv_extract rfl rfl) ?_
  refine sv rfl (opv_extract rfl rfl) ?_
  refine salloc rfl zi26 ?_
  first | (refine sstore sz26 rfl rfl rfl rfl (Nat.le_of_ble_eq_true rfl) ?_) | (refine sstore_ap sz26 rfl rfl rfl (by first | rfl | omega) rfl (List.all_eq_true.1 rfl) (by omega) (by omega) ?_)
  first | (refine sv rfl (opv_as rfl) ?_) | (refine sv rfl (opv_ast rfl) ?_)
  refine snil ?_
  refine cseq ?_
  refine cseq ?_
  refine cregion ?_
  first | (refine sv rfl (opv_as rfl) ?_) | (refine sv rfl (opv_ast rfl) ?_)
  refine snil ?_
  refine cblock ?_
  refine awc_loop (G := Nat × Int × BitVec 64) (fun g => [(1, .s (.one (.i .i64 k))), (5, .s (.one (.b true))), (6, .s (.one (.i .i64 (m : Int)))), (7, .s (.one (.lp 0 0))), (9, .s (.one (.i .i64 1))), (10, .s (.one (.i .i64 (g.1 : Int))))]) (fun g => [.box (wsv g.2.1 g.2.2).cells]) (fun g => saneM g.2.1 g.2.2 = true ∧ g.1 ≤ m ∧ 4294967296 - (m : Int) ≤ g.2.1 ∧ ∀ y, saneSeqM y = true → seenM g.2.1 g.2.2 y = (decide (y < 4294967296 - m) || decide (4294967295 - (g.1 : Int) < y))) (fun g => m - g.1) (0, 4294967296 - (m : Int), 0#64) ⟨ends_start (by omega), Nat.zero_le _, Int.le_refl _, fun y hy => ends_seen (by omega) hy⟩ ⟨rfl, rfl, rfl, rfl, rfl, rfl, trivial⟩ _ rfl (fun _ _ => ⟨rfl, rfl, rfl, rfl, rfl, rfl, trivial⟩) (fun _ _ => blk_inb rfl) ?_
  intro ⟨i, b, u⟩ ⟨hs, hi, hbm, hsy⟩
  dsimp only at hs hi hbm hsy ⊢
  have hsb := (saneM_iff b u).1 hs
  refine cseq ?_
  refine cseq ?_
  refine cregion ?_
  first | (refine sv rfl (opv_mv rfl) ?_) | (refine sv rfl (opv_mvt rfl) ?_)
  first | (refine sv rfl (opv_mv rfl) ?_) | (refine sv rfl (opv_mvt rfl) ?_)
  refine sv rfl (opv_lss rfl rfl) ?_
  refine snil ?_
  refine ccond rfl (fun hc1 => ?_) (fun hc1 => ?_)
  · replace hc1 := of_decide_eq_true hc1
    have hq : saneSeqM (4294967295 - (i : Int)) = true := (saneSeqM_iff _).2 ⟨by omega, by omega⟩
    have hns : seenM b u (4294967295 - (i : Int)) = false := by rw [hsy _ hq, decide_eq_false (by omega), decide_eq_false (by omega)]; rfl
    obtain ⟨hz, hbb⟩ := accept_zero hs hq hns (by omega)
    obtain ⟨hs', _, hsy'⟩ := accept_spec hs hz
    have hsb' := (saneM_iff _ _).1 hs'
    first
    | (exfalso; first | omega | contradiction | (rw [hfull] at hc1; contradiction))
    | (
        refine cskip ?_
        refine then_normal ?_
        refine cseq ?_
        refine cblock ?_
        refine cseq ?_
        refine cregion ?_
        first | (refine sv rfl (opv_loadN ti26 rfl (.lp _ _ _ rfl) (Nat.le_of_ble_eq_true rfl)) ?_) | (refine sv rfl (opv_loadN ti26 rfl (.cp _) (Nat.le_of_ble_eq_true rfl)) ?_)
        first | (refine sv rfl (opv_mv rfl) ?_) | (refine sv rfl (opv_mvt rfl) ?_)
        refine sv rfl (opv_sub_ok rfl rfl (wrap_i64 (by omega) (by omega))) ?_
        refine scall1 rfl fn10 (opnds_cons rfl (opnds_cons rfl opnds_nil)) (pubA_id rfl) (accept_c (by omega)) ?_
        first | (refine sv rfl (opv_mv rfl) ?_) | (refine sv rfl (opv_mvt rfl) ?_)
        refine sv rfl (opv_extract rfl rfl) ?_
        refine sv rfl (opv_extract rfl rfl) ?_
        refine salloc rfl zi26 ?_
        first | (refine sstore sz26 rfl rfl rfl rfl (Nat.le_of_ble_eq_true rfl) ?_) | (refine sstore_ap sz26 rfl rfl rfl (by first | rfl | omega) rfl (List.all_eq_true.1 rfl) (by omega) (by omega) ?_)
        first | (refine sv rfl (opv_as rfl) ?_) | (refine sv rfl (opv_ast rfl) ?_)
        refine snil ?_
        refine cseq ?_
        refine cseq ?_
        refine cregion ?_
        first | (refine sv rfl (opv_mv rfl) ?_) | (refine sv rfl (opv_mvt rfl) ?_)
        refine sv rfl (opv_ineq rfl rfl) ?_
        refine snil ?_
        refine ccond rfl (fun hc2 => ?_) (fun hc2 => ?_)
        · replace hc2 := ndec_t hc2
          first
          | (exfalso; first | omega | contradiction | (rw [hfull] at hc2; contradiction))
          | (
              refine cseq ?_
              refine cregion ?_
              first | (refine sv rfl (opv_as rfl) ?_) | (refine sv rfl (opv_ast rfl) ?_)
              refine snil ?_
              refine cret ?_
              refine then_ret ?_
              refine block_ret ?_
              refine then_ret ?_
              refine then_ret ?_
              refine block_ret ?_
              refine then_ret ?_
              refine ⟨Or.inr rfl, _, _, _, (resVs_cons (ResV.tmp _ _ rfl) resVs_nil), (pubA_id rfl), ?_⟩
              first | exact avb hs)
        · replace hc2 := ndec_f hc2
          first
          | (exfalso; first | omega | contradiction | (rw [hfull] at hc2; contradiction))
          | (
              refine cskip ?_
              refine then_normal ?_
              refine cregion ?_
              first | (refine sv rfl (opv_loadN ti26 rfl (.lp _ _ _ rfl) (Nat.le_of_ble_eq_true rfl)) ?_) | (refine sv rfl (opv_loadN ti26 rfl (.cp _) (Nat.le_of_ble_eq_true rfl)) ?_)
              first | (refine sstore sz26 rfl rfl rfl rfl (Nat.le_of_ble_eq_true rfl) ?_) | (refine sstore_ap sz26 rfl rfl rfl (by first | rfl | omega) rfl (List.all_eq_true.1 rfl) (by omega) (by omega) ?_)
              refine snil0 ?_
              refine block_normal ?_
              refine then_normal ?_
              refine cregion ?_
              first | (refine sv rfl (opv_mv rfl) ?_) | (refine sv rfl (opv_mvt rfl) ?_)
              refine sv rfl (opv_add_ok rfl rfl (wrap_i64 (by omega) (by omega))) ?_
              first | (refine sv rfl (opv_as rfl) ?_) | (refine sv rfl (opv_ast rfl) ?_)
              refine snil ?_
              exact ⟨(i + 1, (acceptM b u (4294967295 - (i : Int))).1.1, (acceptM b u (4294967295 - (i : Int))).1.2), _, ⟨hs', by dsimp only; omega, by dsimp only; omega, fun y hy => by dsimp only; rw [hsy', hsy y hy, Bool.eq_iff_iff]; simp; omega⟩, ⟨rfl, rfl, rfl, rfl, rfl, rfl, trivial⟩, rfl, by dsimp only; omega⟩))
  · replace hc1 := of_decide_eq_false hc1
    have hbe : b = 4294967296 := base_past hs (fun y hy => by rw [hsy y hy]; simp; omega)
    subst hbe
    have hfull : fullM 4294967296 u = true := by unfold fullM; rw [hs]; rfl
    have hmp : (missM 4294967296 u 9).length = 0 := by rw [miss_past]; rfl
    first
    | (exfalso; first | omega | contradiction | (rw [hfull] at hc1; contradiction))
    | (
        refine cexit ?_
        refine then_exit ?_
        refine then_exit ?_
        refine block_hit ?_
        refine then_normal ?_
        refine cseq ?_
        refine cregion ?_
        first | (refine sv rfl (opv_loadN ti26 rfl (.lp _ _ _ rfl) (Nat.le_of_ble_eq_true rfl)) ?_) | (refine sv rfl (opv_loadN ti26 rfl (.cp _) (Nat.le_of_ble_eq_true rfl)) ?_)
        first | (refine sv rfl (opv_mv rfl) ?_) | (refine sv rfl (opv_mvt rfl) ?_)
        refine sv rfl (opv_andc rfl rfl) ?_
        obtain ⟨hk1, hk2⟩ := imask_le k (m := 63) (by omega) (by omega)
        refine sv rfl (opv_sub_ok rfl rfl (wrap_i64 (by omega) (by omega))) ?_
        refine scall1 rfl fn10 (opnds_cons rfl (opnds_cons rfl opnds_nil)) (pubA_id rfl) (accept_k (by omega) (accept_seen hs ((saneSeqM_iff _).2 ⟨by omega, by omega⟩) (seen_past hs ((saneSeqM_iff _).2 ⟨by omega, by omega⟩)))) ?_
        first | (refine sv rfl (opv_mv rfl) ?_) | (refine sv rfl (opv_mvt rfl) ?_)
        refine sv rfl (opv_extract rfl rfl) ?_
        refine sv rfl (opv_extract rfl rfl) ?_
        refine salloc rfl zi26 ?_
        first | (refine sstore sz26 rfl rfl rfl rfl (Nat.le_of_ble_eq_true rfl) ?_) | (refine sstore_ap sz26 rfl rfl rfl (by first | rfl | omega) rfl (List.all_eq_true.1 rfl) (by omega) (by omega) ?_)
        first | (refine sv rfl (opv_as rfl) ?_) | (refine sv rfl (opv_ast rfl) ?_)
        refine snil ?_
        refine cseq ?_
        refine cregion ?_
        first | (refine sv rfl (opv_mv rfl) ?_) | (refine sv rfl (opv_mvt rfl) ?_)
        first | (refine sv rfl (opv_mv rfl) ?_) | (refine sv rfl (opv_mvt rfl) ?_)
        refine ssplit 50 rfl (fun hg3 => ?_) (fun hg3 => ?_)
        · first
          | (exfalso; first | omega | contradiction | (rw [hfull] at hg3; contradiction))
          | (
              refine son rfl rfl rfl ?_
              first | (refine sv rfl (opv_loadN ti26 rfl (.lp _ _ _ rfl) (Nat.le_of_ble_eq_true rfl)) ?_) | (refine sv rfl (opv_loadN ti26 rfl (.cp _) (Nat.le_of_ble_eq_true rfl)) ?_)
              refine son rfl rfl rfl ?_
              refine scall1 rfl fn20 (opnds_cons rfl opnds_nil) (pubA_id rfl) (full_c (by omega)) ?_
              first | (refine sv rfl (opv_pick_t rfl rfl) ?_) | (refine sv rfl (opv_pick_f rfl rfl) ?_)
              first | (refine sv rfl (opv_mv rfl) ?_) | (refine sv rfl (opv_mvt rfl) ?_)
              refine ssplit 54 rfl (fun hg4 => ?_) (fun hg4 => ?_)
              · first
                | (exfalso; first | omega | contradiction | (rw [hfull] at hg4; contradiction))
                | (
                    refine son rfl rfl rfl ?_
                    first | (refine sv rfl (opv_mv rfl) ?_) | (refine sv rfl (opv_mvt rfl) ?_)
                    refine son rfl rfl rfl ?_
                    refine sv rfl (opv_ieql rfl rfl) ?_
                    first | (refine sv rfl (opv_pick_t rfl rfl) ?_) | (refine sv rfl (opv_pick_f rfl rfl) ?_)
                    first | (refine sv rfl (opv_mv rfl) ?_) | (refine sv rfl (opv_mvt rfl) ?_)
                    refine ssplit 58 rfl (fun hg5 => ?_) (fun hg5 => ?_)
                    · replace hg5 := of_decide_eq_true hg5
                      first
                      | (exfalso; first | omega | contradiction | (rw [hfull] at hg5; contradiction))
                      | (
                          refine son rfl rfl rfl ?_
                          first | (refine sv rfl (opv_mv rfl) ?_) | (refine sv rfl (opv_mvt rfl) ?_)
                          refine son rfl rfl rfl ?_
                          refine sv rfl (opv_ieql rfl rfl) ?_
                          first | (refine sv rfl (opv_pick_t rfl rfl) ?_) | (refine sv rfl (opv_pick_f rfl rfl) ?_)
                          first | (refine sv rfl (opv_mv rfl) ?_) | (refine sv rfl (opv_mvt rfl) ?_)
                          refine ssplit 62 rfl (fun hg6 => ?_) (fun hg6 => ?_)
                          · replace hg6 := of_decide_eq_true hg6
                            first
                            | (exfalso; first | omega | contradiction | (rw [hfull] at hg6; contradiction))
                            | (
                                refine son rfl rfl rfl ?_
                                first | (refine sv rfl (opv_loadN ti26 rfl (.lp _ _ _ rfl) (Nat.le_of_ble_eq_true rfl)) ?_) | (refine sv rfl (opv_loadN ti26 rfl (.cp _) (Nat.le_of_ble_eq_true rfl)) ?_)
                                refine son rfl rfl rfl ?_
                                refine scall1 rfl fn18 (opnds_cons rfl (opnds_cons rfl opnds_nil)) (pubA_id rfl) (missing_c (by omega)) ?_
                                refine son rfl rfl rfl ?_
                                first | (refine sv rfl (opv_len_sl si39 rfl) ?_) | (refine sv rfl (opv_len_nil si39 rfl) ?_) | (refine sv rfl (opv_len_ls si39 rfl rfl (by first | rfl | omega)) ?_)
                                refine son rfl rfl rfl ?_
                                refine sv rfl (opv_ieql rfl rfl) ?_
                                first | (refine sv rfl (opv_pick_t rfl rfl) ?_) | (refine sv rfl (opv_pick_f rfl rfl) ?_)
                                first | (refine sv rfl (opv_mv rfl) ?_) | (refine sv rfl (opv_mvt rfl) ?_)
                                refine ssplit 68 rfl (fun hg7 => ?_) (fun hg7 => ?_)
                                · replace hg7 := of_decide_eq_true hg7
                                  first
                                  | (exfalso; first | omega | contradiction | (rw [hfull] at hg7; contradiction))
                                  | (
                                      refine son rfl rfl rfl ?_
                                      first | (refine sv rfl (opv_loadN ti26 rfl (.lp _ _ _ rfl) (Nat.le_of_ble_eq_true rfl)) ?_) | (refine sv rfl (opv_loadN ti26 rfl (.cp _) (Nat.le_of_ble_eq_true rfl)) ?_)
                                      refine son rfl rfl rfl ?_
                                      refine scall1 rfl fn13 (opnds_cons rfl opnds_nil) (pubA_id rfl) (sane_c (by omega)) ?_
                                      first | (refine sv rfl (opv_pick_t rfl rfl) ?_) | (refine sv rfl (opv_pick_f rfl rfl) ?_)
                                      first | (refine sv rfl (opv_as rfl) ?_) | (refine sv rfl (opv_ast rfl) ?_)
                                      refine snil ?_
                                      refine cret ?_
                                      refine ⟨Or.inr rfl, _, _, _, (resVs_cons (ResV.tmp _ _ rfl) resVs_nil), (pubA_id rfl), ?_⟩
                                      first | exact avb hs)
                                · replace hg7 := of_decide_eq_false hg7
                                  first
                                  | (exfalso; first | omega | contradiction | (rw [hfull] at hg7; contradiction))
                                  | (
                                      refine soff rfl rfl rfl rfl ?_
                                      refine soff rfl rfl rfl rfl ?_
                                      first | (refine sv rfl (opv_pick_t rfl rfl) ?_) | (refine sv rfl (opv_pick_f rfl rfl) ?_)
                                      first | (refine sv rfl (opv_as rfl) ?_) | (refine sv rfl (opv_ast rfl) ?_)
                                      refine snil ?_
                                      refine cret ?_
                                      refine ⟨Or.inr rfl, _, _, _, (resVs_cons (ResV.tmp _ _ rfl) resVs_nil), (pubA_id rfl), ?_⟩
                                      first | exact avb hs))
                          · replace hg6 := of_decide_eq_false hg6
                            first
                            | (exfalso; first | omega | contradiction | (rw [hfull] at hg6; contradiction))
                            | (
                                refine soff rfl rfl rfl rfl ?_
                                refine soff rfl rfl rfl rfl ?_
                                refine soff rfl rfl rfl rfl ?_
                                refine soff rfl rfl rfl rfl ?_
                                first | (refine sv rfl (opv_pick_t rfl rfl) ?_) | (refine sv rfl (opv_pick_f rfl rfl) ?_)
                                first | (refine sv rfl (opv_mv rfl) ?_) | (refine sv rfl (opv_mvt rfl) ?_)
                                refine soff rfl rfl rfl rfl ?_
                                refine soff rfl rfl rfl rfl ?_
                                first | (refine sv rfl (opv_pick_t rfl rfl) ?_) | (refine sv rfl (opv_pick_f rfl rfl) ?_)
                                first | (refine sv rfl (opv_as rfl) ?_) | (refine sv rfl (opv_ast rfl) ?_)
                                refine snil ?_
                                refine cret ?_
                                refine ⟨Or.inr rfl, _, _, _, (resVs_cons (ResV.tmp _ _ rfl) resVs_nil), (pubA_id rfl), ?_⟩
                                first | exact avb hs))
                    · replace hg5 := of_decide_eq_false hg5
                      first
                      | (exfalso; first | omega | contradiction | (rw [hfull] at hg5; contradiction))
                      | (
                          refine soff rfl rfl rfl rfl ?_
                          refine soff rfl rfl rfl rfl ?_
                          first | (refine sv rfl (opv_pick_t rfl rfl) ?_) | (refine sv rfl (opv_pick_f rfl rfl) ?_)
                          first | (refine sv rfl (opv_mv rfl) ?_) | (refine sv rfl (opv_mvt rfl) ?_)
                          refine soff rfl rfl rfl rfl ?_
                          refine soff rfl rfl rfl rfl ?_
                          refine soff rfl rfl rfl rfl ?_
                          refine soff rfl rfl rfl rfl ?_
                          first | (refine sv rfl (opv_pick_t rfl rfl) ?_) | (refine sv rfl (opv_pick_f rfl rfl) ?_)
                          first | (refine sv rfl (opv_mv rfl) ?_) | (refine sv rfl (opv_mvt rfl) ?_)
                          refine soff rfl rfl rfl rfl ?_
                          refine soff rfl rfl rfl rfl ?_
                          first | (refine sv rfl (opv_pick_t rfl rfl) ?_) | (refine sv rfl (opv_pick_f rfl rfl) ?_)
                          first | (refine sv rfl (opv_as rfl) ?_) | (refine sv rfl (opv_ast rfl) ?_)
                          refine snil ?_
                          refine cret ?_
                          refine ⟨Or.inr rfl, _, _, _, (resVs_cons (ResV.tmp _ _ rfl) resVs_nil), (pubA_id rfl), ?_⟩
                          first | exact avb hs))
              · first
                | (exfalso; first | omega | contradiction | (rw [hfull] at hg4; contradiction))
                | (
                    refine soff rfl rfl rfl rfl ?_
                    refine soff rfl rfl rfl rfl ?_
                    first | (refine sv rfl (opv_pick_t rfl rfl) ?_) | (refine sv rfl (opv_pick_f rfl rfl) ?_)
                    first | (refine sv rfl (opv_mv rfl) ?_) | (refine sv rfl (opv_mvt rfl) ?_)
                    refine soff rfl rfl rfl rfl ?_
                    refine soff rfl rfl rfl rfl ?_
                    first | (refine sv rfl (opv_pick_t rfl rfl) ?_) | (refine sv rfl (opv_pick_f rfl rfl) ?_)
                    first | (refine sv rfl (opv_mv rfl) ?_) | (refine sv rfl (opv_mvt rfl) ?_)
                    refine soff rfl rfl rfl rfl ?_
                    refine soff rfl rfl rfl rfl ?_
                    refine soff rfl rfl rfl rfl ?_
                    refine soff rfl rfl rfl rfl ?_
                    first | (refine sv rfl (opv_pick_t rfl rfl) ?_) | (refine sv rfl (opv_pick_f rfl rfl) ?_)
                    first | (refine sv rfl (opv_mv rfl) ?_) | (refine sv rfl (opv_mvt rfl) ?_)
                    refine soff rfl rfl rfl rfl ?_
                    refine soff rfl rfl rfl rfl ?_
                    first | (refine sv rfl (opv_pick_t rfl rfl) ?_) | (refine sv rfl (opv_pick_f rfl rfl) ?_)
                    first | (refine sv rfl (opv_as rfl) ?_) | (refine sv rfl (opv_ast rfl) ?_)
                    refine snil ?_
                    refine cret ?_
                    refine ⟨Or.inr rfl, _, _, _, (resVs_cons (ResV.tmp _ _ rfl) resVs_nil), (pubA_id rfl), ?_⟩
                    first | exact avb hs))
        · first
          | (exfalso; first | omega | contradiction | (rw [hfull] at hg3; contradiction))
          | (
              refine soff rfl rfl rfl rfl ?_
              refine soff rfl rfl rfl rfl ?_
              first | (refine sv rfl (opv_pick_t rfl rfl) ?_) | (refine sv rfl (opv_pick_f rfl rfl) ?_)
              first | (refine sv rfl (opv_mv rfl) ?_) | (refine sv rfl (opv_mvt rfl) ?_)
              refine soff rfl rfl rfl rfl ?_
              refine soff rfl rfl rfl rfl ?_
              first | (refine sv rfl (opv_pick_t rfl rfl) ?_) | (refine sv rfl (opv_pick_f rfl rfl) ?_)
              first | (refine sv rfl (opv_mv rfl) ?_) | (refine sv rfl (opv_mvt rfl) ?_)
              refine soff rfl rfl rfl rfl ?_
              refine soff rfl rfl rfl rfl ?_
              first | (refine sv rfl (opv_pick_t rfl rfl) ?_) | (refine sv rfl (opv_pick_f rfl rfl) ?_)
              first | (refine sv rfl (opv_mv rfl) ?_) | (refine sv rfl (opv_mvt rfl) ?_)
              refine soff rfl rfl rfl rfl ?_
              refine soff rfl rfl rfl rfl ?_
              refine soff rfl rfl rfl rfl ?_
              refine soff rfl rfl rfl rfl ?_
              first | (refine sv rfl (opv_pick_t rfl rfl) ?_) | (refine sv rfl (opv_pick_f rfl rfl) ?_)
              first | (refine sv rfl (opv_mv rfl) ?_) | (refine sv rfl (opv_mvt rfl) ?_)
              refine soff rfl rfl rfl rfl ?_
              refine soff rfl rfl rfl rfl ?_
              first | (refine sv rfl (opv_pick_t rfl rfl) ?_) | (refine sv rfl (opv_pick_f rfl rfl) ?_)
              first | (refine sv rfl (opv_as rfl) ?_) | (refine sv rfl (opv_ast rfl) ?_)
              refine snil ?_
              refine cret ?_
              refine ⟨Or.inr rfl, _, _, _, (resVs_cons (ResV.tmp _ _ rfl) resVs_nil), (pubA_id rfl), ?_⟩
              first | exact avb hs))

end Go.Proofs.Ytaffjoloefhodaa.Abs
