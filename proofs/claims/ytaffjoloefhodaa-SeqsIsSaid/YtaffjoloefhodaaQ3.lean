/-
  What is missing
-/
import Derived.Test.YtaffjoloefhodaaQ2a
namespace Go.Proofs.Ytaffjoloefhodaa.Abs
open Go.RowKit Go.Proofs
set_option maxRecDepth 100000

theorem ei3 : EI Try.prog 3 1 8 [.i .i64 0] := ei_of (by kernel_rfl) (by decide)
theorem ni39 : NI Try.prog 39 := ⟨.inl ⟨_, Try.underlying39⟩⟩

theorem missing_c {b : Int} {u : BitVec 64} {most : Int} (hb : -9223372036854775808 ≤ b ∧ b ≤ 9223372036854775807) : CallsA Try.prog 18 [wsv b u, .one (.i .i64 most)] (· = .s (.one (.sl (missM b u most).length (il (missM b u most))))) := by
  refine callsA_of Try.func18 rfl (nt := 38) rfl (Nat.le_of_ble_eq_true rfl) ?_
  intro w0 S0
  refine cseq ?_
  refine cregion ?_
  refine sbox rfl rfl ?_
  first | (refine sv rfl (opv_as rfl) ?_) | (refine sv rfl (opv_ast rfl) ?_)
  refine snil ?_
  refine cseq ?_
  refine cseq ?_
  refine cregion ?_
  first | (refine sv rfl (opv_loadN ti26 rfl (.lp _ _ _ rfl) (Nat.le_of_ble_eq_true rfl)) ?_) | (refine sv rfl (opv_loadN ti26 rfl (.cp _) (Nat.le_of_ble_eq_true rfl)) ?_)
  refine scall1 rfl fn13 (opnds_cons rfl opnds_nil) (pubA_id rfl) (sane_c (by omega)) ?_
  refine sv rfl (opv_not rfl) ?_
  refine snil ?_
  refine ccond rfl (fun hc1 => ?_) (fun hc1 => ?_)
  · replace hc1 := bnot_t hc1
    have hm0 : missM b u most = [] := by
      unfold missM
      rw [if_neg (by rw [hc1]; simp)]
    first
    | (exfalso; first | omega | contradiction)
    | (
        refine cseq ?_
        refine cregion ?_
        first | (refine sv rfl (opv_as rfl) ?_) | (refine sv rfl (opv_ast rfl) ?_)
        refine snil ?_
        refine cret ?_
        refine then_ret ?_
        refine ⟨Or.inr rfl, _, _, _, (resVs_cons (ResV.tmp _ _ rfl) resVs_nil), (by (repeat' first | exact PubA.nil _ | apply PubA.cons | apply PubV.one | apply PubV.agg | exact PubL.nil | exact PubL.id _ rfl | exact PubL.ls _ _ _ _ _ _ rfl (by first | rfl | first | omega | (simp; done) | (simp; omega)) | exact PubLs.nil _ | apply PubLs.cons | exact PubLs.all _ _ (List.all_eq_true.1 rfl))), ?_⟩
        first | (rw [hm0]; rfl) | (rw [miss_stop hc1 hp.1 hp.2 hg3]; rfl) | (rw [miss_end hc1 hp.1 hp.2 (.inr (by omega))]; rfl) | (rw [miss_end hc1 hp.1 hp.2 (.inl (by omega))]; rfl))
  · replace hc1 := bnot_f hc1
    have hsb := (saneM_iff b u).1 hc1
    first
    | (exfalso; first | omega | contradiction)
    | (
        refine cskip ?_
        refine then_normal ?_
        refine cseq ?_
        refine cregion ?_
        first | (refine sv rfl (opv_as rfl) ?_) | (refine sv rfl (opv_ast rfl) ?_)
        refine snil ?_
        refine cseq ?_
        refine cseq ?_
        refine cregion ?_
        first | (refine sv rfl (opv_mv rfl) ?_) | (refine sv rfl (opv_mvt rfl) ?_)
        refine snil ?_
        refine cblock ?_
        refine sadopt_c 3 1 5 (by decide) rfl ?_
        refine awc_loop (G := Nat) (fun i => [(1, .s (.one (.i .i64 most))), (2, .s (.one (.lp 0 0))), (5, .s (.one (.ls 1 (unseenM b u i).length))), (10, .s (.one (.i .i64 (i : Int))))]) (fun i => [.box (wsv b u).cells, .arr 3 1 0 (il (unseenM b u i))]) (fun i => i ≤ 64 ∧ (i = 0 ∨ ((unseenM b u i).length : Int) ≤ most)) (fun i => 64 - i) 0 ⟨Nat.zero_le _, .inl rfl⟩ ⟨rfl, rfl, rfl, rfl, trivial⟩ _ rfl (fun _ _ => ⟨rfl, rfl, rfl, rfl, trivial⟩) (fun _ _ => blk_inb rfl) ?_
        intro i hp
        have hul := unseen_len b u i
        have hil : (il (unseenM b u i)).length = (unseenM b u i).length := List.length_map ..
        refine cseq ?_
        refine cregion ?_
        refine sv rfl (opv_lss rfl rfl) ?_
        refine snil ?_
        refine cseq ?_
        refine ccond rfl (fun hc2 => ?_) (fun hc2 => ?_)
        · replace hc2 := of_decide_eq_true hc2
          first
          | (exfalso; first | omega | contradiction)
          | (
              refine cskip ?_
              refine then_normal ?_
              refine cseq ?_
              refine cblock ?_
              refine cseq ?_
              refine cregion ?_
              first | (refine sv rfl (opv_mv rfl) ?_) | (refine sv rfl (opv_mvt rfl) ?_)
              first | (refine sv rfl (opv_as rfl) ?_) | (refine sv rfl (opv_ast rfl) ?_)
              refine snil ?_
              refine cseq ?_
              refine cseq ?_
              refine cregion ?_
              first | (refine sv rfl (opv_mv rfl) ?_) | (refine sv rfl (opv_mvt rfl) ?_)
              first | (refine sv rfl (opv_len_sl si39 rfl) ?_) | (refine sv rfl (opv_len_nil si39 rfl) ?_) | (refine sv rfl (opv_len_ls si39 rfl rfl (by first | rfl | first | omega | (simp; done) | (simp; omega))) ?_)
              first | (refine sv rfl (opv_mv rfl) ?_) | (refine sv rfl (opv_mvt rfl) ?_)
              refine sv rfl (opv_geq rfl rfl) ?_
              first | (refine sv rfl (opv_mv rfl) ?_) | (refine sv rfl (opv_mvt rfl) ?_)
              refine ssplit 17 rfl (fun hg3 => ?_) (fun hg3 => ?_)
              · replace hg3 := of_decide_eq_true hg3
                first
                | (exfalso; first | omega | contradiction)
                | (
                    refine soff rfl rfl rfl rfl ?_
                    refine soff rfl rfl rfl rfl ?_
                    refine soff rfl rfl rfl rfl ?_
                    refine soff rfl rfl rfl rfl ?_
                    refine soff rfl rfl rfl rfl ?_
                    first | (refine sv rfl (opv_pick_t rfl rfl) ?_) | (refine sv rfl (opv_pick_f rfl rfl) ?_)
                    refine snil ?_
                    refine ccond rfl (fun _ => ?_) (fun hx => Bool.noConfusion hx)
                    refine cexit ?_
                    refine then_exit ?_
                    refine block_miss rfl ?_
                    refine then_exit ?_
                    refine then_exit ?_
                    refine block_hit ?_
                    refine then_normal ?_
                    refine cseq ?_
                    refine cregion ?_
                    first | (refine sv rfl (opv_mv rfl) ?_) | (refine sv rfl (opv_mvt rfl) ?_)
                    first | (refine sv rfl (opv_as rfl) ?_) | (refine sv rfl (opv_ast rfl) ?_)
                    refine snil ?_
                    refine cret ?_
                    refine ⟨Or.inr rfl, _, _, _, (resVs_cons (ResV.tmp _ _ rfl) resVs_nil), (by (repeat' first | exact PubA.nil _ | apply PubA.cons | apply PubV.one | apply PubV.agg | exact PubL.nil | exact PubL.id _ rfl | exact PubL.ls _ _ _ _ _ _ rfl (by first | rfl | first | omega | (simp; done) | (simp; omega)) | exact PubLs.nil _ | apply PubLs.cons | exact PubLs.all _ _ (List.all_eq_true.1 rfl))), ?_⟩
                    first | (rw [hm0]; rfl) | (rw [miss_stop hc1 hp.1 hp.2 hg3]; rfl) | (rw [miss_end hc1 hp.1 hp.2 (.inr (by omega))]; rfl) | (rw [miss_end hc1 hp.1 hp.2 (.inl (by omega))]; rfl))
              · replace hg3 := of_decide_eq_false hg3
                first
                | (exfalso; first | omega | contradiction)
                | (
                    refine son rfl rfl rfl ?_
                    first | (refine sv rfl (opv_fieldAddr_lp fi26_0 rfl) ?_) | (refine sv rfl (opv_fieldAddr_cp fi26_0 rfl) ?_) | (refine sv rfl (opv_fieldAddr_ap fi26_0 rfl rfl (by first | rfl | first | omega | (simp; done) | (simp; omega))) ?_)
                    refine son rfl rfl rfl ?_
                    first | (refine sv rfl (opv_load1 ti3 rfl (.lp _ _ _ rfl) rfl) ?_) | (refine sv rfl (opv_load1 ti3 rfl (.cp _) rfl) ?_) | (refine sv rfl (opv_load1 ti3 rfl (.ap _ _ _ _ _ _ _ rfl (by first | rfl | first | omega | (simp; done) | (simp; omega))) rfl) ?_)
                    refine son rfl rfl rfl ?_
                    first | (refine sv rfl (opv_mv rfl) ?_) | (refine sv rfl (opv_mvt rfl) ?_)
                    refine son rfl rfl rfl ?_
                    refine sv rfl (opv_add_ok rfl rfl (wrap_i64 (by first | omega | (simp; done) | (simp; omega)) (by first | omega | (simp; done) | (simp; omega)))) ?_
                    refine son rfl rfl rfl ?_
                    refine sv rfl (opv_gtr rfl rfl) ?_
                    first | (refine sv rfl (opv_pick_t rfl rfl) ?_) | (refine sv rfl (opv_pick_f rfl rfl) ?_)
                    refine snil ?_
                    refine ccond rfl (fun hc4 => ?_) (fun hc4 => ?_)
                    · replace hc4 := of_decide_eq_true hc4
                      first
                      | (exfalso; first | omega | contradiction)
                      | (
                          refine cexit ?_
                          refine then_exit ?_
                          refine block_miss rfl ?_
                          refine then_exit ?_
                          refine then_exit ?_
                          refine block_hit ?_
                          refine then_normal ?_
                          refine cseq ?_
                          refine cregion ?_
                          first | (refine sv rfl (opv_mv rfl) ?_) | (refine sv rfl (opv_mvt rfl) ?_)
                          first | (refine sv rfl (opv_as rfl) ?_) | (refine sv rfl (opv_ast rfl) ?_)
                          refine snil ?_
                          refine cret ?_
                          refine ⟨Or.inr rfl, _, _, _, (resVs_cons (ResV.tmp _ _ rfl) resVs_nil), (by (repeat' first | exact PubA.nil _ | apply PubA.cons | apply PubV.one | apply PubV.agg | exact PubL.nil | exact PubL.id _ rfl | exact PubL.ls _ _ _ _ _ _ rfl (by first | rfl | first | omega | (simp; done) | (simp; omega)) | exact PubLs.nil _ | apply PubLs.cons | exact PubLs.all _ _ (List.all_eq_true.1 rfl))), ?_⟩
                          first | (rw [hm0]; rfl) | (rw [miss_stop hc1 hp.1 hp.2 hg3]; rfl) | (rw [miss_end hc1 hp.1 hp.2 (.inr (by omega))]; rfl) | (rw [miss_end hc1 hp.1 hp.2 (.inl (by omega))]; rfl))
                    · replace hc4 := of_decide_eq_false hc4
                      first
                      | (exfalso; first | omega | contradiction)
                      | (
                          refine cskip ?_
                          refine then_normal ?_
                          refine cseq ?_
                          refine cregion ?_
                          first | (refine sv rfl (opv_fieldAddr_lp fi26_1 rfl) ?_) | (refine sv rfl (opv_fieldAddr_cp fi26_1 rfl) ?_) | (refine sv rfl (opv_fieldAddr_ap fi26_1 rfl rfl (by first | rfl | first | omega | (simp; done) | (simp; omega))) ?_)
                          first | (refine sv rfl (opv_load1 ti22 rfl (.lp _ _ _ rfl) rfl) ?_) | (refine sv rfl (opv_load1 ti22 rfl (.cp _) rfl) ?_) | (refine sv rfl (opv_load1 ti22 rfl (.ap _ _ _ _ _ _ _ rfl (by first | rfl | first | omega | (simp; done) | (simp; omega))) rfl) ?_)
                          first | (refine sv rfl (opv_mv rfl) ?_) | (refine sv rfl (opv_mvt rfl) ?_)
                          refine scall1 rfl fn24 (opnds_cons rfl (opnds_cons rfl opnds_nil)) (pubA_id rfl) (digit_c (by omega)) ?_
                          refine sv rfl (opv_not rfl) ?_
                          refine snil ?_
                          refine ccond rfl (fun hc5 => ?_) (fun hc5 => ?_)
                          · replace hc5 := bnot_t hc5
                            have hnx : unseenM b u (i + 1) = unseenM b u i ++ [b + (i : Int)] := by rw [unseenM, if_pos ⟨by omega, hc5⟩]
                            first
                            | (exfalso; first | omega | contradiction)
                            | (
                                refine cregion ?_
                                first | (refine sv rfl (opv_mv rfl) ?_) | (refine sv rfl (opv_mvt rfl) ?_)
                                first | (refine sv rfl (opv_fieldAddr_lp fi26_0 rfl) ?_) | (refine sv rfl (opv_fieldAddr_cp fi26_0 rfl) ?_) | (refine sv rfl (opv_fieldAddr_ap fi26_0 rfl rfl (by first | rfl | first | omega | (simp; done) | (simp; omega))) ?_)
                                first | (refine sv rfl (opv_load1 ti3 rfl (.lp _ _ _ rfl) rfl) ?_) | (refine sv rfl (opv_load1 ti3 rfl (.cp _) rfl) ?_) | (refine sv rfl (opv_load1 ti3 rfl (.ap _ _ _ _ _ _ _ rfl (by first | rfl | first | omega | (simp; done) | (simp; omega))) rfl) ?_)
                                first | (refine sv rfl (opv_mv rfl) ?_) | (refine sv rfl (opv_mvt rfl) ?_)
                                refine sv rfl (opv_add_ok rfl rfl (wrap_i64 (by first | omega | (simp; done) | (simp; omega)) (by first | omega | (simp; done) | (simp; omega)))) ?_
                                first | (refine spub 33 rfl (by (repeat' first | exact pubA_id rfl | exact PubA.nil _ | apply PubA.cons | apply PubV.one | apply PubV.agg | exact PubL.nil | exact PubL.id _ rfl | exact PubL.ls _ _ _ _ _ _ rfl (by first | rfl | first | omega | (simp; done) | (simp; omega)) | exact PubLs.all _ _ (List.all_eq_true.1 rfl) | apply PubLs.cons | exact PubLs.nil _)) ?_) | (skip)
                                refine sbuild1 rfl Try.underlying39 ei3 rfl rfl (List.all_eq_true.1 rfl) (by decide) ?_
                                first | (refine sadopt 3 1 29 (by decide) rfl ?_) | (skip)
                                refine sappend rfl Try.underlying39 ei3 ni39 rfl rfl (by (repeat' first | exact pubA_id rfl | exact PubA.nil _ | apply PubA.cons | apply PubV.one | apply PubV.agg | exact PubL.nil | exact PubL.id _ rfl | exact PubL.ls _ _ _ _ _ _ rfl (by first | rfl | first | omega | (simp; done) | (simp; omega)) | exact PubLs.all _ _ (List.all_eq_true.1 rfl) | apply PubLs.cons | exact PubLs.nil _)) rfl (by first | rfl | omega) (by first | exact .nil _ | exact .str _ | exact .sl _ _ _ (by first | rfl | omega)) (by first | omega | (simp only [maxLen]; omega)) (by first | omega | (simp only [maxLen]; omega)) ?_
                                first | (refine sv rfl (opv_as rfl) ?_) | (refine sv rfl (opv_ast rfl) ?_)
                                refine snil0 ?_
                                refine block_normal ?_
                                refine then_normal ?_
                                refine cregion ?_
                                refine sv rfl (opv_add_ok rfl rfl (wrap_i64 (by first | omega | (simp; done) | (simp; omega)) (by first | omega | (simp; done) | (simp; omega)))) ?_
                                first | (refine sv rfl (opv_mv rfl) ?_) | (refine sv rfl (opv_mvt rfl) ?_)
                                refine snil ?_
                                first
                                  | exact ⟨i + 1, _, ⟨by omega, .inr (by rw [hnx, List.length_append]; simp; omega)⟩, ⟨rfl, rfl, (by rw [hnx, List.length_append]; rfl), rfl, trivial⟩, (by rw [hnx, il_app]; rfl), by omega⟩
                                  | exact ⟨i + 1, [], ⟨by omega, .inr (by rw [hnx]; omega)⟩, ⟨rfl, rfl, (by rw [hnx]; rfl), rfl, trivial⟩, (by rw [hnx]; rfl), by omega⟩
                                 )
                          · replace hc5 := bnot_f hc5
                            have hnx : unseenM b u (i + 1) = unseenM b u i := by rw [unseenM, if_neg (fun h => by rw [show (i : Int).toNat = i from rfl, h.2] at hc5; cases hc5), List.append_nil]
                            first
                            | (exfalso; first | omega | contradiction)
                            | (
                                refine cskip ?_
                                refine block_normal ?_
                                refine then_normal ?_
                                refine cregion ?_
                                refine sv rfl (opv_add_ok rfl rfl (wrap_i64 (by first | omega | (simp; done) | (simp; omega)) (by first | omega | (simp; done) | (simp; omega)))) ?_
                                first | (refine sv rfl (opv_mv rfl) ?_) | (refine sv rfl (opv_mvt rfl) ?_)
                                refine snil ?_
                                first
                                  | exact ⟨i + 1, _, ⟨by omega, .inr (by rw [hnx, List.length_append]; simp; omega)⟩, ⟨rfl, rfl, (by rw [hnx, List.length_append]; rfl), rfl, trivial⟩, (by rw [hnx, il_app]; rfl), by omega⟩
                                  | exact ⟨i + 1, [], ⟨by omega, .inr (by rw [hnx]; omega)⟩, ⟨rfl, rfl, (by rw [hnx]; rfl), rfl, trivial⟩, (by rw [hnx]; rfl), by omega⟩
                                 ))))
        · replace hc2 := of_decide_eq_false hc2
          first
          | (exfalso; first | omega | contradiction)
          | (
              refine cexit ?_
              refine then_exit ?_
              refine then_exit ?_
              refine block_hit ?_
              refine then_normal ?_
              refine cseq ?_
              refine cregion ?_
              first | (refine sv rfl (opv_mv rfl) ?_) | (refine sv rfl (opv_mvt rfl) ?_)
              first | (refine sv rfl (opv_as rfl) ?_) | (refine sv rfl (opv_ast rfl) ?_)
              refine snil ?_
              refine cret ?_
              refine ⟨Or.inr rfl, _, _, _, (resVs_cons (ResV.tmp _ _ rfl) resVs_nil), (by (repeat' first | exact PubA.nil _ | apply PubA.cons | apply PubV.one | apply PubV.agg | exact PubL.nil | exact PubL.id _ rfl | exact PubL.ls _ _ _ _ _ _ rfl (by first | rfl | first | omega | (simp; done) | (simp; omega)) | exact PubLs.nil _ | apply PubLs.cons | exact PubLs.all _ _ (List.all_eq_true.1 rfl))), ?_⟩
              first | (rw [hm0]; rfl) | (rw [miss_stop hc1 hp.1 hp.2 hg3]; rfl) | (rw [miss_end hc1 hp.1 hp.2 (.inr (by omega))]; rfl) | (rw [miss_end hc1 hp.1 hp.2 (.inl (by omega))]; rfl)))

theorem full_c {b : Int} {u : BitVec 64} (hb : -9223372036854775808 ≤ b ∧ b ≤ 9223372036854775807) : CallsA Try.prog 20 [wsv b u] (· = .s (.one (.b (fullM b u)))) := by
  refine callsA_of Try.func20 rfl (nt := 10) rfl (Nat.le_of_ble_eq_true rfl) ?_
  intro w0 S0
  refine cseq ?_
  refine cregion ?_
  refine sbox rfl rfl ?_
  first | (refine sv rfl (opv_as rfl) ?_) | (refine sv rfl (opv_ast rfl) ?_)
  refine snil ?_
  refine cseq ?_
  refine cregion ?_
  first | (refine sv rfl (opv_loadN ti26 rfl (.lp _ _ _ rfl) (Nat.le_of_ble_eq_true rfl)) ?_) | (refine sv rfl (opv_loadN ti26 rfl (.cp _) (Nat.le_of_ble_eq_true rfl)) ?_)
  refine scall1 rfl fn13 (opnds_cons rfl opnds_nil) (pubA_id rfl) (sane_c (by omega)) ?_
  first | (refine sv rfl (opv_mv rfl) ?_) | (refine sv rfl (opv_mvt rfl) ?_)
  refine ssplit 5 rfl (fun hg1 => ?_) (fun hg1 => ?_)
  · first
    | (exfalso; first | omega | contradiction)
    | (
        refine son rfl rfl rfl ?_
        first | (refine sv rfl (opv_fieldAddr_lp fi26_0 rfl) ?_) | (refine sv rfl (opv_fieldAddr_cp fi26_0 rfl) ?_) | (refine sv rfl (opv_fieldAddr_ap fi26_0 rfl rfl (by first | rfl | omega)) ?_)
        refine son rfl rfl rfl ?_
        first | (refine sv rfl (opv_load1 ti3 rfl (.lp _ _ _ rfl) rfl) ?_) | (refine sv rfl (opv_load1 ti3 rfl (.cp _) rfl) ?_) | (refine sv rfl (opv_load1 ti3 rfl (.ap _ _ _ _ _ _ _ rfl (by first | rfl | omega)) rfl) ?_)
        refine son rfl rfl rfl ?_
        refine sv rfl (opv_gtr rfl rfl) ?_
        first | (refine sv rfl (opv_pick_t rfl rfl) ?_) | (refine sv rfl (opv_pick_f rfl rfl) ?_)
        first | (refine sv rfl (opv_as rfl) ?_) | (refine sv rfl (opv_ast rfl) ?_)
        refine snil ?_
        refine cret ?_
        refine ⟨Or.inr rfl, _, _, _, (resVs_cons (ResV.tmp _ _ rfl) resVs_nil), (pubA_id rfl), ?_⟩
        refine avb ?_
        unfold fullM
        first | (rw [hg1]; rfl))
  · first
    | (exfalso; first | omega | contradiction)
    | (
        refine soff rfl rfl rfl rfl ?_
        refine soff rfl rfl rfl rfl ?_
        refine soff rfl rfl rfl rfl ?_
        first | (refine sv rfl (opv_pick_t rfl rfl) ?_) | (refine sv rfl (opv_pick_f rfl rfl) ?_)
        first | (refine sv rfl (opv_as rfl) ?_) | (refine sv rfl (opv_ast rfl) ?_)
        refine snil ?_
        refine cret ?_
        refine ⟨Or.inr rfl, _, _, _, (resVs_cons (ResV.tmp _ _ rfl) resVs_nil), (pubA_id rfl), ?_⟩
        refine avb ?_
        unfold fullM
        first | (rw [hg1]; rfl))

end Go.Proofs.Ytaffjoloefhodaa.Abs
