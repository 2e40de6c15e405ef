/-
  SeqsMissing: the walk
-/
import Derived.Test.YtaffjoloefhodaaQ5
namespace Go.Proofs.Ytaffjoloefhodaa.Abs
open Go.RowKit Go.Proofs
set_option maxRecDepth 100000

theorem fn17 : FnI Try.prog 17 := ⟨⟨_, Try.func17, by kernel_rfl, by kernel_rfl⟩⟩

theorem seqsMissing_c {xs : List Int} {k : Int} (hxs : ∀ x ∈ xs, -9223372036854775808 ≤ x ∧ x ≤ 9223372036854775807) : CallsA Try.prog 7 [.one (.sl xs.length (il xs)), .one (.i .i64 k)] (· = .s (.one (.b true))) := by
  refine callsA_of Try.func7 rfl (nt := 153) rfl (Nat.le_of_ble_eq_true rfl) ?_
  intro w0 S0
  refine cseq ?_
  refine cregion ?_
  first | (refine sv rfl (opv_as rfl) ?_) | (refine sv rfl (opv_ast rfl) ?_)
  refine snil ?_
  refine cseq ?_
  refine cregion ?_
  refine scall1 rfl fn8 opnds_nil (pubA_id rfl) (awake_c) ?_
  first | (refine sv rfl (opv_as rfl) ?_) | (refine sv rfl (opv_ast rfl) ?_)
  refine snil ?_
  refine cseq ?_
  refine cseq ?_
  refine cregion ?_
  first | (refine sv rfl (opv_mv rfl) ?_) | (refine sv rfl (opv_mvt rfl) ?_)
  first | (refine sv rfl (opv_len_sl si39 rfl) ?_) | (refine sv rfl (opv_len_nil si39 rfl) ?_) | (refine sv rfl (opv_len_ls si39 rfl rfl (by first | rfl | omega)) ?_)
  refine sv rfl (opv_gtr rfl rfl) ?_
  refine snil ?_
  refine ccond rfl (fun hc1 => ?_) (fun hc1 => ?_)
  · replace hc1 := of_decide_eq_true hc1
    first
    | (exfalso; first | omega | contradiction | (rw [s4] at hc1; contradiction) | (rw [w2] at hc1; contradiction))
    | (
        refine cseq ?_
        refine cregion ?_
        first | (refine sv rfl (opv_mv rfl) ?_) | (refine sv rfl (opv_mvt rfl) ?_)
        first | (refine sv rfl (opv_as rfl) ?_) | (refine sv rfl (opv_ast rfl) ?_)
        refine snil ?_
        refine cret ?_
        refine then_ret ?_
        refine ⟨Or.inr rfl, _, _, _, (resVs_cons (ResV.tmp _ _ rfl) resVs_nil), (pubA_id rfl), ?_⟩
        first | rfl | exact avb (decide_eq_true rfl) | exact avb (decide_eq_true (miss_none b u)))
  · replace hc1 := of_decide_eq_false hc1
    first
    | (exfalso; first | omega | contradiction | (rw [s4] at hc1; contradiction) | (rw [w2] at hc1; contradiction))
    | (
        refine cskip ?_
        refine then_normal ?_
        refine cseq ?_
        refine cregion ?_
        refine sv rfl (opv_build zi26 pi26 parts_nil (.nil _)) ?_
        refine salloc rfl zi26 ?_
        first | (refine sstore sz26 rfl rfl rfl rfl (Nat.le_of_ble_eq_true rfl) ?_) | (refine sstore_ap sz26 rfl rfl rfl (by first | rfl | omega) rfl (List.all_eq_true.1 rfl) (by omega) (by omega) ?_)
        refine snil ?_
        refine cseq ?_
        refine cseq ?_
        refine cregion ?_
        first | (refine sv rfl (opv_as rfl) ?_) | (refine sv rfl (opv_ast rfl) ?_)
        refine snil ?_
        refine cblock ?_
        refine awc_loop (G := Nat × Int × BitVec 64) (fun g => [(0, .s (.one (.sl xs.length (il xs)))), (1, .s (.one (.i .i64 k))), (5, .s (.one (.b true))), (6, .s (.one (.lp 0 0))), (7, .s (.one (.i .i64 (g.1 : Int))))]) (fun g => [.box (wsv g.2.1 g.2.2).cells]) (fun g => saneM g.2.1 g.2.2 = true ∧ g.1 ≤ xs.length) (fun g => xs.length - g.1) (0, 0, 0#64) ⟨by decide, Nat.zero_le _⟩ ⟨rfl, rfl, rfl, rfl, rfl, trivial⟩ _ rfl (fun _ _ => ⟨rfl, rfl, rfl, rfl, rfl, trivial⟩) (fun _ _ => blk_inb rfl) ?_
        intro ⟨i, b, u⟩ ⟨hs, hi⟩
        dsimp only at hs hi ⊢
        have hsb := (saneM_iff b u).1 hs
        refine cseq ?_
        refine cseq ?_
        refine cregion ?_
        first | (refine sv rfl (opv_mv rfl) ?_) | (refine sv rfl (opv_mvt rfl) ?_)
        first | (refine sv rfl (opv_mv rfl) ?_) | (refine sv rfl (opv_mvt rfl) ?_)
        first | (refine sv rfl (opv_len_sl si39 rfl) ?_) | (refine sv rfl (opv_len_nil si39 rfl) ?_) | (refine sv rfl (opv_len_ls si39 rfl rfl (by first | rfl | omega)) ?_)
        refine sv rfl (opv_lss rfl rfl) ?_
        refine snil ?_
        refine ccond rfl (fun hc2 => ?_) (fun hc2 => ?_)
        · replace hc2 := of_decide_eq_true hc2
          obtain ⟨x, hx⟩ : ∃ x, xs[i]? = some x := ⟨_, List.getElem?_eq_getElem (by omega)⟩
          have hxr := hxs x (List.mem_of_getElem? hx)
          first
          | (exfalso; first | omega | contradiction | (rw [s4] at hc2; contradiction) | (rw [w2] at hc2; contradiction))
          | (
              refine cskip ?_
              refine then_normal ?_
              refine cseq ?_
              refine cblock ?_
              refine cseq ?_
              refine cdraw_as (zl := [.i .i64 0, .i .u64 0]) 10 9 mixed (by kernel_rfl) rfl rfl (by kernel_rfl) sz26 zi26 ?_
              first | (refine mv rfl (opv_loadN ti26 rfl (.lp _ _ _ rfl) (Nat.le_of_ble_eq_true rfl)) ?_) | (refine mv rfl (opv_loadN ti26 rfl (.cp _) (Nat.le_of_ble_eq_true rfl)) ?_)
              first | (refine mv rfl (opv_mv rfl) ?_) | (refine mv rfl (opv_mvt rfl) ?_)
              first | (refine mv rfl (opv_mv rfl) ?_) | (refine mv rfl (opv_mvt rfl) ?_)
              first | (refine mv rfl (opv_indexAddr_sl si39 rfl rfl (by omega) (by omega)) ?_) | (refine mv rfl (opv_indexAddr_ls si39 rfl rfl rfl (by first | rfl | omega) (by omega) (by omega)) ?_)
              first | (refine mv rfl (opv_load1 ti3 rfl (.lp _ _ _ rfl) rfl) ?_) | (refine mv rfl (opv_load1 ti3 rfl (.cp _) rfl) ?_) | (refine mv rfl (opv_load1 ti3 rfl (.cp _) (il_drop hx)) ?_) | (refine mv rfl (opv_load1 ti3 rfl (.cp _) (il_drop hy)) ?_) | (refine mv rfl (opv_load1 ti3 rfl (.cp _) (il_drop hx0)) ?_) | (refine mv rfl (opv_load1 ti3 rfl (.ap _ _ _ _ _ _ _ rfl (by first | rfl | omega)) rfl) ?_)
              refine mdd rfl (opD_call fn10 (opnds_cons rfl (opnds_cons rfl opnds_nil)) rfl (accept_c (by omega))) ?_
              first | (refine mv rfl (opv_mv rfl) ?_) | (refine mv rfl (opv_mvt rfl) ?_)
              refine mv rfl (opv_extract rfl rfl) ?_
              refine mv rfl (opv_extract rfl rfl) ?_
              refine mal rfl ?_
              refine mst ?_
              first | (refine mv rfl (opv_as rfl) ?_) | (refine mv rfl (opv_ast rfl) ?_)
              refine mnil ?_
              refine ⟨rfl, rfl, _, rfl, rfl, ?_⟩
              refine then_normal ?_
              refine cseq ?_
              refine cregion ?_
              first | (refine sv rfl (opv_mv rfl) ?_) | (refine sv rfl (opv_mvt rfl) ?_)
              refine sv rfl (opv_ieql rfl rfl) ?_
              refine snil ?_
              refine ccond rfl (fun hc3 => ?_) (fun hc3 => ?_)
              · replace hc3 := of_decide_eq_true hc3
                first
                | (exfalso; first | omega | contradiction | (rw [s4] at hc3; contradiction) | (rw [w2] at hc3; contradiction))
                | (
                    refine cregion ?_
                    first | (refine sv rfl (opv_loadN ti26 rfl (.lp _ _ _ rfl) (Nat.le_of_ble_eq_true rfl)) ?_) | (refine sv rfl (opv_loadN ti26 rfl (.cp _) (Nat.le_of_ble_eq_true rfl)) ?_)
                    first | (refine sstore sz26 rfl rfl rfl rfl (Nat.le_of_ble_eq_true rfl) ?_) | (refine sstore_ap sz26 rfl rfl rfl (by first | rfl | omega) rfl (List.all_eq_true.1 rfl) (by omega) (by omega) ?_)
                    refine snil0 ?_
                    refine block_normal ?_
                    refine then_normal ?_
                    refine cregion ?_
                    first | (refine sv rfl (opv_mv rfl) ?_) | (refine sv rfl (opv_mvt rfl) ?_)
                    refine sv rfl (opv_add_ok rfl rfl (wrap_i64 (by omega) (by omega))) ?_
                    first | (refine sv rfl (opv_as rfl) ?_) | (refine sv rfl (opv_ast rfl) ?_)
                    refine snil ?_
                    first
                      | exact ⟨(i + 1, b, u), _, ⟨hs, by dsimp only; omega⟩, ⟨rfl, rfl, rfl, rfl, rfl, trivial⟩, rfl, by dsimp only; omega⟩
                      | exact ⟨(i + 1, (acceptM b u x).1.1, (acceptM b u x).1.2), _, ⟨(accept_spec hs hc3).1, by dsimp only; omega⟩, ⟨rfl, rfl, rfl, rfl, rfl, trivial⟩, rfl, by dsimp only; omega⟩
                     )
              · replace hc3 := of_decide_eq_false hc3
                first
                | (exfalso; first | omega | contradiction | (rw [s4] at hc3; contradiction) | (rw [w2] at hc3; contradiction))
                | (
                    refine cskip ?_
                    refine block_normal ?_
                    refine then_normal ?_
                    refine cregion ?_
                    first | (refine sv rfl (opv_mv rfl) ?_) | (refine sv rfl (opv_mvt rfl) ?_)
                    refine sv rfl (opv_add_ok rfl rfl (wrap_i64 (by omega) (by omega))) ?_
                    first | (refine sv rfl (opv_as rfl) ?_) | (refine sv rfl (opv_ast rfl) ?_)
                    refine snil ?_
                    first
                      | exact ⟨(i + 1, b, u), _, ⟨hs, by dsimp only; omega⟩, ⟨rfl, rfl, rfl, rfl, rfl, trivial⟩, rfl, by dsimp only; omega⟩
                      | exact ⟨(i + 1, (acceptM b u x).1.1, (acceptM b u x).1.2), _, ⟨(accept_spec hs hc3).1, by dsimp only; omega⟩, ⟨rfl, rfl, rfl, rfl, rfl, trivial⟩, rfl, by dsimp only; omega⟩
                     ))
        · replace hc2 := of_decide_eq_false hc2
          first
          | (exfalso; first | omega | contradiction | (rw [s4] at hc2; contradiction) | (rw [w2] at hc2; contradiction))
          | (
              refine cexit ?_
              refine then_exit ?_
              refine then_exit ?_
              refine block_hit ?_
              refine then_normal ?_
              refine cseq ?_
              refine cregion ?_
              first | (refine sv rfl (opv_loadN ti26 rfl (.lp _ _ _ rfl) (Nat.le_of_ble_eq_true rfl)) ?_) | (refine sv rfl (opv_loadN ti26 rfl (.cp _) (Nat.le_of_ble_eq_true rfl)) ?_)
              refine scall1 rfl fn18 (opnds_cons rfl (opnds_cons rfl opnds_nil)) (pubA_id rfl) (missing_c (by omega)) ?_
              first | (refine sv rfl (opv_as rfl) ?_) | (refine sv rfl (opv_ast rfl) ?_)
              refine snil ?_
              refine cseq ?_
              refine cregion ?_
              first | (refine sv rfl (opv_as rfl) ?_) | (refine sv rfl (opv_ast rfl) ?_)
              refine snil ?_
              refine cseq ?_
              refine cseq ?_
              refine cregion ?_
              first | (refine sv rfl (opv_as rfl) ?_) | (refine sv rfl (opv_ast rfl) ?_)
              refine snil ?_
              refine cblock ?_
              have hms := miss_all hs
              obtain ⟨M, hM⟩ : ∃ M, M = missM b u 64 := ⟨_, rfl⟩
              rw [← hM]
              rw [hms] at hM
              replace hM : M = unseenM b u 64 ∧ True := ⟨hM, trivial⟩
              clear hms
              have hL : M.length ≤ 64 := by rw [hM.1]; exact unseen_len b u 64
              refine awc_loop (G := Nat) (fun j => [(1, .s (.one (.i .i64 k))), (5, .s (.one (.b true))), (6, .s (.one (.lp 0 0))), (10, .s (.one (.sl M.length (il M)))), (11, .s (.one (.i .i64 ((unseenM b u j).length : Int)))), (12, .s (.one (.i .i64 (j : Int))))]) (fun j => [.box (wsv b u).cells]) (fun j => j ≤ 64) (fun j => 64 - j) 0 (Nat.zero_le _) ⟨rfl, rfl, rfl, rfl, rfl, rfl, trivial⟩ _ rfl (fun _ _ => ⟨rfl, rfl, rfl, rfl, rfl, rfl, trivial⟩) (fun _ _ => blk_inb rfl) ?_
              intro j hj
              have hul := unseen_len b u j
              refine cseq ?_
              refine cseq ?_
              refine cregion ?_
              first | (refine sv rfl (opv_mv rfl) ?_) | (refine sv rfl (opv_mvt rfl) ?_)
              refine sv rfl (opv_lss rfl rfl) ?_
              refine snil ?_
              refine ccond rfl (fun hc4 => ?_) (fun hc4 => ?_)
              · replace hc4 := of_decide_eq_true hc4
                first
                | (exfalso; first | omega | contradiction | (rw [s4] at hc4; contradiction) | (rw [w2] at hc4; contradiction))
                | (
                    refine cskip ?_
                    refine then_normal ?_
                    refine cseq ?_
                    refine cblock ?_
                    refine cseq ?_
                    refine cregion ?_
                    first | (refine sv rfl (opv_loadN ti26 rfl (.lp _ _ _ rfl) (Nat.le_of_ble_eq_true rfl)) ?_) | (refine sv rfl (opv_loadN ti26 rfl (.cp _) (Nat.le_of_ble_eq_true rfl)) ?_)
                    first | (refine sv rfl (opv_fieldAddr_lp fi26_0 rfl) ?_) | (refine sv rfl (opv_fieldAddr_cp fi26_0 rfl) ?_) | (refine sv rfl (opv_fieldAddr_ap fi26_0 rfl rfl (by first | rfl | omega)) ?_)
                    first | (refine sv rfl (opv_load1 ti3 rfl (.lp _ _ _ rfl) rfl) ?_) | (refine sv rfl (opv_load1 ti3 rfl (.cp _) rfl) ?_) | (refine sv rfl (opv_load1 ti3 rfl (.cp _) (il_drop hx)) ?_) | (refine sv rfl (opv_load1 ti3 rfl (.cp _) (il_drop hy)) ?_) | (refine sv rfl (opv_load1 ti3 rfl (.cp _) (il_drop hx0)) ?_) | (refine sv rfl (opv_load1 ti3 rfl (.ap _ _ _ _ _ _ _ rfl (by first | rfl | omega)) rfl) ?_)
                    first | (refine sv rfl (opv_mv rfl) ?_) | (refine sv rfl (opv_mvt rfl) ?_)
                    refine sv rfl (opv_add_ok rfl rfl (wrap_i64 (by omega) (by omega))) ?_
                    refine scall1 rfl fn15 (opnds_cons rfl (opnds_cons rfl opnds_nil)) (pubA_id rfl) (seen_c (by omega)) ?_
                    refine sv rfl (opv_not rfl) ?_
                    first | (refine sv rfl (opv_mv rfl) ?_) | (refine sv rfl (opv_mvt rfl) ?_)
                    refine ssplit 54 rfl (fun hg5 => ?_) (fun hg5 => ?_)
                    · replace hg5 := bnot_t hg5
                      first
                      | (exfalso; first | omega | contradiction | (rw [s4] at hg5; contradiction) | (rw [w2] at hg5; contradiction))
                      | (
                          refine son rfl rfl rfl ?_
                          first | (refine sv rfl (opv_fieldAddr_lp fi26_0 rfl) ?_) | (refine sv rfl (opv_fieldAddr_cp fi26_0 rfl) ?_) | (refine sv rfl (opv_fieldAddr_ap fi26_0 rfl rfl (by first | rfl | omega)) ?_)
                          refine son rfl rfl rfl ?_
                          first | (refine sv rfl (opv_load1 ti3 rfl (.lp _ _ _ rfl) rfl) ?_) | (refine sv rfl (opv_load1 ti3 rfl (.cp _) rfl) ?_) | (refine sv rfl (opv_load1 ti3 rfl (.cp _) (il_drop hx)) ?_) | (refine sv rfl (opv_load1 ti3 rfl (.cp _) (il_drop hy)) ?_) | (refine sv rfl (opv_load1 ti3 rfl (.cp _) (il_drop hx0)) ?_) | (refine sv rfl (opv_load1 ti3 rfl (.ap _ _ _ _ _ _ _ rfl (by first | rfl | omega)) rfl) ?_)
                          refine son rfl rfl rfl ?_
                          first | (refine sv rfl (opv_mv rfl) ?_) | (refine sv rfl (opv_mvt rfl) ?_)
                          refine son rfl rfl rfl ?_
                          refine sv rfl (opv_add_ok rfl rfl (wrap_i64 (by omega) (by omega))) ?_
                          refine son rfl rfl rfl ?_
                          refine sv rfl (opv_lss rfl rfl) ?_
                          first | (refine sv rfl (opv_pick_t rfl rfl) ?_) | (refine sv rfl (opv_pick_f rfl rfl) ?_)
                          refine snil ?_
                          refine ccond rfl (fun hc6 => ?_) (fun hc6 => ?_)
                          · replace hc6 := of_decide_eq_true hc6
                            have hbit : u.getLsbD j = false := by rw [← seen_digit hs (by omega) hc6]; assumption
                            have hx := unseen_get (b := b) (u := u) (i := j) (by omega) ⟨by omega, hbit⟩
                            rw [← hM.1] at hx
                            have hlt : (unseenM b u j).length < M.length := (List.getElem?_eq_some_iff.1 hx).1
                            have hnx : unseenM b u (j + 1) = unseenM b u j ++ [b + (j : Int)] := by rw [unseenM, if_pos ⟨by omega, hbit⟩]
                            first
                            | (exfalso; first | omega | contradiction | (rw [s4] at hc6; contradiction) | (rw [w2] at hc6; contradiction))
                            | (
                                refine cseq ?_
                                refine cseq ?_
                                refine cdraw mixed (by kernel_rfl) ?_
                                first | (refine dv rfl (opv_mv rfl) ?_) | (refine dv rfl (opv_mvt rfl) ?_)
                                first | (refine dv rfl (opv_mv rfl) ?_) | (refine dv rfl (opv_mvt rfl) ?_)
                                first | (refine dv rfl (opv_len_sl si39 rfl) ?_) | (refine dv rfl (opv_len_nil si39 rfl) ?_) | (refine dv rfl (opv_len_ls si39 rfl rfl (by first | rfl | omega)) ?_)
                                refine dv rfl (opv_geq rfl rfl) ?_
                                first | (refine dv rfl (opv_mv rfl) ?_) | (refine dv rfl (opv_mvt rfl) ?_)
                                refine dsplit 65 rfl (fun hg7 => ?_) (fun hg7 => ?_)
                                · replace hg7 := of_decide_eq_true hg7
                                  first
                                  | (exfalso; first | omega | contradiction | (rw [s4] at hg7; contradiction) | (rw [w2] at hg7; contradiction))
                                  | (
                                      refine doff rfl rfl rfl rfl ?_
                                      refine doff rfl rfl rfl rfl ?_
                                      refine doff rfl rfl rfl rfl ?_
                                      refine doff rfl rfl rfl rfl ?_
                                      refine doff rfl rfl rfl rfl ?_
                                      refine doff rfl rfl rfl rfl ?_
                                      refine doff rfl rfl rfl rfl ?_
                                      refine doff rfl rfl rfl rfl ?_
                                      refine doff rfl rfl rfl rfl ?_
                                      first | (refine dv rfl (opv_pick_t rfl rfl) ?_) | (refine dv rfl (opv_pick_f rfl rfl) ?_)
                                      refine dnil ?_
                                      refine then_normal ?_
                                      refine ccond rfl (fun _ => ?_) (fun hx => Bool.noConfusion hx)
                                      refine cseq ?_
                                      refine cregion ?_
                                      first | (refine sv rfl (opv_as rfl) ?_) | (refine sv rfl (opv_ast rfl) ?_)
                                      refine snil ?_
                                      refine cret ?_
                                      refine then_ret ?_
                                      refine block_ret ?_
                                      refine then_ret ?_
                                      refine then_ret ?_
                                      refine block_ret ?_
                                      refine then_ret ?_
                                      refine ⟨Or.inr rfl, _, _, _, (resVs_cons (ResV.tmp _ _ rfl) resVs_nil), (pubA_id rfl), ?_⟩
                                      first | rfl | exact avb (decide_eq_true rfl) | exact avb (decide_eq_true (miss_none b u)))
                                · replace hg7 := of_decide_eq_false hg7
                                  first
                                  | (exfalso; first | omega | contradiction | (rw [s4] at hg7; contradiction) | (rw [w2] at hg7; contradiction))
                                  | (
                                      first | (refine dvg rfl rfl rfl (opv_mv rfl) ?_) | (refine dvg rfl rfl rfl (opv_mvt rfl) ?_)
                                      first | (refine dvg rfl rfl rfl (opv_mv rfl) ?_) | (refine dvg rfl rfl rfl (opv_mvt rfl) ?_)
                                      first | (refine dvg rfl rfl rfl (opv_indexAddr_sl si39 rfl rfl (by omega) (by omega)) ?_) | (refine dvg rfl rfl rfl (opv_indexAddr_ls si39 rfl rfl rfl (by first | rfl | omega) (by omega) (by omega)) ?_)
                                      first | (refine dvg rfl rfl rfl (opv_load1 ti3 rfl (.lp _ _ _ rfl) rfl) ?_) | (refine dvg rfl rfl rfl (opv_load1 ti3 rfl (.cp _) rfl) ?_) | (refine dvg rfl rfl rfl (opv_load1 ti3 rfl (.cp _) (il_drop hx)) ?_) | (refine dvg rfl rfl rfl (opv_load1 ti3 rfl (.cp _) (il_drop hy)) ?_) | (refine dvg rfl rfl rfl (opv_load1 ti3 rfl (.cp _) (il_drop hx0)) ?_) | (refine dvg rfl rfl rfl (opv_load1 ti3 rfl (.ap _ _ _ _ _ _ _ rfl (by first | rfl | omega)) rfl) ?_)
                                      first | (refine dvg rfl rfl rfl (opv_fieldAddr_lp fi26_0 rfl) ?_) | (refine dvg rfl rfl rfl (opv_fieldAddr_cp fi26_0 rfl) ?_) | (refine dvg rfl rfl rfl (opv_fieldAddr_ap fi26_0 rfl rfl (by first | rfl | omega)) ?_)
                                      first | (refine dvg rfl rfl rfl (opv_load1 ti3 rfl (.lp _ _ _ rfl) rfl) ?_) | (refine dvg rfl rfl rfl (opv_load1 ti3 rfl (.cp _) rfl) ?_) | (refine dvg rfl rfl rfl (opv_load1 ti3 rfl (.cp _) (il_drop hx)) ?_) | (refine dvg rfl rfl rfl (opv_load1 ti3 rfl (.cp _) (il_drop hy)) ?_) | (refine dvg rfl rfl rfl (opv_load1 ti3 rfl (.cp _) (il_drop hx0)) ?_) | (refine dvg rfl rfl rfl (opv_load1 ti3 rfl (.ap _ _ _ _ _ _ _ rfl (by first | rfl | omega)) rfl) ?_)
                                      first | (refine dvg rfl rfl rfl (opv_mv rfl) ?_) | (refine dvg rfl rfl rfl (opv_mvt rfl) ?_)
                                      refine dvg rfl rfl rfl (opv_add_ok rfl rfl (wrap_i64 (by omega) (by omega))) ?_
                                      refine dvg rfl rfl rfl (opv_ineq rfl rfl) ?_
                                      first | (refine dv rfl (opv_pick_t rfl rfl) ?_) | (refine dv rfl (opv_pick_f rfl rfl) ?_)
                                      refine dnil ?_
                                      refine then_normal ?_
                                      refine ccond rfl (fun hc8 => ?_) (fun hc8 => ?_)
                                      · replace hc8 := ndec_t hc8
                                        first
                                        | (exfalso; first | omega | contradiction | (rw [s4] at hc8; contradiction) | (rw [w2] at hc8; contradiction))
                                        | (
                                            refine cseq ?_
                                            refine cregion ?_
                                            first | (refine sv rfl (opv_as rfl) ?_) | (refine sv rfl (opv_ast rfl) ?_)
                                            refine snil ?_
                                            refine cret ?_
                                            refine then_ret ?_
                                            refine block_ret ?_
                                            refine then_ret ?_
                                            refine then_ret ?_
                                            refine block_ret ?_
                                            refine then_ret ?_
                                            refine ⟨Or.inr rfl, _, _, _, (resVs_cons (ResV.tmp _ _ rfl) resVs_nil), (pubA_id rfl), ?_⟩
                                            first | rfl | exact avb (decide_eq_true rfl) | exact avb (decide_eq_true (miss_none b u)))
                                      · replace hc8 := ndec_f hc8
                                        first
                                        | (exfalso; first | omega | contradiction | (rw [s4] at hc8; contradiction) | (rw [w2] at hc8; contradiction))
                                        | (
                                            refine cskip ?_
                                            refine then_normal ?_
                                            refine cregion ?_
                                            first | (refine sv rfl (opv_mv rfl) ?_) | (refine sv rfl (opv_mvt rfl) ?_)
                                            refine sv rfl (opv_add_ok rfl rfl (wrap_i64 (by omega) (by omega))) ?_
                                            first | (refine sv rfl (opv_as rfl) ?_) | (refine sv rfl (opv_ast rfl) ?_)
                                            refine snil0 ?_
                                            refine block_normal ?_
                                            refine then_normal ?_
                                            refine cregion ?_
                                            first | (refine sv rfl (opv_mv rfl) ?_) | (refine sv rfl (opv_mvt rfl) ?_)
                                            refine sv rfl (opv_add_ok rfl rfl (wrap_i64 (by omega) (by omega))) ?_
                                            first | (refine sv rfl (opv_as rfl) ?_) | (refine sv rfl (opv_ast rfl) ?_)
                                            refine snil ?_
                                            first
                                              | exact ⟨j + 1, _, by omega, ⟨rfl, rfl, rfl, rfl, congrArg (fun n => AV.s (.one (.i .i64 n))) (by rw [hnx, List.length_append]; rfl), rfl, trivial⟩, rfl, by omega⟩
                                              | exact ⟨j + 1, _, by omega, ⟨rfl, rfl, rfl, rfl, congrArg (fun n => AV.s (.one (.i .i64 n))) (by rw [hnx]), rfl, trivial⟩, rfl, by omega⟩
                                             )))
                          · replace hc6 := of_decide_eq_false hc6
                            have hnx : unseenM b u (j + 1) = unseenM b u j := by rw [unseenM, if_neg (by omega), List.append_nil]
                            first
                            | (exfalso; first | omega | contradiction | (rw [s4] at hc6; contradiction) | (rw [w2] at hc6; contradiction))
                            | (
                                refine cskip ?_
                                refine block_normal ?_
                                refine then_normal ?_
                                refine cregion ?_
                                first | (refine sv rfl (opv_mv rfl) ?_) | (refine sv rfl (opv_mvt rfl) ?_)
                                refine sv rfl (opv_add_ok rfl rfl (wrap_i64 (by omega) (by omega))) ?_
                                first | (refine sv rfl (opv_as rfl) ?_) | (refine sv rfl (opv_ast rfl) ?_)
                                refine snil ?_
                                first
                                  | exact ⟨j + 1, _, by omega, ⟨rfl, rfl, rfl, rfl, congrArg (fun n => AV.s (.one (.i .i64 n))) (by rw [hnx, List.length_append]; rfl), rfl, trivial⟩, rfl, by omega⟩
                                  | exact ⟨j + 1, _, by omega, ⟨rfl, rfl, rfl, rfl, congrArg (fun n => AV.s (.one (.i .i64 n))) (by rw [hnx]), rfl, trivial⟩, rfl, by omega⟩
                                 ))
                    · replace hg5 := bnot_f hg5
                      have hnx : unseenM b u (j + 1) = unseenM b u j := by
                        rw [unseenM, if_neg (fun h => ?_), List.append_nil]
                        have h1 := seen_digit hs (show j < 64 by omega) (show b + (j : Int) < 4294967296 by omega)
                        rw [hg5, h.2] at h1
                        cases h1
                      first
                      | (exfalso; first | omega | contradiction | (rw [s4] at hg5; contradiction) | (rw [w2] at hg5; contradiction))
                      | (
                          refine soff rfl rfl rfl rfl ?_
                          refine soff rfl rfl rfl rfl ?_
                          refine soff rfl rfl rfl rfl ?_
                          refine soff rfl rfl rfl rfl ?_
                          refine soff rfl rfl rfl rfl ?_
                          first | (refine sv rfl (opv_pick_t rfl rfl) ?_) | (refine sv rfl (opv_pick_f rfl rfl) ?_)
                          refine snil ?_
                          refine ccond rfl (fun hx => Bool.noConfusion hx) (fun _ => ?_)
                          refine cskip ?_
                          refine block_normal ?_
                          refine then_normal ?_
                          refine cregion ?_
                          first | (refine sv rfl (opv_mv rfl) ?_) | (refine sv rfl (opv_mvt rfl) ?_)
                          refine sv rfl (opv_add_ok rfl rfl (wrap_i64 (by omega) (by omega))) ?_
                          first | (refine sv rfl (opv_as rfl) ?_) | (refine sv rfl (opv_ast rfl) ?_)
                          refine snil ?_
                          first
                            | exact ⟨j + 1, _, by omega, ⟨rfl, rfl, rfl, rfl, congrArg (fun n => AV.s (.one (.i .i64 n))) (by rw [hnx, List.length_append]; rfl), rfl, trivial⟩, rfl, by omega⟩
                            | exact ⟨j + 1, _, by omega, ⟨rfl, rfl, rfl, rfl, congrArg (fun n => AV.s (.one (.i .i64 n))) (by rw [hnx]), rfl, trivial⟩, rfl, by omega⟩
                           ))
              · replace hc4 := of_decide_eq_false hc4
                have hMj : unseenM b u j = M := by rw [hM.1, show j = 64 by omega]
                rw [hMj]
                first
                | (exfalso; first | omega | contradiction | (rw [s4] at hc4; contradiction) | (rw [w2] at hc4; contradiction))
                | (
                    refine cexit ?_
                    refine then_exit ?_
                    refine then_exit ?_
                    refine block_hit ?_
                    refine then_normal ?_
                    refine cseq ?_
                    refine cseq ?_
                    refine cregion ?_
                    first | (refine sv rfl (opv_mv rfl) ?_) | (refine sv rfl (opv_mvt rfl) ?_)
                    first | (refine sv rfl (opv_mv rfl) ?_) | (refine sv rfl (opv_mvt rfl) ?_)
                    first | (refine sv rfl (opv_len_sl si39 rfl) ?_) | (refine sv rfl (opv_len_nil si39 rfl) ?_) | (refine sv rfl (opv_len_ls si39 rfl rfl (by first | rfl | omega)) ?_)
                    refine sv rfl (opv_ineq rfl rfl) ?_
                    first | (refine sv rfl (opv_mv rfl) ?_) | (refine sv rfl (opv_mvt rfl) ?_)
                    refine ssplit 82 rfl (fun hg9 => ?_) (fun hg9 => ?_)
                    · replace hg9 := ndec_t hg9
                      first
                      | (exfalso; first | omega | contradiction | (rw [s4] at hg9; contradiction) | (rw [w2] at hg9; contradiction))
                      | (
                          refine soff rfl rfl rfl rfl ?_
                          refine soff rfl rfl rfl rfl ?_
                          first | (refine sv rfl (opv_pick_t rfl rfl) ?_) | (refine sv rfl (opv_pick_f rfl rfl) ?_)
                          refine snil ?_
                          refine ccond rfl (fun _ => ?_) (fun hx => Bool.noConfusion hx)
                          refine cseq ?_
                          refine cregion ?_
                          first | (refine sv rfl (opv_mv rfl) ?_) | (refine sv rfl (opv_mvt rfl) ?_)
                          first | (refine sv rfl (opv_mv rfl) ?_) | (refine sv rfl (opv_mvt rfl) ?_)
                          refine ssplit 87 rfl (fun hg10 => ?_) (fun hg10 => ?_)
                          · first
                            | (exfalso; first | omega | contradiction | (rw [s4] at hg10; contradiction) | (rw [w2] at hg10; contradiction))
                            | (
                                refine son rfl rfl rfl ?_
                                first | (refine sv rfl (opv_mv rfl) ?_) | (refine sv rfl (opv_mvt rfl) ?_)
                                refine son rfl rfl rfl ?_
                                first | (refine sv rfl (opv_mv rfl) ?_) | (refine sv rfl (opv_mvt rfl) ?_)
                                refine son rfl rfl rfl ?_
                                first | (refine sv rfl (opv_len_sl si39 rfl) ?_) | (refine sv rfl (opv_len_nil si39 rfl) ?_) | (refine sv rfl (opv_len_ls si39 rfl rfl (by first | rfl | omega)) ?_)
                                refine son rfl rfl rfl ?_
                                refine sv rfl (opv_ieql rfl rfl) ?_
                                first | (refine sv rfl (opv_pick_t rfl rfl) ?_) | (refine sv rfl (opv_pick_f rfl rfl) ?_)
                                first | (refine sv rfl (opv_as rfl) ?_) | (refine sv rfl (opv_ast rfl) ?_)
                                refine snil ?_
                                refine cret ?_
                                refine then_ret ?_
                                refine ⟨Or.inr rfl, _, _, _, (resVs_cons (ResV.tmp _ _ rfl) resVs_nil), (pubA_id rfl), ?_⟩
                                first | rfl | exact avb (decide_eq_true rfl) | exact avb (decide_eq_true (miss_none b u)))
                          · first
                            | (exfalso; first | omega | contradiction | (rw [s4] at hg10; contradiction) | (rw [w2] at hg10; contradiction))
                            | (
                                refine soff rfl rfl rfl rfl ?_
                                refine soff rfl rfl rfl rfl ?_
                                refine soff rfl rfl rfl rfl ?_
                                refine soff rfl rfl rfl rfl ?_
                                first | (refine sv rfl (opv_pick_t rfl rfl) ?_) | (refine sv rfl (opv_pick_f rfl rfl) ?_)
                                first | (refine sv rfl (opv_as rfl) ?_) | (refine sv rfl (opv_ast rfl) ?_)
                                refine snil ?_
                                refine cret ?_
                                refine then_ret ?_
                                refine ⟨Or.inr rfl, _, _, _, (resVs_cons (ResV.tmp _ _ rfl) resVs_nil), (pubA_id rfl), ?_⟩
                                first | rfl | exact avb (decide_eq_true rfl) | exact avb (decide_eq_true (miss_none b u))))
                    · replace hg9 := ndec_f hg9
                      first
                      | (exfalso; first | omega | contradiction | (rw [s4] at hg9; contradiction) | (rw [w2] at hg9; contradiction))
                      | (
                          refine son rfl rfl rfl ?_
                          first | (refine sv rfl (opv_mv rfl) ?_) | (refine sv rfl (opv_mvt rfl) ?_)
                          refine son rfl rfl rfl ?_
                          refine sv rfl (opv_ieql rfl rfl) ?_
                          first | (refine sv rfl (opv_pick_t rfl rfl) ?_) | (refine sv rfl (opv_pick_f rfl rfl) ?_)
                          refine snil ?_
                          refine ccond rfl (fun hc11 => ?_) (fun hc11 => ?_)
                          · replace hc11 := of_decide_eq_true hc11
                            first
                            | (exfalso; first | omega | contradiction | (rw [s4] at hc11; contradiction) | (rw [w2] at hc11; contradiction))
                            | (
                                refine cseq ?_
                                refine cregion ?_
                                first | (refine sv rfl (opv_mv rfl) ?_) | (refine sv rfl (opv_mvt rfl) ?_)
                                first | (refine sv rfl (opv_mv rfl) ?_) | (refine sv rfl (opv_mvt rfl) ?_)
                                refine ssplit 87 rfl (fun hg12 => ?_) (fun hg12 => ?_)
                                · first
                                  | (exfalso; first | omega | contradiction | (rw [s4] at hg12; contradiction) | (rw [w2] at hg12; contradiction))
                                  | (
                                      refine son rfl rfl rfl ?_
                                      first | (refine sv rfl (opv_mv rfl) ?_) | (refine sv rfl (opv_mvt rfl) ?_)
                                      refine son rfl rfl rfl ?_
                                      first | (refine sv rfl (opv_mv rfl) ?_) | (refine sv rfl (opv_mvt rfl) ?_)
                                      refine son rfl rfl rfl ?_
                                      first | (refine sv rfl (opv_len_sl si39 rfl) ?_) | (refine sv rfl (opv_len_nil si39 rfl) ?_) | (refine sv rfl (opv_len_ls si39 rfl rfl (by first | rfl | omega)) ?_)
                                      refine son rfl rfl rfl ?_
                                      refine sv rfl (opv_ieql rfl rfl) ?_
                                      first | (refine sv rfl (opv_pick_t rfl rfl) ?_) | (refine sv rfl (opv_pick_f rfl rfl) ?_)
                                      first | (refine sv rfl (opv_as rfl) ?_) | (refine sv rfl (opv_ast rfl) ?_)
                                      refine snil ?_
                                      refine cret ?_
                                      refine then_ret ?_
                                      refine ⟨Or.inr rfl, _, _, _, (resVs_cons (ResV.tmp _ _ rfl) resVs_nil), (pubA_id rfl), ?_⟩
                                      first | rfl | exact avb (decide_eq_true rfl) | exact avb (decide_eq_true (miss_none b u)))
                                · first
                                  | (exfalso; first | omega | contradiction | (rw [s4] at hg12; contradiction) | (rw [w2] at hg12; contradiction))
                                  | (
                                      refine soff rfl rfl rfl rfl ?_
                                      refine soff rfl rfl rfl rfl ?_
                                      refine soff rfl rfl rfl rfl ?_
                                      refine soff rfl rfl rfl rfl ?_
                                      first | (refine sv rfl (opv_pick_t rfl rfl) ?_) | (refine sv rfl (opv_pick_f rfl rfl) ?_)
                                      first | (refine sv rfl (opv_as rfl) ?_) | (refine sv rfl (opv_ast rfl) ?_)
                                      refine snil ?_
                                      refine cret ?_
                                      refine then_ret ?_
                                      refine ⟨Or.inr rfl, _, _, _, (resVs_cons (ResV.tmp _ _ rfl) resVs_nil), (pubA_id rfl), ?_⟩
                                      first | rfl | exact avb (decide_eq_true rfl) | exact avb (decide_eq_true (miss_none b u))))
                          · replace hc11 := of_decide_eq_false hc11
                            first
                            | (exfalso; first | omega | contradiction | (rw [s4] at hc11; contradiction) | (rw [w2] at hc11; contradiction))
                            | (
                                refine cskip ?_
                                refine then_normal ?_
                                refine cseq ?_
                                refine cregion ?_
                                first | (refine sv rfl (opv_mv rfl) ?_) | (refine sv rfl (opv_mvt rfl) ?_)
                                refine sv rfl (opv_andc rfl rfl) ?_
                                obtain ⟨hk1, hk2⟩ := imask_le k (m := 65535) (by omega) (by omega)
                                first | (refine sv rfl (opv_mv rfl) ?_) | (refine sv rfl (opv_mvt rfl) ?_)
                                refine sv rfl (opv_rem rfl rfl (by omega)) ?_
                                have hq0 := Int.tmod_nonneg (M.length : Int) hk1
                                have hq1 := Int.tmod_lt_of_pos (imask k 65535) (show 0 < (M.length : Int) by omega)
                                obtain ⟨q, hq⟩ : ∃ q : Nat, (imask k 65535).tmod (M.length : Int) = q := ⟨_, (Int.toNat_of_nonneg hq0).symm⟩
                                rw [hq] at hq0 hq1 ⊢
                                obtain ⟨x, hx⟩ : ∃ x, M[q]? = some x := ⟨_, List.getElem?_eq_getElem (by omega)⟩
                                have hxm : x ∈ unseenM b u 64 := hM.1 ▸ List.mem_of_getElem? hx
                                obtain ⟨w1, w2, w3, w4⟩ := unseen_not hs hxm
                                clear hxm
                                obtain ⟨z1, z2⟩ := accept_zero hs w1 w2 w3
                                obtain ⟨s1, _, s3⟩ := accept_spec hs z1
                                have hsx := (saneM_iff _ _).1 s1
                                have s4 := s3 x
                                rw [decide_eq_true rfl, Bool.true_or] at s4
                                first | (refine sv rfl (opv_as rfl) ?_) | (refine sv rfl (opv_ast rfl) ?_)
                                refine snil ?_
                                refine cseq ?_
                                refine cdraw_as (zl := [.i .i64 0, .i .u64 0]) 10 9 mixed (by kernel_rfl) rfl rfl (by kernel_rfl) sz26 zi26 ?_
                                first | (refine mv rfl (opv_loadN ti26 rfl (.lp _ _ _ rfl) (Nat.le_of_ble_eq_true rfl)) ?_) | (refine mv rfl (opv_loadN ti26 rfl (.cp _) (Nat.le_of_ble_eq_true rfl)) ?_)
                                first | (refine mv rfl (opv_mv rfl) ?_) | (refine mv rfl (opv_mvt rfl) ?_)
                                first | (refine mv rfl (opv_mv rfl) ?_) | (refine mv rfl (opv_mvt rfl) ?_)
                                first | (refine mv rfl (opv_indexAddr_sl si39 rfl rfl (by omega) (by omega)) ?_) | (refine mv rfl (opv_indexAddr_ls si39 rfl rfl rfl (by first | rfl | omega) (by omega) (by omega)) ?_)
                                first | (refine mv rfl (opv_load1 ti3 rfl (.lp _ _ _ rfl) rfl) ?_) | (refine mv rfl (opv_load1 ti3 rfl (.cp _) rfl) ?_) | (refine mv rfl (opv_load1 ti3 rfl (.cp _) (il_drop hx)) ?_) | (refine mv rfl (opv_load1 ti3 rfl (.cp _) (il_drop hy)) ?_) | (refine mv rfl (opv_load1 ti3 rfl (.cp _) (il_drop hx0)) ?_) | (refine mv rfl (opv_load1 ti3 rfl (.ap _ _ _ _ _ _ _ rfl (by first | rfl | omega)) rfl) ?_)
                                refine mdd rfl (opD_call fn10 (opnds_cons rfl (opnds_cons rfl opnds_nil)) rfl (accept_c (by omega))) ?_
                                obtain ⟨⟨⟨b2, u2⟩, e2⟩, hacc⟩ : ∃ r, acceptM b u x = r := ⟨_, rfl⟩
                                rw [hacc] at z1 z2 s1 s3 s4 hsx ⊢
                                dsimp only at z1 z2 s1 s3 s4 hsx ⊢
                                first | (refine mv rfl (opv_mv rfl) ?_) | (refine mv rfl (opv_mvt rfl) ?_)
                                refine mv rfl (opv_extract rfl rfl) ?_
                                refine mv rfl (opv_extract rfl rfl) ?_
                                refine mal rfl ?_
                                refine mst ?_
                                first | (refine mv rfl (opv_as rfl) ?_) | (refine mv rfl (opv_ast rfl) ?_)
                                refine mnil ?_
                                refine ⟨rfl, rfl, _, rfl, rfl, ?_⟩
                                refine then_normal ?_
                                refine cseq ?_
                                refine cregion ?_
                                first | (refine sv rfl (opv_loadN ti26 rfl (.lp _ _ _ rfl) (Nat.le_of_ble_eq_true rfl)) ?_) | (refine sv rfl (opv_loadN ti26 rfl (.cp _) (Nat.le_of_ble_eq_true rfl)) ?_)
                                refine scall1 rfl fn18 (opnds_cons rfl (opnds_cons rfl opnds_nil)) (pubA_id rfl) (missing_c (by omega)) ?_
                                obtain ⟨M2, hM2⟩ : ∃ M2, M2 = missM b2 u2 1 ∧ True := ⟨_, rfl, trivial⟩
                                rw [← hM2.1]
                                first | (refine sv rfl (opv_as rfl) ?_) | (refine sv rfl (opv_ast rfl) ?_)
                                refine snil ?_
                                refine cseq ?_
                                refine cdraw mixed (by kernel_rfl) ?_
                                first | (refine dv rfl (opv_mv rfl) ?_) | (refine dv rfl (opv_mvt rfl) ?_)
                                first | (refine dv rfl (opv_mv rfl) ?_) | (refine dv rfl (opv_mvt rfl) ?_)
                                refine dsplit 109 rfl (fun hg13 => ?_) (fun hg13 => ?_)
                                · first
                                  | (exfalso; first | omega | contradiction | (rw [s4] at hg13; contradiction) | (rw [w2] at hg13; contradiction))
                                  | (
                                      first | (refine dvg rfl rfl rfl (opv_mv rfl) ?_) | (refine dvg rfl rfl rfl (opv_mvt rfl) ?_)
                                      refine dvg rfl rfl rfl (opv_ieql rfl rfl) ?_
                                      first | (refine dv rfl (opv_pick_t rfl rfl) ?_) | (refine dv rfl (opv_pick_f rfl rfl) ?_)
                                      first | (refine dv rfl (opv_mv rfl) ?_) | (refine dv rfl (opv_mvt rfl) ?_)
                                      refine dsplit 113 rfl (fun hg14 => ?_) (fun hg14 => ?_)
                                      · replace hg14 := of_decide_eq_true hg14
                                        first
                                        | (exfalso; first | omega | contradiction | (rw [s4] at hg14; contradiction) | (rw [w2] at hg14; contradiction))
                                        | (
                                            first | (refine dvg rfl rfl rfl (opv_loadN ti26 rfl (.lp _ _ _ rfl) (Nat.le_of_ble_eq_true rfl)) ?_) | (refine dvg rfl rfl rfl (opv_loadN ti26 rfl (.cp _) (Nat.le_of_ble_eq_true rfl)) ?_)
                                            first | (refine dvg rfl rfl rfl (opv_mv rfl) ?_) | (refine dvg rfl rfl rfl (opv_mvt rfl) ?_)
                                            first | (refine dvg rfl rfl rfl (opv_mv rfl) ?_) | (refine dvg rfl rfl rfl (opv_mvt rfl) ?_)
                                            first | (refine dvg rfl rfl rfl (opv_indexAddr_sl si39 rfl rfl (by omega) (by omega)) ?_) | (refine dvg rfl rfl rfl (opv_indexAddr_ls si39 rfl rfl rfl (by first | rfl | omega) (by omega) (by omega)) ?_)
                                            first | (refine dvg rfl rfl rfl (opv_load1 ti3 rfl (.lp _ _ _ rfl) rfl) ?_) | (refine dvg rfl rfl rfl (opv_load1 ti3 rfl (.cp _) rfl) ?_) | (refine dvg rfl rfl rfl (opv_load1 ti3 rfl (.cp _) (il_drop hx)) ?_) | (refine dvg rfl rfl rfl (opv_load1 ti3 rfl (.cp _) (il_drop hy)) ?_) | (refine dvg rfl rfl rfl (opv_load1 ti3 rfl (.cp _) (il_drop hx0)) ?_) | (refine dvg rfl rfl rfl (opv_load1 ti3 rfl (.ap _ _ _ _ _ _ _ rfl (by first | rfl | omega)) rfl) ?_)
                                            refine ddg rfl rfl rfl (opD_call fn15 (opnds_cons rfl (opnds_cons rfl opnds_nil)) rfl (seen_c (by omega))) ?_
                                            first | (refine dv rfl (opv_pick_t rfl rfl) ?_) | (refine dv rfl (opv_pick_f rfl rfl) ?_)
                                            first | (refine dv rfl (opv_mv rfl) ?_) | (refine dv rfl (opv_mvt rfl) ?_)
                                            refine dsplit 121 rfl (fun hg15 => ?_) (fun hg15 => ?_)
                                            · first
                                              | (exfalso; first | omega | contradiction | (rw [s4] at hg15; contradiction) | (rw [w2] at hg15; contradiction))
                                              | (
                                                  first | (refine dvg rfl rfl rfl (opv_loadN ti26 rfl (.lp _ _ _ rfl) (Nat.le_of_ble_eq_true rfl)) ?_) | (refine dvg rfl rfl rfl (opv_loadN ti26 rfl (.cp _) (Nat.le_of_ble_eq_true rfl)) ?_)
                                                  first | (refine dvg rfl rfl rfl (opv_mv rfl) ?_) | (refine dvg rfl rfl rfl (opv_mvt rfl) ?_)
                                                  first | (refine dvg rfl rfl rfl (opv_mv rfl) ?_) | (refine dvg rfl rfl rfl (opv_mvt rfl) ?_)
                                                  first | (refine dvg rfl rfl rfl (opv_indexAddr_sl si39 rfl rfl (by omega) (by omega)) ?_) | (refine dvg rfl rfl rfl (opv_indexAddr_ls si39 rfl rfl rfl (by first | rfl | omega) (by omega) (by omega)) ?_)
                                                  first | (refine dvg rfl rfl rfl (opv_load1 ti3 rfl (.lp _ _ _ rfl) rfl) ?_) | (refine dvg rfl rfl rfl (opv_load1 ti3 rfl (.cp _) rfl) ?_) | (refine dvg rfl rfl rfl (opv_load1 ti3 rfl (.cp _) (il_drop hx)) ?_) | (refine dvg rfl rfl rfl (opv_load1 ti3 rfl (.cp _) (il_drop hy)) ?_) | (refine dvg rfl rfl rfl (opv_load1 ti3 rfl (.cp _) (il_drop hx0)) ?_) | (refine dvg rfl rfl rfl (opv_load1 ti3 rfl (.ap _ _ _ _ _ _ _ rfl (by first | rfl | omega)) rfl) ?_)
                                                  refine ddg rfl rfl rfl (opD_call fn15 (opnds_cons rfl (opnds_cons rfl opnds_nil)) rfl (seen_c (by omega))) ?_
                                                  refine dvg rfl rfl rfl (opv_not rfl) ?_
                                                  first | (refine dv rfl (opv_pick_t rfl rfl) ?_) | (refine dv rfl (opv_pick_f rfl rfl) ?_)
                                                  first | (refine dv rfl (opv_mv rfl) ?_) | (refine dv rfl (opv_mvt rfl) ?_)
                                                  refine dsplit 130 rfl (fun hg16 => ?_) (fun hg16 => ?_)
                                                  · replace hg16 := bnot_t hg16
                                                    first
                                                    | (exfalso; first | omega | contradiction | (rw [s4] at hg16; contradiction) | (rw [w2] at hg16; contradiction))
                                                    | (
                                                        first | (refine dvg rfl rfl rfl (opv_mv rfl) ?_) | (refine dvg rfl rfl rfl (opv_mvt rfl) ?_)
                                                        refine dvg rfl rfl rfl (opv_gtr rfl rfl) ?_
                                                        first | (refine dvg rfl rfl rfl (opv_mv rfl) ?_) | (refine dvg rfl rfl rfl (opv_mvt rfl) ?_)
                                                        refine dsplit 133 rfl (fun hg17 => ?_) (fun hg17 => ?_)
                                                        · replace hg17 := of_decide_eq_true hg17
                                                          first
                                                          | (exfalso; first | omega | contradiction | (rw [s4] at hg17; contradiction) | (rw [w2] at hg17; contradiction))
                                                          | (
                                                              refine doff rfl rfl rfl rfl ?_
                                                              refine doff rfl rfl rfl rfl ?_
                                                              refine doff rfl rfl rfl rfl ?_
                                                              first | (refine dvg rfl rfl rfl (opv_pick_t rfl rfl) ?_) | (refine dvg rfl rfl rfl (opv_pick_f rfl rfl) ?_)
                                                              first | (refine dvg rfl rfl rfl (opv_mv rfl) ?_) | (refine dvg rfl rfl rfl (opv_mvt rfl) ?_)
                                                              refine doff rfl rfl rfl rfl ?_
                                                              refine doff rfl rfl rfl rfl ?_
                                                              refine doff rfl rfl rfl rfl ?_
                                                              refine doff rfl rfl rfl rfl ?_
                                                              refine doff rfl rfl rfl rfl ?_
                                                              refine doff rfl rfl rfl rfl ?_
                                                              refine doff rfl rfl rfl rfl ?_
                                                              first | (refine dvg rfl rfl rfl (opv_pick_t rfl rfl) ?_) | (refine dvg rfl rfl rfl (opv_pick_f rfl rfl) ?_)
                                                              first | (refine dv rfl (opv_pick_t rfl rfl) ?_) | (refine dv rfl (opv_pick_f rfl rfl) ?_)
                                                              first | (refine dv rfl (opv_mv rfl) ?_) | (refine dv rfl (opv_mvt rfl) ?_)
                                                              first | (refine dvg rfl rfl rfl (opv_loadN ti26 rfl (.lp _ _ _ rfl) (Nat.le_of_ble_eq_true rfl)) ?_) | (refine dvg rfl rfl rfl (opv_loadN ti26 rfl (.cp _) (Nat.le_of_ble_eq_true rfl)) ?_)
                                                              refine ddg rfl rfl rfl (opD_call fn18 (opnds_cons rfl (opnds_cons rfl opnds_nil)) rfl (missing_c (by omega))) ?_
                                                              refine ddg rfl rfl rfl (opD_call fn17 (opnds_cons rfl (opnds_cons rfl opnds_nil)) rfl (nil_arg2 (ints_c (xs := missM b u 0) (ys := []) (by rw [miss_none]; exact Nat.zero_le _)))) ?_
                                                              first | (refine dv rfl (opv_pick_t rfl rfl) ?_) | (refine dv rfl (opv_pick_f rfl rfl) ?_)
                                                              first | (refine dv rfl (opv_as rfl) ?_) | (refine dv rfl (opv_ast rfl) ?_)
                                                              refine dnil ?_
                                                              refine then_normal ?_
                                                              refine cret ?_
                                                              refine ⟨Or.inr rfl, _, _, _, (resVs_cons (ResV.tmp _ _ rfl) resVs_nil), (pubA_id rfl), ?_⟩
                                                              first | rfl | exact avb (decide_eq_true rfl) | exact avb (decide_eq_true (miss_none b u)))
                                                        · replace hg17 := of_decide_eq_false hg17
                                                          have hx0 : M[0]? = some x := by
                                                            have e : q = 0 := by omega
                                                            subst e
                                                            exact hx
                                                          first
                                                          | (exfalso; first | omega | contradiction | (rw [s4] at hg17; contradiction) | (rw [w2] at hg17; contradiction))
                                                          | (
                                                              first | (refine dvg rfl rfl rfl (opv_mv rfl) ?_) | (refine dvg rfl rfl rfl (opv_mvt rfl) ?_)
                                                              first | (refine dvg rfl rfl rfl (opv_len_sl si39 rfl) ?_) | (refine dvg rfl rfl rfl (opv_len_nil si39 rfl) ?_) | (refine dvg rfl rfl rfl (opv_len_ls si39 rfl rfl (by first | rfl | omega)) ?_)
                                                              refine dvg rfl rfl rfl (opv_ieql rfl rfl) ?_
                                                              first | (refine dvg rfl rfl rfl (opv_pick_t rfl rfl) ?_) | (refine dvg rfl rfl rfl (opv_pick_f rfl rfl) ?_)
                                                              first | (refine dvg rfl rfl rfl (opv_mv rfl) ?_) | (refine dvg rfl rfl rfl (opv_mvt rfl) ?_)
                                                              refine dsplit 138 rfl (fun hg18 => ?_) (fun hg18 => ?_)
                                                              · replace hg18 := of_decide_eq_true hg18
                                                                first
                                                                | (exfalso; first | omega | contradiction | (rw [s4] at hg18; contradiction) | (rw [w2] at hg18; contradiction))
                                                                | (
                                                                    refine doff rfl rfl rfl rfl ?_
                                                                    refine doff rfl rfl rfl rfl ?_
                                                                    refine doff rfl rfl rfl rfl ?_
                                                                    refine doff rfl rfl rfl rfl ?_
                                                                    refine doff rfl rfl rfl rfl ?_
                                                                    refine doff rfl rfl rfl rfl ?_
                                                                    refine doff rfl rfl rfl rfl ?_
                                                                    first | (refine dvg rfl rfl rfl (opv_pick_t rfl rfl) ?_) | (refine dvg rfl rfl rfl (opv_pick_f rfl rfl) ?_)
                                                                    first | (refine dv rfl (opv_pick_t rfl rfl) ?_) | (refine dv rfl (opv_pick_f rfl rfl) ?_)
                                                                    first | (refine dv rfl (opv_mv rfl) ?_) | (refine dv rfl (opv_mvt rfl) ?_)
                                                                    first | (refine dvg rfl rfl rfl (opv_loadN ti26 rfl (.lp _ _ _ rfl) (Nat.le_of_ble_eq_true rfl)) ?_) | (refine dvg rfl rfl rfl (opv_loadN ti26 rfl (.cp _) (Nat.le_of_ble_eq_true rfl)) ?_)
                                                                    refine ddg rfl rfl rfl (opD_call fn18 (opnds_cons rfl (opnds_cons rfl opnds_nil)) rfl (missing_c (by omega))) ?_
                                                                    refine ddg rfl rfl rfl (opD_call fn17 (opnds_cons rfl (opnds_cons rfl opnds_nil)) rfl (nil_arg2 (ints_c (xs := missM b u 0) (ys := []) (by rw [miss_none]; exact Nat.zero_le _)))) ?_
                                                                    first | (refine dv rfl (opv_pick_t rfl rfl) ?_) | (refine dv rfl (opv_pick_f rfl rfl) ?_)
                                                                    first | (refine dv rfl (opv_as rfl) ?_) | (refine dv rfl (opv_ast rfl) ?_)
                                                                    refine dnil ?_
                                                                    refine then_normal ?_
                                                                    refine cret ?_
                                                                    refine ⟨Or.inr rfl, _, _, _, (resVs_cons (ResV.tmp _ _ rfl) resVs_nil), (pubA_id rfl), ?_⟩
                                                                    first | rfl | exact avb (decide_eq_true rfl) | exact avb (decide_eq_true (miss_none b u)))
                                                              · replace hg18 := of_decide_eq_false hg18
                                                                obtain ⟨y, hy⟩ : ∃ y, M2[0]? = some y := ⟨_, List.getElem?_eq_getElem (by omega)⟩
                                                                have hlt := miss_later' hs (hM.1 ▸ hx0) hacc (hM2.1 ▸ hy)
                                                                first
                                                                | (exfalso; first | omega | contradiction | (rw [s4] at hg18; contradiction) | (rw [w2] at hg18; contradiction))
                                                                | (
                                                                    first | (refine dvg rfl rfl rfl (opv_mv rfl) ?_) | (refine dvg rfl rfl rfl (opv_mvt rfl) ?_)
                                                                    first | (refine dvg rfl rfl rfl (opv_indexAddr_sl si39 rfl rfl (by omega) (by omega)) ?_) | (refine dvg rfl rfl rfl (opv_indexAddr_ls si39 rfl rfl rfl (by first | rfl | omega) (by omega) (by omega)) ?_)
                                                                    first | (refine dvg rfl rfl rfl (opv_load1 ti3 rfl (.lp _ _ _ rfl) rfl) ?_) | (refine dvg rfl rfl rfl (opv_load1 ti3 rfl (.cp _) rfl) ?_) | (refine dvg rfl rfl rfl (opv_load1 ti3 rfl (.cp _) (il_drop hx)) ?_) | (refine dvg rfl rfl rfl (opv_load1 ti3 rfl (.cp _) (il_drop hy)) ?_) | (refine dvg rfl rfl rfl (opv_load1 ti3 rfl (.cp _) (il_drop hx0)) ?_) | (refine dvg rfl rfl rfl (opv_load1 ti3 rfl (.ap _ _ _ _ _ _ _ rfl (by first | rfl | omega)) rfl) ?_)
                                                                    first | (refine dvg rfl rfl rfl (opv_mv rfl) ?_) | (refine dvg rfl rfl rfl (opv_mvt rfl) ?_)
                                                                    first | (refine dvg rfl rfl rfl (opv_indexAddr_sl si39 rfl rfl (by omega) (by omega)) ?_) | (refine dvg rfl rfl rfl (opv_indexAddr_ls si39 rfl rfl rfl (by first | rfl | omega) (by omega) (by omega)) ?_)
                                                                    first | (refine dvg rfl rfl rfl (opv_load1 ti3 rfl (.lp _ _ _ rfl) rfl) ?_) | (refine dvg rfl rfl rfl (opv_load1 ti3 rfl (.cp _) rfl) ?_) | (refine dvg rfl rfl rfl (opv_load1 ti3 rfl (.cp _) (il_drop hx)) ?_) | (refine dvg rfl rfl rfl (opv_load1 ti3 rfl (.cp _) (il_drop hy)) ?_) | (refine dvg rfl rfl rfl (opv_load1 ti3 rfl (.cp _) (il_drop hx0)) ?_) | (refine dvg rfl rfl rfl (opv_load1 ti3 rfl (.ap _ _ _ _ _ _ _ rfl (by first | rfl | omega)) rfl) ?_)
                                                                    refine dvg rfl rfl rfl (opv_gtr rfl rfl) ?_
                                                                    first | (refine dvg rfl rfl rfl (opv_pick_t rfl rfl) ?_) | (refine dvg rfl rfl rfl (opv_pick_f rfl rfl) ?_)
                                                                    first | (refine dv rfl (opv_pick_t rfl rfl) ?_) | (refine dv rfl (opv_pick_f rfl rfl) ?_)
                                                                    first | (refine dv rfl (opv_mv rfl) ?_) | (refine dv rfl (opv_mvt rfl) ?_)
                                                                    refine dsplit 148 rfl (fun hg19 => ?_) (fun hg19 => ?_)
                                                                    · replace hg19 := of_decide_eq_true hg19
                                                                      first
                                                                      | (exfalso; first | omega | contradiction | (rw [s4] at hg19; contradiction) | (rw [w2] at hg19; contradiction))
                                                                      | (
                                                                          first | (refine dvg rfl rfl rfl (opv_loadN ti26 rfl (.lp _ _ _ rfl) (Nat.le_of_ble_eq_true rfl)) ?_) | (refine dvg rfl rfl rfl (opv_loadN ti26 rfl (.cp _) (Nat.le_of_ble_eq_true rfl)) ?_)
                                                                          refine ddg rfl rfl rfl (opD_call fn18 (opnds_cons rfl (opnds_cons rfl opnds_nil)) rfl (missing_c (by omega))) ?_
                                                                          refine ddg rfl rfl rfl (opD_call fn17 (opnds_cons rfl (opnds_cons rfl opnds_nil)) rfl (nil_arg2 (ints_c (xs := missM b u 0) (ys := []) (by rw [miss_none]; exact Nat.zero_le _)))) ?_
                                                                          first | (refine dv rfl (opv_pick_t rfl rfl) ?_) | (refine dv rfl (opv_pick_f rfl rfl) ?_)
                                                                          first | (refine dv rfl (opv_as rfl) ?_) | (refine dv rfl (opv_ast rfl) ?_)
                                                                          refine dnil ?_
                                                                          refine then_normal ?_
                                                                          refine cret ?_
                                                                          refine ⟨Or.inr rfl, _, _, _, (resVs_cons (ResV.tmp _ _ rfl) resVs_nil), (pubA_id rfl), ?_⟩
                                                                          first | rfl | exact avb (decide_eq_true rfl) | exact avb (decide_eq_true (miss_none b u)))
                                                                    · replace hg19 := of_decide_eq_false hg19
                                                                      first
                                                                      | (exfalso; first | omega | contradiction | (rw [s4] at hg19; contradiction) | (rw [w2] at hg19; contradiction))
                                                                      | (
                                                                          refine doff rfl rfl rfl rfl ?_
                                                                          refine doff rfl rfl rfl rfl ?_
                                                                          refine doff rfl rfl rfl rfl ?_
                                                                          first | (refine dv rfl (opv_pick_t rfl rfl) ?_) | (refine dv rfl (opv_pick_f rfl rfl) ?_)
                                                                          first | (refine dv rfl (opv_as rfl) ?_) | (refine dv rfl (opv_ast rfl) ?_)
                                                                          refine dnil ?_
                                                                          refine then_normal ?_
                                                                          refine cret ?_
                                                                          refine ⟨Or.inr rfl, _, _, _, (resVs_cons (ResV.tmp _ _ rfl) resVs_nil), (pubA_id rfl), ?_⟩
                                                                          first | rfl | exact avb (decide_eq_true rfl) | exact avb (decide_eq_true (miss_none b u))))))
                                                  · replace hg16 := bnot_f hg16
                                                    first
                                                    | (exfalso; first | omega | contradiction | (rw [s4] at hg16; contradiction) | (rw [w2] at hg16; contradiction))
                                                    | (
                                                        refine doff rfl rfl rfl rfl ?_
                                                        refine doff rfl rfl rfl rfl ?_
                                                        refine doff rfl rfl rfl rfl ?_
                                                        refine doffu rfl rfl rfl ?_
                                                        refine doffu rfl rfl rfl ?_
                                                        refine doffu rfl rfl rfl ?_
                                                        refine doff rfl rfl rfl rfl ?_
                                                        refine doff rfl rfl rfl rfl ?_
                                                        refine doffu rfl rfl rfl ?_
                                                        refine doffu rfl rfl rfl ?_
                                                        refine doffu rfl rfl rfl ?_
                                                        refine doffu rfl rfl rfl ?_
                                                        refine doffu rfl rfl rfl ?_
                                                        refine doffu rfl rfl rfl ?_
                                                        refine doffu rfl rfl rfl ?_
                                                        refine doff rfl rfl rfl rfl ?_
                                                        first | (refine dv rfl (opv_pick_t rfl rfl) ?_) | (refine dv rfl (opv_pick_f rfl rfl) ?_)
                                                        first | (refine dv rfl (opv_mv rfl) ?_) | (refine dv rfl (opv_mvt rfl) ?_)
                                                        refine doff rfl rfl rfl rfl ?_
                                                        refine doff rfl rfl rfl rfl ?_
                                                        refine doff rfl rfl rfl rfl ?_
                                                        first | (refine dv rfl (opv_pick_t rfl rfl) ?_) | (refine dv rfl (opv_pick_f rfl rfl) ?_)
                                                        first | (refine dv rfl (opv_as rfl) ?_) | (refine dv rfl (opv_ast rfl) ?_)
                                                        refine dnil ?_
                                                        refine then_normal ?_
                                                        refine cret ?_
                                                        refine ⟨Or.inr rfl, _, _, _, (resVs_cons (ResV.tmp _ _ rfl) resVs_nil), (pubA_id rfl), ?_⟩
                                                        first | rfl | exact avb (decide_eq_true rfl) | exact avb (decide_eq_true (miss_none b u))))
                                            · first
                                              | (exfalso; first | omega | contradiction | (rw [s4] at hg15; contradiction) | (rw [w2] at hg15; contradiction))
                                              | (
                                                  refine doff rfl rfl rfl rfl ?_
                                                  refine doff rfl rfl rfl rfl ?_
                                                  refine doff rfl rfl rfl rfl ?_
                                                  refine doff rfl rfl rfl rfl ?_
                                                  refine doff rfl rfl rfl rfl ?_
                                                  refine doff rfl rfl rfl rfl ?_
                                                  refine doff rfl rfl rfl rfl ?_
                                                  first | (refine dv rfl (opv_pick_t rfl rfl) ?_) | (refine dv rfl (opv_pick_f rfl rfl) ?_)
                                                  first | (refine dv rfl (opv_mv rfl) ?_) | (refine dv rfl (opv_mvt rfl) ?_)
                                                  refine doff rfl rfl rfl rfl ?_
                                                  refine doff rfl rfl rfl rfl ?_
                                                  refine doff rfl rfl rfl rfl ?_
                                                  refine doffu rfl rfl rfl ?_
                                                  refine doffu rfl rfl rfl ?_
                                                  refine doffu rfl rfl rfl ?_
                                                  refine doff rfl rfl rfl rfl ?_
                                                  refine doff rfl rfl rfl rfl ?_
                                                  refine doffu rfl rfl rfl ?_
                                                  refine doffu rfl rfl rfl ?_
                                                  refine doffu rfl rfl rfl ?_
                                                  refine doffu rfl rfl rfl ?_
                                                  refine doffu rfl rfl rfl ?_
                                                  refine doffu rfl rfl rfl ?_
                                                  refine doffu rfl rfl rfl ?_
                                                  refine doff rfl rfl rfl rfl ?_
                                                  first | (refine dv rfl (opv_pick_t rfl rfl) ?_) | (refine dv rfl (opv_pick_f rfl rfl) ?_)
                                                  first | (refine dv rfl (opv_mv rfl) ?_) | (refine dv rfl (opv_mvt rfl) ?_)
                                                  refine doff rfl rfl rfl rfl ?_
                                                  refine doff rfl rfl rfl rfl ?_
                                                  refine doff rfl rfl rfl rfl ?_
                                                  first | (refine dv rfl (opv_pick_t rfl rfl) ?_) | (refine dv rfl (opv_pick_f rfl rfl) ?_)
                                                  first | (refine dv rfl (opv_as rfl) ?_) | (refine dv rfl (opv_ast rfl) ?_)
                                                  refine dnil ?_
                                                  refine then_normal ?_
                                                  refine cret ?_
                                                  refine ⟨Or.inr rfl, _, _, _, (resVs_cons (ResV.tmp _ _ rfl) resVs_nil), (pubA_id rfl), ?_⟩
                                                  first | rfl | exact avb (decide_eq_true rfl) | exact avb (decide_eq_true (miss_none b u))))
                                      · replace hg14 := of_decide_eq_false hg14
                                        first
                                        | (exfalso; first | omega | contradiction | (rw [s4] at hg14; contradiction) | (rw [w2] at hg14; contradiction))
                                        | (
                                            refine doff rfl rfl rfl rfl ?_
                                            refine doff rfl rfl rfl rfl ?_
                                            refine doff rfl rfl rfl rfl ?_
                                            refine doff rfl rfl rfl rfl ?_
                                            refine doff rfl rfl rfl rfl ?_
                                            refine doff rfl rfl rfl rfl ?_
                                            first | (refine dv rfl (opv_pick_t rfl rfl) ?_) | (refine dv rfl (opv_pick_f rfl rfl) ?_)
                                            first | (refine dv rfl (opv_mv rfl) ?_) | (refine dv rfl (opv_mvt rfl) ?_)
                                            refine doff rfl rfl rfl rfl ?_
                                            refine doff rfl rfl rfl rfl ?_
                                            refine doff rfl rfl rfl rfl ?_
                                            refine doff rfl rfl rfl rfl ?_
                                            refine doff rfl rfl rfl rfl ?_
                                            refine doff rfl rfl rfl rfl ?_
                                            refine doff rfl rfl rfl rfl ?_
                                            first | (refine dv rfl (opv_pick_t rfl rfl) ?_) | (refine dv rfl (opv_pick_f rfl rfl) ?_)
                                            first | (refine dv rfl (opv_mv rfl) ?_) | (refine dv rfl (opv_mvt rfl) ?_)
                                            refine doff rfl rfl rfl rfl ?_
                                            refine doff rfl rfl rfl rfl ?_
                                            refine doff rfl rfl rfl rfl ?_
                                            refine doffu rfl rfl rfl ?_
                                            refine doffu rfl rfl rfl ?_
                                            refine doffu rfl rfl rfl ?_
                                            refine doff rfl rfl rfl rfl ?_
                                            refine doff rfl rfl rfl rfl ?_
                                            refine doffu rfl rfl rfl ?_
                                            refine doffu rfl rfl rfl ?_
                                            refine doffu rfl rfl rfl ?_
                                            refine doffu rfl rfl rfl ?_
                                            refine doffu rfl rfl rfl ?_
                                            refine doffu rfl rfl rfl ?_
                                            refine doffu rfl rfl rfl ?_
                                            refine doff rfl rfl rfl rfl ?_
                                            first | (refine dv rfl (opv_pick_t rfl rfl) ?_) | (refine dv rfl (opv_pick_f rfl rfl) ?_)
                                            first | (refine dv rfl (opv_mv rfl) ?_) | (refine dv rfl (opv_mvt rfl) ?_)
                                            refine doff rfl rfl rfl rfl ?_
                                            refine doff rfl rfl rfl rfl ?_
                                            refine doff rfl rfl rfl rfl ?_
                                            first | (refine dv rfl (opv_pick_t rfl rfl) ?_) | (refine dv rfl (opv_pick_f rfl rfl) ?_)
                                            first | (refine dv rfl (opv_as rfl) ?_) | (refine dv rfl (opv_ast rfl) ?_)
                                            refine dnil ?_
                                            refine then_normal ?_
                                            refine cret ?_
                                            refine ⟨Or.inr rfl, _, _, _, (resVs_cons (ResV.tmp _ _ rfl) resVs_nil), (pubA_id rfl), ?_⟩
                                            first | rfl | exact avb (decide_eq_true rfl) | exact avb (decide_eq_true (miss_none b u))))
                                · first
                                  | (exfalso; first | omega | contradiction | (rw [s4] at hg13; contradiction) | (rw [w2] at hg13; contradiction))
                                  | (
                                      refine doff rfl rfl rfl rfl ?_
                                      refine doff rfl rfl rfl rfl ?_
                                      first | (refine dv rfl (opv_pick_t rfl rfl) ?_) | (refine dv rfl (opv_pick_f rfl rfl) ?_)
                                      first | (refine dv rfl (opv_mv rfl) ?_) | (refine dv rfl (opv_mvt rfl) ?_)
                                      refine doff rfl rfl rfl rfl ?_
                                      refine doff rfl rfl rfl rfl ?_
                                      refine doff rfl rfl rfl rfl ?_
                                      refine doff rfl rfl rfl rfl ?_
                                      refine doff rfl rfl rfl rfl ?_
                                      refine doff rfl rfl rfl rfl ?_
                                      first | (refine dv rfl (opv_pick_t rfl rfl) ?_) | (refine dv rfl (opv_pick_f rfl rfl) ?_)
                                      first | (refine dv rfl (opv_mv rfl) ?_) | (refine dv rfl (opv_mvt rfl) ?_)
                                      refine doff rfl rfl rfl rfl ?_
                                      refine doff rfl rfl rfl rfl ?_
                                      refine doff rfl rfl rfl rfl ?_
                                      refine doff rfl rfl rfl rfl ?_
                                      refine doff rfl rfl rfl rfl ?_
                                      refine doff rfl rfl rfl rfl ?_
                                      refine doff rfl rfl rfl rfl ?_
                                      first | (refine dv rfl (opv_pick_t rfl rfl) ?_) | (refine dv rfl (opv_pick_f rfl rfl) ?_)
                                      first | (refine dv rfl (opv_mv rfl) ?_) | (refine dv rfl (opv_mvt rfl) ?_)
                                      refine doff rfl rfl rfl rfl ?_
                                      refine doff rfl rfl rfl rfl ?_
                                      refine doff rfl rfl rfl rfl ?_
                                      refine doffu rfl rfl rfl ?_
                                      refine doffu rfl rfl rfl ?_
                                      refine doffu rfl rfl rfl ?_
                                      refine doff rfl rfl rfl rfl ?_
                                      refine doff rfl rfl rfl rfl ?_
                                      refine doffu rfl rfl rfl ?_
                                      refine doffu rfl rfl rfl ?_
                                      refine doffu rfl rfl rfl ?_
                                      refine doffu rfl rfl rfl ?_
                                      refine doffu rfl rfl rfl ?_
                                      refine doffu rfl rfl rfl ?_
                                      refine doffu rfl rfl rfl ?_
                                      refine doff rfl rfl rfl rfl ?_
                                      first | (refine dv rfl (opv_pick_t rfl rfl) ?_) | (refine dv rfl (opv_pick_f rfl rfl) ?_)
                                      first | (refine dv rfl (opv_mv rfl) ?_) | (refine dv rfl (opv_mvt rfl) ?_)
                                      refine doff rfl rfl rfl rfl ?_
                                      refine doff rfl rfl rfl rfl ?_
                                      refine doff rfl rfl rfl rfl ?_
                                      first | (refine dv rfl (opv_pick_t rfl rfl) ?_) | (refine dv rfl (opv_pick_f rfl rfl) ?_)
                                      first | (refine dv rfl (opv_as rfl) ?_) | (refine dv rfl (opv_ast rfl) ?_)
                                      refine dnil ?_
                                      refine then_normal ?_
                                      refine cret ?_
                                      refine ⟨Or.inr rfl, _, _, _, (resVs_cons (ResV.tmp _ _ rfl) resVs_nil), (pubA_id rfl), ?_⟩
                                      first | rfl | exact avb (decide_eq_true rfl) | exact avb (decide_eq_true (miss_none b u))))))))

end Go.Proofs.Ytaffjoloefhodaa.Abs
