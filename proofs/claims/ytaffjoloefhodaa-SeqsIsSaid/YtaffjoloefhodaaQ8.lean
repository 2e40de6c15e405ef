/-
  SeqsOrder: the walk
-/
import Derived.Test.YtaffjoloefhodaaQ7
namespace Go.Proofs.Ytaffjoloefhodaa.Abs
open Go.RowKit Go.Proofs
set_option maxRecDepth 100000



theorem il_set {L : List Int} {j : Nat} {v : Int} (h : j < L.length) : putAt (il L) (j * 1) [Lf.i .i64 v] = il (L.set j v) := by
  unfold putAt
  rw [Nat.mul_one]
  show (L.map _).take j ++ [Lf.i .i64 v] ++ (L.map _).drop (j + 1) = (L.set j v).map _
  rw [List.set_eq_take_append_cons_drop, if_pos h, List.map_append, List.map_cons, List.map_take, List.map_drop]
  simp
theorem mk_row (k : Nat) : mkLs [Lf.i .i64 0] ((k : Int).toNat * 1) = il (rowA k 0) := by
  rw [mkLs_one, Int.toNat_natCast, Nat.mul_one]
  apply List.ext_getElem?
  intro j
  by_cases h : j < k
  · rw [List.getElem?_replicate, if_pos h]
    unfold rowA
    simp [h]
  · rw [List.getElem?_replicate, if_neg h, List.getElem?_eq_none (by simp [rowA_len]; omega)]
theorem seen_zero (y : Int) : seenM 0 0#64 y = false := by
  have := cntM_zero y
  unfold cntM at this
  cases h : seenM 0 0#64 y with
  | false => rfl
  | true => rw [h] at this; simp at this

theorem seqsOrder_c {n : Int} {ts : List Int} (hts : ∀ x ∈ ts, -9223372036854775808 ≤ x ∧ x ≤ 9223372036854775807) : CallsA Try.prog 5 [.one (.i .i64 n), .one (.sl ts.length (il ts))] (· = .s (.one (.b true))) := by
  refine callsA_of Try.func5 rfl (nt := 132) rfl (Nat.le_of_ble_eq_true rfl) ?_
  intro w0 S0
  refine cseq ?_
  refine cregion ?_
  first | (refine sv rfl (opv_as rfl) ?_) | (refine sv rfl (opv_ast rfl) ?_)
  refine snil ?_
  refine cseq ?_
  refine cregion ?_
  refine scall1 rfl fn8 opnds_nil (pubA_id rfl) (awake_c) ?_
  first | (refine sv rfl (opv_as rfl) ?_) | (refine sv rfl (opv_ast rfl) ?_)
  refine snil ?_
  refine cseq ?_
  refine cseq ?_
  refine cregion ?_
  first | (refine sv rfl (opv_mv rfl) ?_) | (refine sv rfl (opv_mvt rfl) ?_)
  first | (refine sv rfl (opv_len_sl si39 rfl) ?_) | (refine sv rfl (opv_len_nil si39 rfl) ?_) | (refine sv rfl (opv_len_ls si39 rfl rfl (by first | rfl | omega)) ?_)
  refine sv rfl (opv_gtr rfl rfl) ?_
  refine snil ?_
  refine ccond rfl (fun hc1 => ?_) (fun hc1 => ?_)
  · replace hc1 := of_decide_eq_true hc1
    first
    | (exfalso; first | omega | contradiction | exact hc1 rfl)
    | (
        refine cseq ?_
        refine cregion ?_
        first | (refine sv rfl (opv_mv rfl) ?_) | (refine sv rfl (opv_mvt rfl) ?_)
        first | (refine sv rfl (opv_as rfl) ?_) | (refine sv rfl (opv_ast rfl) ?_)
        refine snil ?_
        refine cret ?_
        refine then_ret ?_
        refine ⟨Or.inr rfl, _, _, _, (resVs_cons (ResV.tmp _ _ rfl) resVs_nil), (pubA_id rfl), ?_⟩
        first | rfl | exact avb (decide_eq_true rfl))
  · replace hc1 := of_decide_eq_false hc1
    first
    | (exfalso; first | omega | contradiction | exact hc1 rfl)
    | (
        refine cskip ?_
        refine then_normal ?_
        refine cseq ?_
        refine cregion ?_
        first | (refine sv rfl (opv_mv rfl) ?_) | (refine sv rfl (opv_mvt rfl) ?_)
        refine sv rfl (opv_andc rfl rfl) ?_
        obtain ⟨hn1, hn2⟩ := imask_le n (m := 31) (by omega) (by omega)
        refine sv rfl (opv_add_ok rfl rfl (wrap_i64 (by omega) (by omega))) ?_
        obtain ⟨kk, hkk⟩ : ∃ kk : Nat, 1 + imask n 31 = kk := ⟨(1 + imask n 31).toNat, by omega⟩
        rw [hkk]
        have hk32 : 1 ≤ kk ∧ kk ≤ 32 := by omega
        first | (refine sv rfl (opv_as rfl) ?_) | (refine sv rfl (opv_ast rfl) ?_)
        refine snil ?_
        refine cseq ?_
        refine cregion ?_
        first | (refine sv rfl (opv_mv rfl) ?_) | (refine sv rfl (opv_mvt rfl) ?_)
        refine smake rfl Try.underlying39 ei3 rfl rfl (by omega) (by omega) (by omega) (by omega) ?_
        rw [mk_row kk, Int.toNat_natCast]
        first | (refine sv rfl (opv_as rfl) ?_) | (refine sv rfl (opv_ast rfl) ?_)
        refine snil ?_
        refine cseq ?_
        refine cseq ?_
        refine cregion ?_
        first | (refine sv rfl (opv_as rfl) ?_) | (refine sv rfl (opv_ast rfl) ?_)
        refine snil ?_
        refine cblock ?_
        refine awc_loop (G := Nat) (fun i => [(1, .s (.one (.sl ts.length (il ts)))), (5, .s (.one (.b true))), (6, .s (.one (.i .i64 (kk : Int)))), (7, .s (.one (.ls 0 kk))), (8, .s (.one (.i .i64 (i : Int))))]) (fun i => [.arr 3 1 0 (il (rowA kk i))]) (fun i => i ≤ kk) (fun i => kk - i) 0 (Nat.zero_le _) ⟨rfl, rfl, rfl, rfl, rfl, trivial⟩ _ rfl (fun _ _ => ⟨rfl, rfl, rfl, rfl, rfl, trivial⟩) (fun _ _ => blk_inb rfl) ?_
        intro i hi
        have hrl : (il (rowA kk i)).length = kk := by rw [List.length_map]; exact rowA_len kk i
        refine cseq ?_
        refine cseq ?_
        refine cregion ?_
        first | (refine sv rfl (opv_mv rfl) ?_) | (refine sv rfl (opv_mvt rfl) ?_)
        first | (refine sv rfl (opv_mv rfl) ?_) | (refine sv rfl (opv_mvt rfl) ?_)
        refine sv rfl (opv_lss rfl rfl) ?_
        refine snil ?_
        refine ccond rfl (fun hc2 => ?_) (fun hc2 => ?_)
        · replace hc2 := of_decide_eq_true hc2
          first
          | (exfalso; first | omega | contradiction | exact hc2 rfl)
          | (
              refine cskip ?_
              refine then_normal ?_
              refine cseq ?_
              refine cblock ?_
              refine cregion ?_
              first | (refine sv rfl (opv_mv rfl) ?_) | (refine sv rfl (opv_mvt rfl) ?_)
              first | (refine sv rfl (opv_mv rfl) ?_) | (refine sv rfl (opv_mvt rfl) ?_)
              first | (refine sv rfl (opv_mv rfl) ?_) | (refine sv rfl (opv_mvt rfl) ?_)
              first | (refine sv rfl (opv_indexAddr_sl si39 rfl rfl (by omega) (by omega)) ?_) | (refine sv rfl (opv_indexAddr_ls si39 rfl rfl rfl (by first | rfl | omega) (by omega) (by omega)) ?_)
              first | (refine sstore sz3 rfl rfl rfl rfl (Nat.le_of_ble_eq_true rfl) ?_) | (refine sstore_ap sz3 rfl rfl rfl (by first | rfl | omega) rfl (List.all_eq_true.1 rfl) (by omega) (by omega) ?_)
              refine snil0 ?_
              refine block_normal ?_
              refine then_normal ?_
              refine cregion ?_
              first | (refine sv rfl (opv_mv rfl) ?_) | (refine sv rfl (opv_mvt rfl) ?_)
              refine sv rfl (opv_add_ok rfl rfl (wrap_i64 (by omega) (by omega))) ?_
              first | (refine sv rfl (opv_as rfl) ?_) | (refine sv rfl (opv_ast rfl) ?_)
              refine snil ?_
              exact ⟨i + 1, [], by omega, ⟨rfl, rfl, rfl, rfl, rfl, trivial⟩, (by rw [← rowA_set (by omega), ← il_set (by rw [rowA_len]; omega)]; rfl), by omega⟩)
        · replace hc2 := of_decide_eq_false hc2
          rw [show i = kk by omega]
          first
          | (exfalso; first | omega | contradiction | exact hc2 rfl)
          | (
              refine cexit ?_
              refine then_exit ?_
              refine then_exit ?_
              refine block_hit ?_
              refine then_normal ?_
              refine cseq ?_
              refine cseq ?_
              refine cregion ?_
              first | (refine sv rfl (opv_as rfl) ?_) | (refine sv rfl (opv_ast rfl) ?_)
              refine snil ?_
              refine cblock ?_
              refine awc_loop (G := Nat × List Int) (fun g => [(1, .s (.one (.sl ts.length (il ts)))), (5, .s (.one (.b true))), (6, .s (.one (.i .i64 (kk : Int)))), (7, .s (.one (.ls 0 kk))), (9, .s (.one (.i .i64 (g.1 : Int))))]) (fun g => [.arr 3 1 0 (il g.2)]) (fun g => g.2.Perm (rowA kk kk) ∧ g.1 ≤ ts.length) (fun g => ts.length - g.1) (0, rowA kk kk) ⟨List.Perm.refl _, Nat.zero_le _⟩ ⟨rfl, rfl, rfl, rfl, rfl, trivial⟩ _ rfl (fun _ _ => ⟨rfl, rfl, rfl, rfl, rfl, trivial⟩) (fun _ _ => blk_inb rfl) ?_
              intro ⟨i, L⟩ ⟨hp, hi⟩
              dsimp only at hp hi ⊢
              have hlen : L.length = kk := hp.length_eq.trans (rowA_len kk kk)
              have hil : (il L).length = kk := by rw [List.length_map]; exact hlen
              refine cseq ?_
              refine cseq ?_
              refine cregion ?_
              first | (refine sv rfl (opv_mv rfl) ?_) | (refine sv rfl (opv_mvt rfl) ?_)
              first | (refine sv rfl (opv_mv rfl) ?_) | (refine sv rfl (opv_mvt rfl) ?_)
              first | (refine sv rfl (opv_len_sl si39 rfl) ?_) | (refine sv rfl (opv_len_nil si39 rfl) ?_) | (refine sv rfl (opv_len_ls si39 rfl rfl (by first | rfl | omega)) ?_)
              refine sv rfl (opv_lss rfl rfl) ?_
              refine snil ?_
              refine ccond rfl (fun hc3 => ?_) (fun hc3 => ?_)
              · replace hc3 := of_decide_eq_true hc3
                obtain ⟨x, hx⟩ : ∃ x, ts[i]? = some x := ⟨_, List.getElem?_eq_getElem (by omega)⟩
                have hxr := hts x (List.mem_of_getElem? hx)
                first
                | (exfalso; first | omega | contradiction | exact hc3 rfl)
                | (
                    refine cskip ?_
                    refine then_normal ?_
                    refine cseq ?_
                    refine cblock ?_
                    refine cseq ?_
                    refine cregion ?_
                    first | (refine sv rfl (opv_mv rfl) ?_) | (refine sv rfl (opv_mvt rfl) ?_)
                    first | (refine sv rfl (opv_mv rfl) ?_) | (refine sv rfl (opv_mvt rfl) ?_)
                    first | (refine sv rfl (opv_indexAddr_sl si39 rfl rfl (by omega) (by omega)) ?_) | (refine sv rfl (opv_indexAddr_ls si39 rfl rfl rfl (by first | rfl | omega) (by omega) (by omega)) ?_)
                    first | (refine sv rfl (opv_load1 ti3 rfl (.lp _ _ _ rfl) rfl) ?_) | (refine sv rfl (opv_load1 ti3 rfl (.cp _) rfl) ?_) | (refine sv rfl (opv_load1 ti3 rfl (.cp _) (il_drop hx)) ?_) | (refine sv rfl (opv_load1 ti3 rfl (.cp _) (il_drop hbf)) ?_) | (refine sv rfl (opv_load1 ti3 rfl (.ap _ _ _ _ _ _ _ rfl (by omega)) (il_drop hxa)) ?_) | (refine sv rfl (opv_load1 ti3 rfl (.ap _ _ _ _ _ _ _ rfl (by omega)) (il_drop hxc)) ?_) | (refine sv rfl (opv_load1 ti3 rfl (.ap _ _ _ _ _ _ _ rfl (by omega)) (il_drop hx)) ?_) | (refine sv rfl (opv_load1 ti3 rfl (.ap _ _ _ _ _ _ _ rfl (by first | rfl | omega)) rfl) ?_)
                    refine sv rfl (opv_andc rfl rfl) ?_
                    first | (refine sv rfl (opv_mv rfl) ?_) | (refine sv rfl (opv_mvt rfl) ?_)
                    refine sv rfl (opv_rem rfl rfl (by omega)) ?_
                    obtain ⟨hq1, hq2⟩ := imask_le x (m := 255) (by omega) (by omega)
                    have hr0 := Int.tmod_nonneg (kk : Int) hq1
                    have hr1 := Int.tmod_lt_of_pos (imask x 255) (show 0 < (kk : Int) by omega)
                    obtain ⟨a, ha⟩ : ∃ a : Nat, (imask x 255).tmod (kk : Int) = a := ⟨_, (Int.toNat_of_nonneg hr0).symm⟩
                    rw [ha] at hr0 hr1 ⊢
                    obtain ⟨xa, hxa⟩ : ∃ v, L[a]? = some v := ⟨_, List.getElem?_eq_getElem (by omega)⟩
                    first | (refine sv rfl (opv_as rfl) ?_) | (refine sv rfl (opv_ast rfl) ?_)
                    refine snil ?_
                    refine cseq ?_
                    refine cregion ?_
                    first | (refine sv rfl (opv_mv rfl) ?_) | (refine sv rfl (opv_mvt rfl) ?_)
                    first | (refine sv rfl (opv_mv rfl) ?_) | (refine sv rfl (opv_mvt rfl) ?_)
                    first | (refine sv rfl (opv_indexAddr_sl si39 rfl rfl (by omega) (by omega)) ?_) | (refine sv rfl (opv_indexAddr_ls si39 rfl rfl rfl (by first | rfl | omega) (by omega) (by omega)) ?_)
                    first | (refine sv rfl (opv_load1 ti3 rfl (.lp _ _ _ rfl) rfl) ?_) | (refine sv rfl (opv_load1 ti3 rfl (.cp _) rfl) ?_) | (refine sv rfl (opv_load1 ti3 rfl (.cp _) (il_drop hx)) ?_) | (refine sv rfl (opv_load1 ti3 rfl (.cp _) (il_drop hbf)) ?_) | (refine sv rfl (opv_load1 ti3 rfl (.ap _ _ _ _ _ _ _ rfl (by omega)) (il_drop hxa)) ?_) | (refine sv rfl (opv_load1 ti3 rfl (.ap _ _ _ _ _ _ _ rfl (by omega)) (il_drop hxc)) ?_) | (refine sv rfl (opv_load1 ti3 rfl (.ap _ _ _ _ _ _ _ rfl (by omega)) (il_drop hx)) ?_) | (refine sv rfl (opv_load1 ti3 rfl (.ap _ _ _ _ _ _ _ rfl (by first | rfl | omega)) rfl) ?_)
                    refine sv rfl (opv_shr rfl rfl (by omega)) ?_
                    obtain ⟨z, hz⟩ : ∃ z, x.fdiv (2 ^ (min (8 : Int).toNat (IntKind.bits .i64))) = z := ⟨_, rfl⟩
                    rw [hz]
                    refine sv rfl (opv_andc rfl rfl) ?_
                    first | (refine sv rfl (opv_mv rfl) ?_) | (refine sv rfl (opv_mvt rfl) ?_)
                    refine sv rfl (opv_rem rfl rfl (by omega)) ?_
                    obtain ⟨hq1, hq2⟩ := imask_le z (m := 255) (by omega) (by omega)
                    have hr0 := Int.tmod_nonneg (kk : Int) hq1
                    have hr1 := Int.tmod_lt_of_pos (imask z 255) (show 0 < (kk : Int) by omega)
                    obtain ⟨c, hc⟩ : ∃ a : Nat, (imask z 255).tmod (kk : Int) = a := ⟨_, (Int.toNat_of_nonneg hr0).symm⟩
                    rw [hc] at hr0 hr1 ⊢
                    obtain ⟨xc, hxc⟩ : ∃ v, L[c]? = some v := ⟨_, List.getElem?_eq_getElem (by omega)⟩
                    first | (refine sv rfl (opv_as rfl) ?_) | (refine sv rfl (opv_ast rfl) ?_)
                    refine snil ?_
                    refine cseq ?_
                    refine cregion ?_
                    first | (refine sv rfl (opv_mv rfl) ?_) | (refine sv rfl (opv_mvt rfl) ?_)
                    first | (refine sv rfl (opv_mv rfl) ?_) | (refine sv rfl (opv_mvt rfl) ?_)
                    first | (refine sv rfl (opv_indexAddr_sl si39 rfl rfl (by omega) (by omega)) ?_) | (refine sv rfl (opv_indexAddr_ls si39 rfl rfl rfl (by first | rfl | omega) (by omega) (by omega)) ?_)
                    first | (refine sv rfl (opv_load1 ti3 rfl (.lp _ _ _ rfl) rfl) ?_) | (refine sv rfl (opv_load1 ti3 rfl (.cp _) rfl) ?_) | (refine sv rfl (opv_load1 ti3 rfl (.cp _) (il_drop hx)) ?_) | (refine sv rfl (opv_load1 ti3 rfl (.cp _) (il_drop hbf)) ?_) | (refine sv rfl (opv_load1 ti3 rfl (.ap _ _ _ _ _ _ _ rfl (by omega)) (il_drop hxa)) ?_) | (refine sv rfl (opv_load1 ti3 rfl (.ap _ _ _ _ _ _ _ rfl (by omega)) (il_drop hxc)) ?_) | (refine sv rfl (opv_load1 ti3 rfl (.ap _ _ _ _ _ _ _ rfl (by omega)) (il_drop hx)) ?_) | (refine sv rfl (opv_load1 ti3 rfl (.ap _ _ _ _ _ _ _ rfl (by first | rfl | omega)) rfl) ?_)
                    first | (refine sv rfl (opv_as rfl) ?_) | (refine sv rfl (opv_ast rfl) ?_)
                    refine snil ?_
                    refine cseq ?_
                    refine cregion ?_
                    first | (refine sv rfl (opv_mv rfl) ?_) | (refine sv rfl (opv_mvt rfl) ?_)
                    first | (refine sv rfl (opv_mv rfl) ?_) | (refine sv rfl (opv_mvt rfl) ?_)
                    first | (refine sv rfl (opv_mv rfl) ?_) | (refine sv rfl (opv_mvt rfl) ?_)
                    first | (refine sv rfl (opv_mv rfl) ?_) | (refine sv rfl (opv_mvt rfl) ?_)
                    first | (refine sv rfl (opv_indexAddr_sl si39 rfl rfl (by omega) (by omega)) ?_) | (refine sv rfl (opv_indexAddr_ls si39 rfl rfl rfl (by first | rfl | omega) (by omega) (by omega)) ?_)
                    first | (refine sv rfl (opv_load1 ti3 rfl (.lp _ _ _ rfl) rfl) ?_) | (refine sv rfl (opv_load1 ti3 rfl (.cp _) rfl) ?_) | (refine sv rfl (opv_load1 ti3 rfl (.cp _) (il_drop hx)) ?_) | (refine sv rfl (opv_load1 ti3 rfl (.cp _) (il_drop hbf)) ?_) | (refine sv rfl (opv_load1 ti3 rfl (.ap _ _ _ _ _ _ _ rfl (by omega)) (il_drop hxa)) ?_) | (refine sv rfl (opv_load1 ti3 rfl (.ap _ _ _ _ _ _ _ rfl (by omega)) (il_drop hxc)) ?_) | (refine sv rfl (opv_load1 ti3 rfl (.ap _ _ _ _ _ _ _ rfl (by omega)) (il_drop hx)) ?_) | (refine sv rfl (opv_load1 ti3 rfl (.ap _ _ _ _ _ _ _ rfl (by first | rfl | omega)) rfl) ?_)
                    first | (refine sv rfl (opv_indexAddr_sl si39 rfl rfl (by omega) (by omega)) ?_) | (refine sv rfl (opv_indexAddr_ls si39 rfl rfl rfl (by first | rfl | omega) (by omega) (by omega)) ?_)
                    first | (refine sstore sz3 rfl rfl rfl rfl (Nat.le_of_ble_eq_true rfl) ?_) | (refine sstore_ap sz3 rfl rfl rfl (by first | rfl | omega) rfl (List.all_eq_true.1 rfl) (by omega) (by omega) ?_)
                    refine snil ?_
                    refine cregion ?_
                    first | (refine sv rfl (opv_mv rfl) ?_) | (refine sv rfl (opv_mvt rfl) ?_)
                    rw [show putAt (il L) ((a : Int).toNat * 1) (SV.cells (.one (.i .i64 xc))) = il (L.set a xc) from il_set (by omega)]
                    have hil2 : (il (L.set a xc)).length = kk := by rw [List.length_map, List.length_set]; exact hlen
                    first | (refine sv rfl (opv_mv rfl) ?_) | (refine sv rfl (opv_mvt rfl) ?_)
                    first | (refine sv rfl (opv_mv rfl) ?_) | (refine sv rfl (opv_mvt rfl) ?_)
                    first | (refine sv rfl (opv_indexAddr_sl si39 rfl rfl (by omega) (by omega)) ?_) | (refine sv rfl (opv_indexAddr_ls si39 rfl rfl rfl (by first | rfl | omega) (by omega) (by omega)) ?_)
                    first | (refine sstore sz3 rfl rfl rfl rfl (Nat.le_of_ble_eq_true rfl) ?_) | (refine sstore_ap sz3 rfl rfl rfl (by first | rfl | omega) rfl (List.all_eq_true.1 rfl) (by omega) (by omega) ?_)
                    refine snil0 ?_
                    refine block_normal ?_
                    refine then_normal ?_
                    refine cregion ?_
                    first | (refine sv rfl (opv_mv rfl) ?_) | (refine sv rfl (opv_mvt rfl) ?_)
                    refine sv rfl (opv_add_ok rfl rfl (wrap_i64 (by omega) (by omega))) ?_
                    first | (refine sv rfl (opv_as rfl) ?_) | (refine sv rfl (opv_ast rfl) ?_)
                    refine snil ?_
                    exact ⟨(i + 1, (L.set a xc).set c xa), [], ⟨(swap_perm hxa hxc).trans hp, by dsimp only; omega⟩, ⟨rfl, rfl, rfl, rfl, rfl, trivial⟩, (by dsimp only; rw [← il_set (L := L.set a xc) (j := c) (v := xa) (by rw [List.length_set]; omega)]; rfl), by dsimp only; omega⟩)
              · replace hc3 := of_decide_eq_false hc3
                first
                | (exfalso; first | omega | contradiction | exact hc3 rfl)
                | (
                    refine cexit ?_
                    refine then_exit ?_
                    refine then_exit ?_
                    refine block_hit ?_
                    refine then_normal ?_
                    refine cseq ?_
                    refine cregion ?_
                    refine sv rfl (opv_build zi26 pi26 parts_nil (.nil _)) ?_
                    refine salloc rfl zi26 ?_
                    first | (refine sstore sz26 rfl rfl rfl rfl (Nat.le_of_ble_eq_true rfl) ?_) | (refine sstore_ap sz26 rfl rfl rfl (by first | rfl | omega) rfl (List.all_eq_true.1 rfl) (by omega) (by omega) ?_)
                    refine snil ?_
                    refine cseq ?_
                    refine cseq ?_
                    refine cregion ?_
                    first | (refine sv rfl (opv_as rfl) ?_) | (refine sv rfl (opv_ast rfl) ?_)
                    refine snil ?_
                    refine cblock ?_
                    have hnd : L.Nodup := hp.nodup_iff.2 (rowA_nodup kk)
                    refine awc_loop (G := Nat × Int × BitVec 64) (fun g => [(5, .s (.one (.b true))), (6, .s (.one (.i .i64 (kk : Int)))), (7, .s (.one (.ls 0 kk))), (13, .s (.one (.lp 1 0))), (14, .s (.one (.i .i64 (g.1 : Int))))]) (fun g => [.arr 3 1 0 (il L), .box (wsv g.2.1 g.2.2).cells]) (fun g => saneM g.2.1 g.2.2 = true ∧ g.1 ≤ kk ∧ ∀ y, saneSeqM y = true → (seenM g.2.1 g.2.2 y = true ↔ y ∈ L.take g.1)) (fun g => kk - g.1) (0, 0, 0#64) ⟨by decide, Nat.zero_le _, fun y _ => by rw [seen_zero]; simp⟩ ⟨rfl, rfl, rfl, rfl, rfl, trivial⟩ _ rfl (fun _ _ => ⟨rfl, rfl, rfl, rfl, rfl, trivial⟩) (fun _ _ => blk_inb rfl) ?_
                    intro ⟨i, b, u⟩ ⟨hs, hi, hsy⟩
                    dsimp only at hs hi hsy ⊢
                    have hsb := (saneM_iff b u).1 hs
                    refine cseq ?_
                    refine cseq ?_
                    refine cregion ?_
                    first | (refine sv rfl (opv_mv rfl) ?_) | (refine sv rfl (opv_mvt rfl) ?_)
                    first | (refine sv rfl (opv_mv rfl) ?_) | (refine sv rfl (opv_mvt rfl) ?_)
                    refine sv rfl (opv_lss rfl rfl) ?_
                    refine snil ?_
                    refine ccond rfl (fun hc4 => ?_) (fun hc4 => ?_)
                    · replace hc4 := of_decide_eq_true hc4
                      obtain ⟨x, hx⟩ : ∃ x, L[i]? = some x := ⟨_, List.getElem?_eq_getElem (by omega)⟩
                      have hxm := rowA_mem.1 (hp.mem_iff.1 (List.mem_of_getElem? hx))
                      have hq : saneSeqM x = true := (saneSeqM_iff x).2 ⟨by omega, by omega⟩
                      have hns : seenM b u x = false := by
                        cases hh : seenM b u x with
                        | false => rfl
                        | true => exact absurd ((hsy x hq).1 hh) (fresh_of hnd hx)
                      have hge := seen_ge hs hq hns
                      obtain ⟨z1, _⟩ := accept_zero hs hq hns (by omega)
                      obtain ⟨s1, _, s3⟩ := accept_spec hs z1
                      have hbf := base_first hs (by omega)
                      first
                      | (exfalso; first | omega | contradiction | exact hc4 rfl)
                      | (
                          refine cskip ?_
                          refine then_normal ?_
                          refine cseq ?_
                          refine cblock ?_
                          refine cseq ?_
                          refine cregion ?_
                          first | (refine sv rfl (opv_loadN ti26 rfl (.lp _ _ _ rfl) (Nat.le_of_ble_eq_true rfl)) ?_) | (refine sv rfl (opv_loadN ti26 rfl (.cp _) (Nat.le_of_ble_eq_true rfl)) ?_)
                          refine scall1 rfl fn18 (opnds_cons rfl (opnds_cons rfl opnds_nil)) (pubA_id rfl) (missing_c (by omega)) ?_
                          obtain ⟨M, hM⟩ : ∃ M, missM b u 64 = M ∧ True := ⟨_, rfl, trivial⟩
                          rw [hM.1] at hbf ⊢
                          have hml : 0 < M.length := (List.getElem?_eq_some_iff.1 hbf).1
                          first | (refine sv rfl (opv_as rfl) ?_) | (refine sv rfl (opv_ast rfl) ?_)
                          refine snil ?_
                          refine cseq ?_
                          refine cseq ?_
                          refine cdraw mixed (by kernel_rfl) ?_
                          first | (refine dv rfl (opv_mv rfl) ?_) | (refine dv rfl (opv_mvt rfl) ?_)
                          first | (refine dv rfl (opv_len_sl si39 rfl) ?_) | (refine dv rfl (opv_len_nil si39 rfl) ?_) | (refine dv rfl (opv_len_ls si39 rfl rfl (by first | rfl | omega)) ?_)
                          refine dv rfl (opv_ieql rfl rfl) ?_
                          first | (refine dv rfl (opv_mv rfl) ?_) | (refine dv rfl (opv_mvt rfl) ?_)
                          refine dsplit 85 rfl (fun hg5 => ?_) (fun hg5 => ?_)
                          · replace hg5 := of_decide_eq_true hg5
                            first
                            | (exfalso; first | omega | contradiction | exact hg5 rfl)
                            | (
                                refine doff rfl rfl rfl rfl ?_
                                refine doff rfl rfl rfl rfl ?_
                                refine doff rfl rfl rfl rfl ?_
                                refine doff rfl rfl rfl rfl ?_
                                refine doff rfl rfl rfl rfl ?_
                                refine doff rfl rfl rfl rfl ?_
                                first | (refine dv rfl (opv_pick_t rfl rfl) ?_) | (refine dv rfl (opv_pick_f rfl rfl) ?_)
                                refine dnil ?_
                                refine then_normal ?_
                                refine ccond rfl (fun _ => ?_) (fun hx => Bool.noConfusion hx)
                                refine cseq ?_
                                refine cregion ?_
                                first | (refine sv rfl (opv_as rfl) ?_) | (refine sv rfl (opv_ast rfl) ?_)
                                refine snil ?_
                                refine cret ?_
                                refine then_ret ?_
                                refine block_ret ?_
                                refine then_ret ?_
                                refine then_ret ?_
                                refine block_ret ?_
                                refine then_ret ?_
                                refine ⟨Or.inr rfl, _, _, _, (resVs_cons (ResV.tmp _ _ rfl) resVs_nil), (pubA_id rfl), ?_⟩
                                first | rfl | exact avb (decide_eq_true rfl))
                          · replace hg5 := of_decide_eq_false hg5
                            first
                            | (exfalso; first | omega | contradiction | exact hg5 rfl)
                            | (
                                first | (refine dvg rfl rfl rfl (opv_mv rfl) ?_) | (refine dvg rfl rfl rfl (opv_mvt rfl) ?_)
                                first | (refine dvg rfl rfl rfl (opv_indexAddr_sl si39 rfl rfl (by omega) (by omega)) ?_) | (refine dvg rfl rfl rfl (opv_indexAddr_ls si39 rfl rfl rfl (by first | rfl | omega) (by omega) (by omega)) ?_)
                                first | (refine dvg rfl rfl rfl (opv_load1 ti3 rfl (.lp _ _ _ rfl) rfl) ?_) | (refine dvg rfl rfl rfl (opv_load1 ti3 rfl (.cp _) rfl) ?_) | (refine dvg rfl rfl rfl (opv_load1 ti3 rfl (.cp _) (il_drop hx)) ?_) | (refine dvg rfl rfl rfl (opv_load1 ti3 rfl (.cp _) (il_drop hbf)) ?_) | (refine dvg rfl rfl rfl (opv_load1 ti3 rfl (.ap _ _ _ _ _ _ _ rfl (by omega)) (il_drop hxa)) ?_) | (refine dvg rfl rfl rfl (opv_load1 ti3 rfl (.ap _ _ _ _ _ _ _ rfl (by omega)) (il_drop hxc)) ?_) | (refine dvg rfl rfl rfl (opv_load1 ti3 rfl (.ap _ _ _ _ _ _ _ rfl (by omega)) (il_drop hx)) ?_) | (refine dvg rfl rfl rfl (opv_load1 ti3 rfl (.ap _ _ _ _ _ _ _ rfl (by first | rfl | omega)) rfl) ?_)
                                first | (refine dvg rfl rfl rfl (opv_fieldAddr_lp fi26_0 rfl) ?_) | (refine dvg rfl rfl rfl (opv_fieldAddr_cp fi26_0 rfl) ?_) | (refine dvg rfl rfl rfl (opv_fieldAddr_ap fi26_0 rfl rfl (by first | rfl | omega)) ?_)
                                first | (refine dvg rfl rfl rfl (opv_load1 ti3 rfl (.lp _ _ _ rfl) rfl) ?_) | (refine dvg rfl rfl rfl (opv_load1 ti3 rfl (.cp _) rfl) ?_) | (refine dvg rfl rfl rfl (opv_load1 ti3 rfl (.cp _) (il_drop hx)) ?_) | (refine dvg rfl rfl rfl (opv_load1 ti3 rfl (.cp _) (il_drop hbf)) ?_) | (refine dvg rfl rfl rfl (opv_load1 ti3 rfl (.ap _ _ _ _ _ _ _ rfl (by omega)) (il_drop hxa)) ?_) | (refine dvg rfl rfl rfl (opv_load1 ti3 rfl (.ap _ _ _ _ _ _ _ rfl (by omega)) (il_drop hxc)) ?_) | (refine dvg rfl rfl rfl (opv_load1 ti3 rfl (.ap _ _ _ _ _ _ _ rfl (by omega)) (il_drop hx)) ?_) | (refine dvg rfl rfl rfl (opv_load1 ti3 rfl (.ap _ _ _ _ _ _ _ rfl (by first | rfl | omega)) rfl) ?_)
                                refine dvg rfl rfl rfl (opv_ineq rfl rfl) ?_
                                first | (refine dv rfl (opv_pick_t rfl rfl) ?_) | (refine dv rfl (opv_pick_f rfl rfl) ?_)
                                refine dnil ?_
                                refine then_normal ?_
                                refine ccond rfl (fun hc6 => ?_) (fun hc6 => ?_)
                                · replace hc6 := ndec_t hc6
                                  first
                                  | (exfalso; first | omega | contradiction | exact hc6 rfl)
                                  | (
                                      refine cseq ?_
                                      refine cregion ?_
                                      first | (refine sv rfl (opv_as rfl) ?_) | (refine sv rfl (opv_ast rfl) ?_)
                                      refine snil ?_
                                      refine cret ?_
                                      refine then_ret ?_
                                      refine block_ret ?_
                                      refine then_ret ?_
                                      refine then_ret ?_
                                      refine block_ret ?_
                                      refine then_ret ?_
                                      refine ⟨Or.inr rfl, _, _, _, (resVs_cons (ResV.tmp _ _ rfl) resVs_nil), (pubA_id rfl), ?_⟩
                                      first | rfl | exact avb (decide_eq_true rfl))
                                · replace hc6 := ndec_f hc6
                                  first
                                  | (exfalso; first | omega | contradiction | exact hc6 rfl)
                                  | (
                                      refine cskip ?_
                                      refine then_normal ?_
                                      refine cseq ?_
                                      refine cdraw_as (zl := [.i .i64 0, .i .u64 0]) 10 9 mixed (by kernel_rfl) rfl rfl (by kernel_rfl) sz26 zi26 ?_
                                      first | (refine mv rfl (opv_loadN ti26 rfl (.lp _ _ _ rfl) (Nat.le_of_ble_eq_true rfl)) ?_) | (refine mv rfl (opv_loadN ti26 rfl (.cp _) (Nat.le_of_ble_eq_true rfl)) ?_)
                                      first | (refine mv rfl (opv_mv rfl) ?_) | (refine mv rfl (opv_mvt rfl) ?_)
                                      first | (refine mv rfl (opv_mv rfl) ?_) | (refine mv rfl (opv_mvt rfl) ?_)
                                      first | (refine mv rfl (opv_indexAddr_sl si39 rfl rfl (by omega) (by omega)) ?_) | (refine mv rfl (opv_indexAddr_ls si39 rfl rfl rfl (by first | rfl | omega) (by omega) (by omega)) ?_)
                                      first | (refine mv rfl (opv_load1 ti3 rfl (.lp _ _ _ rfl) rfl) ?_) | (refine mv rfl (opv_load1 ti3 rfl (.cp _) rfl) ?_) | (refine mv rfl (opv_load1 ti3 rfl (.cp _) (il_drop hx)) ?_) | (refine mv rfl (opv_load1 ti3 rfl (.cp _) (il_drop hbf)) ?_) | (refine mv rfl (opv_load1 ti3 rfl (.ap _ _ _ _ _ _ _ rfl (by omega)) (il_drop hxa)) ?_) | (refine mv rfl (opv_load1 ti3 rfl (.ap _ _ _ _ _ _ _ rfl (by omega)) (il_drop hxc)) ?_) | (refine mv rfl (opv_load1 ti3 rfl (.ap _ _ _ _ _ _ _ rfl (by omega)) (il_drop hx)) ?_) | (refine mv rfl (opv_load1 ti3 rfl (.ap _ _ _ _ _ _ _ rfl (by first | rfl | omega)) rfl) ?_)
                                      refine mdd rfl (opD_call fn10 (opnds_cons rfl (opnds_cons rfl opnds_nil)) rfl (accept_c (by omega))) ?_
                                      obtain ⟨⟨⟨b2, u2⟩, e2⟩, hacc⟩ : ∃ r, acceptM b u x = r := ⟨_, rfl⟩
                                      rw [hacc] at z1 s1 s3 ⊢
                                      dsimp only at z1 s1 s3 ⊢
                                      clear hacc
                                      first | (refine mv rfl (opv_mv rfl) ?_) | (refine mv rfl (opv_mvt rfl) ?_)
                                      refine mv rfl (opv_extract rfl rfl) ?_
                                      refine mv rfl (opv_extract rfl rfl) ?_
                                      refine mal rfl ?_
                                      refine mst ?_
                                      first | (refine mv rfl (opv_as rfl) ?_) | (refine mv rfl (opv_ast rfl) ?_)
                                      refine mnil ?_
                                      refine ⟨rfl, rfl, _, rfl, rfl, ?_⟩
                                      refine then_normal ?_
                                      refine cseq ?_
                                      refine cseq ?_
                                      refine cregion ?_
                                      first | (refine sv rfl (opv_mv rfl) ?_) | (refine sv rfl (opv_mvt rfl) ?_)
                                      refine sv rfl (opv_ineq rfl rfl) ?_
                                      refine snil ?_
                                      refine ccond rfl (fun hc7 => ?_) (fun hc7 => ?_)
                                      · replace hc7 := ndec_t hc7
                                        first
                                        | (exfalso; first | omega | contradiction | exact hc7 rfl)
                                        | (
                                            refine cseq ?_
                                            refine cregion ?_
                                            first | (refine sv rfl (opv_as rfl) ?_) | (refine sv rfl (opv_ast rfl) ?_)
                                            refine snil ?_
                                            refine cret ?_
                                            refine then_ret ?_
                                            refine block_ret ?_
                                            refine then_ret ?_
                                            refine then_ret ?_
                                            refine block_ret ?_
                                            refine then_ret ?_
                                            refine ⟨Or.inr rfl, _, _, _, (resVs_cons (ResV.tmp _ _ rfl) resVs_nil), (pubA_id rfl), ?_⟩
                                            first | rfl | exact avb (decide_eq_true rfl))
                                      · replace hc7 := ndec_f hc7
                                        first
                                        | (exfalso; first | omega | contradiction | exact hc7 rfl)
                                        | (
                                            refine cskip ?_
                                            refine then_normal ?_
                                            refine cregion ?_
                                            first | (refine sv rfl (opv_loadN ti26 rfl (.lp _ _ _ rfl) (Nat.le_of_ble_eq_true rfl)) ?_) | (refine sv rfl (opv_loadN ti26 rfl (.cp _) (Nat.le_of_ble_eq_true rfl)) ?_)
                                            first | (refine sstore sz26 rfl rfl rfl rfl (Nat.le_of_ble_eq_true rfl) ?_) | (refine sstore_ap sz26 rfl rfl rfl (by first | rfl | omega) rfl (List.all_eq_true.1 rfl) (by omega) (by omega) ?_)
                                            refine snil0 ?_
                                            refine block_normal ?_
                                            refine then_normal ?_
                                            refine cregion ?_
                                            first | (refine sv rfl (opv_mv rfl) ?_) | (refine sv rfl (opv_mvt rfl) ?_)
                                            refine sv rfl (opv_add_ok rfl rfl (wrap_i64 (by omega) (by omega))) ?_
                                            first | (refine sv rfl (opv_as rfl) ?_) | (refine sv rfl (opv_ast rfl) ?_)
                                            refine snil ?_
                                            exact ⟨(i + 1, b2, u2), _, ⟨s1, by dsimp only; omega, fun y hy => by dsimp only; rw [s3, Bool.or_eq_true, decide_eq_true_eq, hsy y hy, take_next hx]⟩, ⟨rfl, rfl, rfl, rfl, rfl, trivial⟩, rfl, by dsimp only; omega⟩))))
                    · replace hc4 := of_decide_eq_false hc4
                      obtain ⟨hbk, hu0⟩ := order_end (k := kk) (by omega) hs (fun y hy => by rw [hsy y hy, List.take_of_length_le (by omega), hp.mem_iff, rowA_mem])
                      subst hbk
                      subst hu0
                      first
                      | (exfalso; first | omega | contradiction | exact hc4 rfl)
                      | (
                          refine cexit ?_
                          refine then_exit ?_
                          refine then_exit ?_
                          refine block_hit ?_
                          refine then_normal ?_
                          refine cseq ?_
                          refine cregion ?_
                          first | (refine sv rfl (opv_loadN ti26 rfl (.lp _ _ _ rfl) (Nat.le_of_ble_eq_true rfl)) ?_) | (refine sv rfl (opv_loadN ti26 rfl (.cp _) (Nat.le_of_ble_eq_true rfl)) ?_)
                          refine scall1 rfl fn18 (opnds_cons rfl (opnds_cons rfl opnds_nil)) (pubA_id rfl) (missing_c (by omega)) ?_
                          rw [miss3 (by omega)]
                          first | (refine sv rfl (opv_as rfl) ?_) | (refine sv rfl (opv_ast rfl) ?_)
                          refine snil ?_
                          refine cseq ?_
                          refine cregion ?_
                          first | (refine sv rfl (opv_mv rfl) ?_) | (refine sv rfl (opv_mvt rfl) ?_)
                          first | (refine sv rfl (opv_mv rfl) ?_) | (refine sv rfl (opv_mvt rfl) ?_)
                          refine ssplit 108 rfl (fun hg8 => ?_) (fun hg8 => ?_)
                          · first
                            | (exfalso; first | omega | contradiction | exact hg8 rfl)
                            | (
                                refine son rfl rfl rfl ?_
                                first | (refine sv rfl (opv_fieldAddr_lp fi26_0 rfl) ?_) | (refine sv rfl (opv_fieldAddr_cp fi26_0 rfl) ?_) | (refine sv rfl (opv_fieldAddr_ap fi26_0 rfl rfl (by first | rfl | omega)) ?_)
                                refine son rfl rfl rfl ?_
                                first | (refine sv rfl (opv_load1 ti3 rfl (.lp _ _ _ rfl) rfl) ?_) | (refine sv rfl (opv_load1 ti3 rfl (.cp _) rfl) ?_) | (refine sv rfl (opv_load1 ti3 rfl (.cp _) (il_drop hx)) ?_) | (refine sv rfl (opv_load1 ti3 rfl (.cp _) (il_drop hbf)) ?_) | (refine sv rfl (opv_load1 ti3 rfl (.ap _ _ _ _ _ _ _ rfl (by omega)) (il_drop hxa)) ?_) | (refine sv rfl (opv_load1 ti3 rfl (.ap _ _ _ _ _ _ _ rfl (by omega)) (il_drop hxc)) ?_) | (refine sv rfl (opv_load1 ti3 rfl (.ap _ _ _ _ _ _ _ rfl (by omega)) (il_drop hx)) ?_) | (refine sv rfl (opv_load1 ti3 rfl (.ap _ _ _ _ _ _ _ rfl (by first | rfl | omega)) rfl) ?_)
                                refine son rfl rfl rfl ?_
                                first | (refine sv rfl (opv_mv rfl) ?_) | (refine sv rfl (opv_mvt rfl) ?_)
                                refine son rfl rfl rfl ?_
                                refine sv rfl (opv_ieql rfl rfl) ?_
                                first | (refine sv rfl (opv_pick_t rfl rfl) ?_) | (refine sv rfl (opv_pick_f rfl rfl) ?_)
                                first | (refine sv rfl (opv_mv rfl) ?_) | (refine sv rfl (opv_mvt rfl) ?_)
                                refine ssplit 114 rfl (fun hg9 => ?_) (fun hg9 => ?_)
                                · replace hg9 := of_decide_eq_true hg9
                                  first
                                  | (exfalso; first | omega | contradiction | exact hg9 rfl)
                                  | (
                                      refine son rfl rfl rfl ?_
                                      first | (refine sv rfl (opv_fieldAddr_lp fi26_1 rfl) ?_) | (refine sv rfl (opv_fieldAddr_cp fi26_1 rfl) ?_) | (refine sv rfl (opv_fieldAddr_ap fi26_1 rfl rfl (by first | rfl | omega)) ?_)
                                      refine son rfl rfl rfl ?_
                                      first | (refine sv rfl (opv_load1 ti22 rfl (.lp _ _ _ rfl) rfl) ?_) | (refine sv rfl (opv_load1 ti22 rfl (.cp _) rfl) ?_) | (refine sv rfl (opv_load1 ti22 rfl (.cp _) (il_drop hx)) ?_) | (refine sv rfl (opv_load1 ti22 rfl (.cp _) (il_drop hbf)) ?_) | (refine sv rfl (opv_load1 ti22 rfl (.ap _ _ _ _ _ _ _ rfl (by omega)) (il_drop hxa)) ?_) | (refine sv rfl (opv_load1 ti22 rfl (.ap _ _ _ _ _ _ _ rfl (by omega)) (il_drop hxc)) ?_) | (refine sv rfl (opv_load1 ti22 rfl (.ap _ _ _ _ _ _ _ rfl (by omega)) (il_drop hx)) ?_) | (refine sv rfl (opv_load1 ti22 rfl (.ap _ _ _ _ _ _ _ rfl (by first | rfl | omega)) rfl) ?_)
                                      refine son rfl rfl rfl ?_
                                      refine sv rfl (opv_ieql rfl rfl) ?_
                                      first | (refine sv rfl (opv_pick_t rfl rfl) ?_) | (refine sv rfl (opv_pick_f rfl rfl) ?_)
                                      first | (refine sv rfl (opv_mv rfl) ?_) | (refine sv rfl (opv_mvt rfl) ?_)
                                      refine ssplit 119 rfl (fun hg10 => ?_) (fun hg10 => ?_)
                                      · replace hg10 := of_decide_eq_true hg10
                                        first
                                        | (exfalso; first | omega | contradiction | exact hg10 rfl)
                                        | (
                                            refine son rfl rfl rfl ?_
                                            first | (refine sv rfl (opv_mv rfl) ?_) | (refine sv rfl (opv_mvt rfl) ?_)
                                            refine son rfl rfl rfl ?_
                                            first | (refine sv rfl (opv_len_sl si39 rfl) ?_) | (refine sv rfl (opv_len_nil si39 rfl) ?_) | (refine sv rfl (opv_len_ls si39 rfl rfl (by first | rfl | omega)) ?_)
                                            refine son rfl rfl rfl ?_
                                            refine sv rfl (opv_ieql rfl rfl) ?_
                                            first | (refine sv rfl (opv_pick_t rfl rfl) ?_) | (refine sv rfl (opv_pick_f rfl rfl) ?_)
                                            first | (refine sv rfl (opv_mv rfl) ?_) | (refine sv rfl (opv_mvt rfl) ?_)
                                            refine ssplit 124 rfl (fun hg11 => ?_) (fun hg11 => ?_)
                                            · replace hg11 := of_decide_eq_true hg11
                                              first
                                              | (exfalso; first | omega | contradiction | exact hg11 rfl)
                                              | (
                                                  refine son rfl rfl rfl ?_
                                                  first | (refine sv rfl (opv_mv rfl) ?_) | (refine sv rfl (opv_mvt rfl) ?_)
                                                  refine son rfl rfl rfl ?_
                                                  first | (refine sv rfl (opv_indexAddr_sl si39 rfl rfl (by omega) (by omega)) ?_) | (refine sv rfl (opv_indexAddr_ls si39 rfl rfl rfl (by first | rfl | omega) (by omega) (by omega)) ?_)
                                                  refine son rfl rfl rfl ?_
                                                  first | (refine sv rfl (opv_load1 ti3 rfl (.lp _ _ _ rfl) rfl) ?_) | (refine sv rfl (opv_load1 ti3 rfl (.cp _) rfl) ?_) | (refine sv rfl (opv_load1 ti3 rfl (.cp _) (il_drop hx)) ?_) | (refine sv rfl (opv_load1 ti3 rfl (.cp _) (il_drop hbf)) ?_) | (refine sv rfl (opv_load1 ti3 rfl (.ap _ _ _ _ _ _ _ rfl (by omega)) (il_drop hxa)) ?_) | (refine sv rfl (opv_load1 ti3 rfl (.ap _ _ _ _ _ _ _ rfl (by omega)) (il_drop hxc)) ?_) | (refine sv rfl (opv_load1 ti3 rfl (.ap _ _ _ _ _ _ _ rfl (by omega)) (il_drop hx)) ?_) | (refine sv rfl (opv_load1 ti3 rfl (.ap _ _ _ _ _ _ _ rfl (by first | rfl | omega)) rfl) ?_)
                                                  refine son rfl rfl rfl ?_
                                                  first | (refine sv rfl (opv_mv rfl) ?_) | (refine sv rfl (opv_mvt rfl) ?_)
                                                  refine son rfl rfl rfl ?_
                                                  refine sv rfl (opv_add_ok rfl rfl (wrap_i64 (by omega) (by omega))) ?_
                                                  refine son rfl rfl rfl ?_
                                                  refine sv rfl (opv_ieql rfl rfl) ?_
                                                  first | (refine sv rfl (opv_pick_t rfl rfl) ?_) | (refine sv rfl (opv_pick_f rfl rfl) ?_)
                                                  first | (refine sv rfl (opv_as rfl) ?_) | (refine sv rfl (opv_ast rfl) ?_)
                                                  refine snil ?_
                                                  refine cret ?_
                                                  refine ⟨Or.inr rfl, _, _, _, (resVs_cons (ResV.tmp _ _ rfl) resVs_nil), (pubA_id rfl), ?_⟩
                                                  first | rfl | exact avb (decide_eq_true rfl))
                                            · replace hg11 := of_decide_eq_false hg11
                                              first
                                              | (exfalso; first | omega | contradiction | exact hg11 rfl)
                                              | (
                                                  refine soff rfl rfl rfl rfl ?_
                                                  refine soff rfl rfl rfl rfl ?_
                                                  refine soff rfl rfl rfl rfl ?_
                                                  refine soff rfl rfl rfl rfl ?_
                                                  refine soff rfl rfl rfl rfl ?_
                                                  refine soff rfl rfl rfl rfl ?_
                                                  first | (refine sv rfl (opv_pick_t rfl rfl) ?_) | (refine sv rfl (opv_pick_f rfl rfl) ?_)
                                                  first | (refine sv rfl (opv_as rfl) ?_) | (refine sv rfl (opv_ast rfl) ?_)
                                                  refine snil ?_
                                                  refine cret ?_
                                                  refine ⟨Or.inr rfl, _, _, _, (resVs_cons (ResV.tmp _ _ rfl) resVs_nil), (pubA_id rfl), ?_⟩
                                                  first | rfl | exact avb (decide_eq_true rfl)))
                                      · replace hg10 := of_decide_eq_false hg10
                                        first
                                        | (exfalso; first | omega | contradiction | exact hg10 rfl)
                                        | (
                                            refine soff rfl rfl rfl rfl ?_
                                            refine soff rfl rfl rfl rfl ?_
                                            refine soff rfl rfl rfl rfl ?_
                                            first | (refine sv rfl (opv_pick_t rfl rfl) ?_) | (refine sv rfl (opv_pick_f rfl rfl) ?_)
                                            first | (refine sv rfl (opv_mv rfl) ?_) | (refine sv rfl (opv_mvt rfl) ?_)
                                            refine soff rfl rfl rfl rfl ?_
                                            refine soff rfl rfl rfl rfl ?_
                                            refine soff rfl rfl rfl rfl ?_
                                            refine soff rfl rfl rfl rfl ?_
                                            refine soff rfl rfl rfl rfl ?_
                                            refine soff rfl rfl rfl rfl ?_
                                            first | (refine sv rfl (opv_pick_t rfl rfl) ?_) | (refine sv rfl (opv_pick_f rfl rfl) ?_)
                                            first | (refine sv rfl (opv_as rfl) ?_) | (refine sv rfl (opv_ast rfl) ?_)
                                            refine snil ?_
                                            refine cret ?_
                                            refine ⟨Or.inr rfl, _, _, _, (resVs_cons (ResV.tmp _ _ rfl) resVs_nil), (pubA_id rfl), ?_⟩
                                            first | rfl | exact avb (decide_eq_true rfl)))
                                · replace hg9 := of_decide_eq_false hg9
                                  first
                                  | (exfalso; first | omega | contradiction | exact hg9 rfl)
                                  | (
                                      refine soff rfl rfl rfl rfl ?_
                                      refine soff rfl rfl rfl rfl ?_
                                      refine soff rfl rfl rfl rfl ?_
                                      first | (refine sv rfl (opv_pick_t rfl rfl) ?_) | (refine sv rfl (opv_pick_f rfl rfl) ?_)
                                      first | (refine sv rfl (opv_mv rfl) ?_) | (refine sv rfl (opv_mvt rfl) ?_)
                                      refine soff rfl rfl rfl rfl ?_
                                      refine soff rfl rfl rfl rfl ?_
                                      refine soff rfl rfl rfl rfl ?_
                                      first | (refine sv rfl (opv_pick_t rfl rfl) ?_) | (refine sv rfl (opv_pick_f rfl rfl) ?_)
                                      first | (refine sv rfl (opv_mv rfl) ?_) | (refine sv rfl (opv_mvt rfl) ?_)
                                      refine soff rfl rfl rfl rfl ?_
                                      refine soff rfl rfl rfl rfl ?_
                                      refine soff rfl rfl rfl rfl ?_
                                      refine soff rfl rfl rfl rfl ?_
                                      refine soff rfl rfl rfl rfl ?_
                                      refine soff rfl rfl rfl rfl ?_
                                      first | (refine sv rfl (opv_pick_t rfl rfl) ?_) | (refine sv rfl (opv_pick_f rfl rfl) ?_)
                                      first | (refine sv rfl (opv_as rfl) ?_) | (refine sv rfl (opv_ast rfl) ?_)
                                      refine snil ?_
                                      refine cret ?_
                                      refine ⟨Or.inr rfl, _, _, _, (resVs_cons (ResV.tmp _ _ rfl) resVs_nil), (pubA_id rfl), ?_⟩
                                      first | rfl | exact avb (decide_eq_true rfl)))
                          · first
                            | (exfalso; first | omega | contradiction | exact hg8 rfl)
                            | (
                                refine soff rfl rfl rfl rfl ?_
                                refine soff rfl rfl rfl rfl ?_
                                refine soff rfl rfl rfl rfl ?_
                                refine soff rfl rfl rfl rfl ?_
                                first | (refine sv rfl (opv_pick_t rfl rfl) ?_) | (refine sv rfl (opv_pick_f rfl rfl) ?_)
                                first | (refine sv rfl (opv_mv rfl) ?_) | (refine sv rfl (opv_mvt rfl) ?_)
                                refine soff rfl rfl rfl rfl ?_
                                refine soff rfl rfl rfl rfl ?_
                                refine soff rfl rfl rfl rfl ?_
                                first | (refine sv rfl (opv_pick_t rfl rfl) ?_) | (refine sv rfl (opv_pick_f rfl rfl) ?_)
                                first | (refine sv rfl (opv_mv rfl) ?_) | (refine sv rfl (opv_mvt rfl) ?_)
                                refine soff rfl rfl rfl rfl ?_
                                refine soff rfl rfl rfl rfl ?_
                                refine soff rfl rfl rfl rfl ?_
                                first | (refine sv rfl (opv_pick_t rfl rfl) ?_) | (refine sv rfl (opv_pick_f rfl rfl) ?_)
                                first | (refine sv rfl (opv_mv rfl) ?_) | (refine sv rfl (opv_mvt rfl) ?_)
                                refine soff rfl rfl rfl rfl ?_
                                refine soff rfl rfl rfl rfl ?_
                                refine soff rfl rfl rfl rfl ?_
                                refine soff rfl rfl rfl rfl ?_
                                refine soff rfl rfl rfl rfl ?_
                                refine soff rfl rfl rfl rfl ?_
                                first | (refine sv rfl (opv_pick_t rfl rfl) ?_) | (refine sv rfl (opv_pick_f rfl rfl) ?_)
                                first | (refine sv rfl (opv_as rfl) ?_) | (refine sv rfl (opv_ast rfl) ?_)
                                refine snil ?_
                                refine cret ?_
                                refine ⟨Or.inr rfl, _, _, _, (resVs_cons (ResV.tmp _ _ rfl) resVs_nil), (pubA_id rfl), ?_⟩
                                first | rfl | exact avb (decide_eq_true rfl))))))

end Go.Proofs.Ytaffjoloefhodaa.Abs
