/-
  seqs
-/
import Derived.Test.YtaffjoloefhodaaQ0
import Derived.Test.YtaffjoloefhodaaProg
namespace Go.Proofs.Ytaffjoloefhodaa.Abs
open Go.RowKit Go.Proofs
set_option maxRecDepth 100000

abbrev il (xs : List Int) : List Lf := xs.map fun n => .i .i64 n
theorem il_drop {xs : List Int} {i : Nat} {x : Int} (h : xs[i]? = some x) : ((il xs).drop (i * 1))[0]? = some (.i .i64 x) := by
  rw [List.getElem?_drop, Nat.mul_one, Nat.add_zero, List.getElem?_map, h]; rfl


theorem fi26_0 : FI Try.prog 26 0 0 := ⟨⟨_, _, 1, Try.underlying26, rfl, rfl, by kernel_rfl, by decide⟩⟩
theorem ti3 : TI Try.prog 3 false 1 := ⟨⟨_, Try.underlying3, rfl⟩, by kernel_rfl⟩
theorem fi26_1 : FI Try.prog 26 1 1 := ⟨⟨_, _, 1, Try.underlying26, rfl, rfl, by kernel_rfl, by decide⟩⟩
theorem ti22 : TI Try.prog 22 false 1 := ⟨⟨_, Try.underlying22, rfl⟩, by kernel_rfl⟩
theorem fn24 : FnI Try.prog 24 := ⟨⟨_, Try.func24, by kernel_rfl, by kernel_rfl⟩⟩
theorem zi26 : ZI Try.prog 26 ([.i .i64 0, .i .u64 0]) := zi_of (by kernel_rfl)
theorem sz3 : (Try.prog.info? 3).map (·.size) = some 1 := by kernel_rfl
theorem sz22 : (Try.prog.info? 22).map (·.size) = some 1 := by kernel_rfl
theorem ti26 : TI Try.prog 26 true 2 := ⟨⟨_, Try.underlying26, rfl⟩, by kernel_rfl⟩
theorem sz26 : (Try.prog.info? 26).map (·.size) = some 2 := by kernel_rfl
theorem fn13 : FnI Try.prog 13 := ⟨⟨_, Try.func13, by kernel_rfl, by kernel_rfl⟩⟩
theorem fn22 : FnI Try.prog 22 := ⟨⟨_, Try.func22, by kernel_rfl, by kernel_rfl⟩⟩
theorem pi26 : PI Try.prog 26 [(0, 1), (1, 1)] := pi_of Try.underlying26 (by kernel_rfl) (by kernel_rfl)
theorem fn15 : FnI Try.prog 15 := ⟨⟨_, Try.func15, by kernel_rfl, by kernel_rfl⟩⟩
theorem mixed : Try.prog.follows .mixedOrders = true := by kernel_rfl
theorem fn23 : FnI Try.prog 23 := ⟨⟨_, Try.func23, by kernel_rfl, by kernel_rfl⟩⟩
theorem fn10 : FnI Try.prog 10 := ⟨⟨_, Try.func10, by kernel_rfl, by kernel_rfl⟩⟩
theorem fn8 : FnI Try.prog 8 := ⟨⟨_, Try.func8, by kernel_rfl, by kernel_rfl⟩⟩
theorem si39 : SI Try.prog 39 3 1 := ⟨Try.underlying39, by kernel_rfl, by decide⟩

theorem digit_c {u : BitVec 64} {i : Int} (hi : 0 ≤ i) : CallsA Try.prog 24 [.one (.i .u64 (u.toNat : Int)), .one (.i .i64 i)] (· = .s (.one (.b (u.getLsbD i.toNat)))) := by
  refine callsA_of Try.func24 rfl (nt := 10) rfl (Nat.le_of_ble_eq_true rfl) ?_
  intro w0 S0
  refine cseq ?_
  refine cregion ?_
  first | (refine sv rfl (opv_as rfl) ?_) | (refine sv rfl (opv_ast rfl) ?_)
  refine snil ?_
  refine cseq ?_
  refine cregion ?_
  first | (refine sv rfl (opv_mv rfl) ?_) | (refine sv rfl (opv_mvt rfl) ?_)
  first | (refine sv rfl (opv_mv rfl) ?_) | (refine sv rfl (opv_mvt rfl) ?_)
  refine sv rfl (opv_shr_u64 rfl rfl rfl (by omega)) ?_
  refine sv rfl (opv_and_u64 rfl rfl rfl (show ((1 : Int)) = ((1#64).toNat : Int) from rfl)) ?_
  refine sv rfl (opv_ieql rfl rfl) ?_
  first | (refine sv rfl (opv_as rfl) ?_) | (refine sv rfl (opv_ast rfl) ?_)
  refine snil ?_
  refine cret ?_
  refine ⟨Or.inr rfl, _, _, _, (resVs_cons (ResV.tmp _ _ rfl) resVs_nil), (by (repeat' first | exact pubA_id rfl | exact PubA.nil _ | refine PubA.cons _ ?_ _ _ _ _ _ ?_ ?_ | refine PubV.one _ _ _ _ ?_ | refine PubV.agg _ _ _ _ ?_ | exact PubL.nil | exact PubL.id _ rfl | exact PubL.ls _ _ _ _ _ _ rfl (by first | rfl | omega) | exact PubLs.all _ _ (List.all_eq_true.1 rfl) | refine PubLs.cons _ ?_ _ _ _ _ _ ?_ ?_ | exact PubLs.nil _)), ?_⟩
  show AV.s (.one (.b (decide ((((u >>> i.toNat) &&& 1#64).toNat : Int) = 1)))) = _
  rw [digit_eq]

theorem saneSeq_c {s : Int} : CallsA Try.prog 22 [.one (.i .i64 s)] (· = .s (.one (.b (saneSeqM s)))) := by
  refine callsA_of Try.func22 rfl (nt := 9) rfl (Nat.le_of_ble_eq_true rfl) ?_
  intro w0 S0
  refine cseq ?_
  refine cregion ?_
  first | (refine sv rfl (opv_as rfl) ?_) | (refine sv rfl (opv_ast rfl) ?_)
  refine snil ?_
  refine cseq ?_
  refine cregion ?_
  first | (refine sv rfl (opv_mv rfl) ?_) | (refine sv rfl (opv_mvt rfl) ?_)
  refine sv rfl (opv_geq rfl rfl) ?_
  first | (refine sv rfl (opv_mv rfl) ?_) | (refine sv rfl (opv_mvt rfl) ?_)
  refine ssplit 5 rfl (fun hg1 => ?_) (fun hg1 => ?_)
  · replace hg1 := of_decide_eq_true hg1
    first
    | (exfalso; first | omega | contradiction)
    | (
        refine son rfl rfl rfl ?_
        first | (refine sv rfl (opv_mv rfl) ?_) | (refine sv rfl (opv_mvt rfl) ?_)
        refine son rfl rfl rfl ?_
        refine sv rfl (opv_leq rfl rfl) ?_
        first | (refine sv rfl (opv_pick_t rfl rfl) ?_) | (refine sv rfl (opv_pick_f rfl rfl) ?_)
        first | (refine sv rfl (opv_as rfl) ?_) | (refine sv rfl (opv_ast rfl) ?_)
        refine snil ?_
        refine cret ?_
        refine ⟨Or.inr rfl, _, _, _, (resVs_cons (ResV.tmp _ _ rfl) resVs_nil), (by (repeat' first | exact pubA_id rfl | exact PubA.nil _ | refine PubA.cons _ ?_ _ _ _ _ _ ?_ ?_ | refine PubV.one _ _ _ _ ?_ | refine PubV.agg _ _ _ _ ?_ | exact PubL.nil | exact PubL.id _ rfl | exact PubL.ls _ _ _ _ _ _ rfl (by first | rfl | omega) | exact PubLs.all _ _ (List.all_eq_true.1 rfl) | refine PubLs.cons _ ?_ _ _ _ _ _ ?_ ?_ | exact PubLs.nil _)), ?_⟩
        refine avb ?_
        unfold saneSeqM
        first | (simp; omega) | simp_all)
  · replace hg1 := of_decide_eq_false hg1
    first
    | (exfalso; first | omega | contradiction)
    | (
        refine soff rfl rfl rfl rfl ?_
        refine soff rfl rfl rfl rfl ?_
        first | (refine sv rfl (opv_pick_t rfl rfl) ?_) | (refine sv rfl (opv_pick_f rfl rfl) ?_)
        first | (refine sv rfl (opv_as rfl) ?_) | (refine sv rfl (opv_ast rfl) ?_)
        refine snil ?_
        refine cret ?_
        refine ⟨Or.inr rfl, _, _, _, (resVs_cons (ResV.tmp _ _ rfl) resVs_nil), (by (repeat' first | exact pubA_id rfl | exact PubA.nil _ | refine PubA.cons _ ?_ _ _ _ _ _ ?_ ?_ | refine PubV.one _ _ _ _ ?_ | refine PubV.agg _ _ _ _ ?_ | exact PubL.nil | exact PubL.id _ rfl | exact PubL.ls _ _ _ _ _ _ rfl (by first | rfl | omega) | exact PubLs.all _ _ (List.all_eq_true.1 rfl) | refine PubLs.cons _ ?_ _ _ _ _ _ ?_ ?_ | exact PubLs.nil _)), ?_⟩
        refine avb ?_
        unfold saneSeqM
        first | (simp; omega) | simp_all)

theorem sane_c {b : Int} {u : BitVec 64} (hb : -9223372036854775808 ≤ b ∧ b ≤ 9223372036854775807) : CallsA Try.prog 13 [wsv b u] (· = .s (.one (.b (saneM b u)))) := by
  refine callsA_of Try.func13 rfl (nt := 23) rfl (Nat.le_of_ble_eq_true rfl) ?_
  intro w0 S0
  refine cseq ?_
  refine cregion ?_
  refine sbox rfl rfl ?_
  first | (refine sv rfl (opv_as rfl) ?_) | (refine sv rfl (opv_ast rfl) ?_)
  refine snil ?_
  refine cseq ?_
  refine cseq ?_
  refine cregion ?_
  first | (refine sv rfl (opv_fieldAddr_lp fi26_0 rfl) ?_) | (refine sv rfl (opv_fieldAddr_cp fi26_0 rfl) ?_) | (refine sv rfl (opv_fieldAddr_ap fi26_0 rfl rfl (by first | rfl | omega)) ?_)
  first | (refine sv rfl (opv_load1 ti3 rfl (.lp _ _ _ rfl) rfl) ?_) | (refine sv rfl (opv_load1 ti3 rfl (.cp _) rfl) ?_) | (refine sv rfl (opv_load1 ti3 rfl (.ap _ _ _ _ _ _ _ rfl (by first | rfl | omega)) rfl) ?_)
  refine sv rfl (opv_lss rfl rfl) ?_
  first | (refine sv rfl (opv_mv rfl) ?_) | (refine sv rfl (opv_mvt rfl) ?_)
  refine ssplit 6 rfl (fun hg1 => ?_) (fun hg1 => ?_)
  · replace hg1 := of_decide_eq_true hg1
    first
    | (exfalso; first | omega | contradiction)
    | (
        refine soff rfl rfl rfl rfl ?_
        refine soff rfl rfl rfl rfl ?_
        refine soff rfl rfl rfl rfl ?_
        first | (refine sv rfl (opv_pick_t rfl rfl) ?_) | (refine sv rfl (opv_pick_f rfl rfl) ?_)
        first | (refine sv rfl (opv_mv rfl) ?_) | (refine sv rfl (opv_mvt rfl) ?_)
        refine soff rfl rfl rfl rfl ?_
        refine soff rfl rfl rfl rfl ?_
        refine soff rfl rfl rfl rfl ?_
        first | (refine sv rfl (opv_pick_t rfl rfl) ?_) | (refine sv rfl (opv_pick_f rfl rfl) ?_)
        refine snil ?_
        refine ccond rfl (fun _ => ?_) (fun hx => Bool.noConfusion hx)
        refine cseq ?_
        refine cregion ?_
        first | (refine sv rfl (opv_as rfl) ?_) | (refine sv rfl (opv_ast rfl) ?_)
        refine snil ?_
        refine cret ?_
        refine then_ret ?_
        refine ⟨Or.inr rfl, _, _, _, (resVs_cons (ResV.tmp _ _ rfl) resVs_nil), (by (repeat' first | exact pubA_id rfl | exact PubA.nil _ | refine PubA.cons _ ?_ _ _ _ _ _ ?_ ?_ | refine PubV.one _ _ _ _ ?_ | refine PubV.agg _ _ _ _ ?_ | exact PubL.nil | exact PubL.id _ rfl | exact PubL.ls _ _ _ _ _ _ rfl (by first | rfl | omega) | exact PubLs.all _ _ (List.all_eq_true.1 rfl) | refine PubLs.cons _ ?_ _ _ _ _ _ ?_ ?_ | exact PubLs.nil _)), ?_⟩
        refine avb ?_
        first | (simp_all [saneM]; done) | (simp [saneM]; omega) | (rw [Bool.eq_iff_iff, saneM_iff, decide_eq_true_eq, u64_eq0]; exact ⟨fun h => ⟨by omega, by omega, by first | exact hc3 | exact hc4 | exact hc5 | exact hc6 | exact hc7, h⟩, fun h => h.2.2.2⟩))
  · replace hg1 := of_decide_eq_false hg1
    first
    | (exfalso; first | omega | contradiction)
    | (
        refine son rfl rfl rfl ?_
        first | (refine sv rfl (opv_fieldAddr_lp fi26_0 rfl) ?_) | (refine sv rfl (opv_fieldAddr_cp fi26_0 rfl) ?_) | (refine sv rfl (opv_fieldAddr_ap fi26_0 rfl rfl (by first | rfl | omega)) ?_)
        refine son rfl rfl rfl ?_
        first | (refine sv rfl (opv_load1 ti3 rfl (.lp _ _ _ rfl) rfl) ?_) | (refine sv rfl (opv_load1 ti3 rfl (.cp _) rfl) ?_) | (refine sv rfl (opv_load1 ti3 rfl (.ap _ _ _ _ _ _ _ rfl (by first | rfl | omega)) rfl) ?_)
        refine son rfl rfl rfl ?_
        refine sv rfl (opv_gtr rfl rfl) ?_
        first | (refine sv rfl (opv_pick_t rfl rfl) ?_) | (refine sv rfl (opv_pick_f rfl rfl) ?_)
        first | (refine sv rfl (opv_mv rfl) ?_) | (refine sv rfl (opv_mvt rfl) ?_)
        refine ssplit 11 rfl (fun hg2 => ?_) (fun hg2 => ?_)
        · replace hg2 := of_decide_eq_true hg2
          first
          | (exfalso; first | omega | contradiction)
          | (
              refine soff rfl rfl rfl rfl ?_
              refine soff rfl rfl rfl rfl ?_
              refine soff rfl rfl rfl rfl ?_
              first | (refine sv rfl (opv_pick_t rfl rfl) ?_) | (refine sv rfl (opv_pick_f rfl rfl) ?_)
              refine snil ?_
              refine ccond rfl (fun _ => ?_) (fun hx => Bool.noConfusion hx)
              refine cseq ?_
              refine cregion ?_
              first | (refine sv rfl (opv_as rfl) ?_) | (refine sv rfl (opv_ast rfl) ?_)
              refine snil ?_
              refine cret ?_
              refine then_ret ?_
              refine ⟨Or.inr rfl, _, _, _, (resVs_cons (ResV.tmp _ _ rfl) resVs_nil), (by (repeat' first | exact pubA_id rfl | exact PubA.nil _ | refine PubA.cons _ ?_ _ _ _ _ _ ?_ ?_ | refine PubV.one _ _ _ _ ?_ | refine PubV.agg _ _ _ _ ?_ | exact PubL.nil | exact PubL.id _ rfl | exact PubL.ls _ _ _ _ _ _ rfl (by first | rfl | omega) | exact PubLs.all _ _ (List.all_eq_true.1 rfl) | refine PubLs.cons _ ?_ _ _ _ _ _ ?_ ?_ | exact PubLs.nil _)), ?_⟩
              refine avb ?_
              first | (simp_all [saneM]; done) | (simp [saneM]; omega) | (rw [Bool.eq_iff_iff, saneM_iff, decide_eq_true_eq, u64_eq0]; exact ⟨fun h => ⟨by omega, by omega, by first | exact hc3 | exact hc4 | exact hc5 | exact hc6 | exact hc7, h⟩, fun h => h.2.2.2⟩))
        · replace hg2 := of_decide_eq_false hg2
          first
          | (exfalso; first | omega | contradiction)
          | (
              refine son rfl rfl rfl ?_
              first | (refine sv rfl (opv_fieldAddr_lp fi26_1 rfl) ?_) | (refine sv rfl (opv_fieldAddr_cp fi26_1 rfl) ?_) | (refine sv rfl (opv_fieldAddr_ap fi26_1 rfl rfl (by first | rfl | omega)) ?_)
              refine son rfl rfl rfl ?_
              first | (refine sv rfl (opv_load1 ti22 rfl (.lp _ _ _ rfl) rfl) ?_) | (refine sv rfl (opv_load1 ti22 rfl (.cp _) rfl) ?_) | (refine sv rfl (opv_load1 ti22 rfl (.ap _ _ _ _ _ _ _ rfl (by first | rfl | omega)) rfl) ?_)
              refine son rfl rfl rfl ?_
              refine scall1 rfl fn24 (opnds_cons rfl (opnds_cons rfl opnds_nil)) (by (repeat' first | exact pubA_id rfl | exact PubA.nil _ | refine PubA.cons _ ?_ _ _ _ _ _ ?_ ?_ | refine PubV.one _ _ _ _ ?_ | refine PubV.agg _ _ _ _ ?_ | exact PubL.nil | exact PubL.id _ rfl | exact PubL.ls _ _ _ _ _ _ rfl (by first | rfl | omega) | exact PubLs.all _ _ (List.all_eq_true.1 rfl) | refine PubLs.cons _ ?_ _ _ _ _ _ ?_ ?_ | exact PubLs.nil _)) (digit_c (by omega)) ?_
              first | (refine sv rfl (opv_pick_t rfl rfl) ?_) | (refine sv rfl (opv_pick_f rfl rfl) ?_)
              refine snil ?_
              refine ccond rfl (fun hc3 => ?_) (fun hc3 => ?_)
              · first
                | (exfalso; first | omega | contradiction)
                | (
                    refine cseq ?_
                    refine cregion ?_
                    first | (refine sv rfl (opv_as rfl) ?_) | (refine sv rfl (opv_ast rfl) ?_)
                    refine snil ?_
                    refine cret ?_
                    refine then_ret ?_
                    refine ⟨Or.inr rfl, _, _, _, (resVs_cons (ResV.tmp _ _ rfl) resVs_nil), (by (repeat' first | exact pubA_id rfl | exact PubA.nil _ | refine PubA.cons _ ?_ _ _ _ _ _ ?_ ?_ | refine PubV.one _ _ _ _ ?_ | refine PubV.agg _ _ _ _ ?_ | exact PubL.nil | exact PubL.id _ rfl | exact PubL.ls _ _ _ _ _ _ rfl (by first | rfl | omega) | exact PubLs.all _ _ (List.all_eq_true.1 rfl) | refine PubLs.cons _ ?_ _ _ _ _ _ ?_ ?_ | exact PubLs.nil _)), ?_⟩
                    refine avb ?_
                    first | (simp_all [saneM]; done) | (simp [saneM]; omega) | (rw [Bool.eq_iff_iff, saneM_iff, decide_eq_true_eq, u64_eq0]; exact ⟨fun h => ⟨by omega, by omega, by first | exact hc3 | exact hc4 | exact hc5 | exact hc6 | exact hc7, h⟩, fun h => h.2.2.2⟩))
              · first
                | (exfalso; first | omega | contradiction)
                | (
                    refine cskip ?_
                    refine then_normal ?_
                    refine cseq ?_
                    refine cregion ?_
                    first | (refine sv rfl (opv_fieldAddr_lp fi26_1 rfl) ?_) | (refine sv rfl (opv_fieldAddr_cp fi26_1 rfl) ?_) | (refine sv rfl (opv_fieldAddr_ap fi26_1 rfl rfl (by first | rfl | omega)) ?_)
                    first | (refine sv rfl (opv_load1 ti22 rfl (.lp _ _ _ rfl) rfl) ?_) | (refine sv rfl (opv_load1 ti22 rfl (.cp _) rfl) ?_) | (refine sv rfl (opv_load1 ti22 rfl (.ap _ _ _ _ _ _ _ rfl (by first | rfl | omega)) rfl) ?_)
                    first | (refine sv rfl (opv_fieldAddr_lp fi26_0 rfl) ?_) | (refine sv rfl (opv_fieldAddr_cp fi26_0 rfl) ?_) | (refine sv rfl (opv_fieldAddr_ap fi26_0 rfl rfl (by first | rfl | omega)) ?_)
                    first | (refine sv rfl (opv_load1 ti3 rfl (.lp _ _ _ rfl) rfl) ?_) | (refine sv rfl (opv_load1 ti3 rfl (.cp _) rfl) ?_) | (refine sv rfl (opv_load1 ti3 rfl (.ap _ _ _ _ _ _ _ rfl (by first | rfl | omega)) rfl) ?_)
                    refine sv rfl (opv_sub_ok rfl rfl (wrap_i64 (by omega) (by omega))) ?_
                    refine sv rfl (opv_shr_u64 rfl rfl rfl (by omega)) ?_
                    refine sv rfl (opv_ieql rfl rfl) ?_
                    first | (refine sv rfl (opv_as rfl) ?_) | (refine sv rfl (opv_ast rfl) ?_)
                    refine snil ?_
                    refine cret ?_
                    refine ⟨Or.inr rfl, _, _, _, (resVs_cons (ResV.tmp _ _ rfl) resVs_nil), (by (repeat' first | exact pubA_id rfl | exact PubA.nil _ | refine PubA.cons _ ?_ _ _ _ _ _ ?_ ?_ | refine PubV.one _ _ _ _ ?_ | refine PubV.agg _ _ _ _ ?_ | exact PubL.nil | exact PubL.id _ rfl | exact PubL.ls _ _ _ _ _ _ rfl (by first | rfl | omega) | exact PubLs.all _ _ (List.all_eq_true.1 rfl) | refine PubLs.cons _ ?_ _ _ _ _ _ ?_ ?_ | exact PubLs.nil _)), ?_⟩
                    refine avb ?_
                    first | (simp_all [saneM]; done) | (simp [saneM]; omega) | (rw [Bool.eq_iff_iff, saneM_iff, decide_eq_true_eq, u64_eq0]; exact ⟨fun h => ⟨by omega, by omega, by first | exact hc3 | exact hc4 | exact hc5 | exact hc6 | exact hc7, h⟩, fun h => h.2.2.2⟩))))

theorem settle_c {b : Int} {u : BitVec 64} (hb : 0 ≤ b ∧ b ≤ 4294967296) : CallsA Try.prog 23 [wsv b u] (· = .s (wsv (b + tone u) (u >>> tone u))) := by
  refine callsA_of Try.func23 rfl (nt := 15) rfl (Nat.le_of_ble_eq_true rfl) ?_
  intro w0 S0
  refine cseq ?_
  refine cregion ?_
  refine sbox rfl rfl ?_
  refine salloc rfl zi26 ?_
  refine snil ?_
  refine cseq ?_
  refine cblock ?_
  refine awc_loop (G := Nat) (fun k => [(1, .s (.one (.lp 0 0))), (2, .s (.one (.lp 1 0)))]) (fun k => [.box [.i .i64 (b + k), .i .u64 ((u >>> k).toNat : Int)], .box [.i .i64 0, .i .u64 0]]) (fun k => k ≤ 64 ∧ ∀ j, j < k → u.getLsbD j = true) (fun k => 64 - k) 0 ⟨Nat.zero_le _, fun _ h => absurd h (Nat.not_lt_zero _)⟩ ⟨rfl, rfl, trivial⟩ [] (by simp [SV.cells]) (fun _ _ => ⟨rfl, rfl, trivial⟩) (fun _ _ => blk_inb rfl) ?_
  intro k hp
  refine cseq ?_
  refine cseq ?_
  refine cregion ?_
  first | (refine sv rfl (opv_fieldAddr_lp fi26_1 rfl) ?_) | (refine sv rfl (opv_fieldAddr_cp fi26_1 rfl) ?_) | (refine sv rfl (opv_fieldAddr_ap fi26_1 rfl rfl (by first | rfl | omega)) ?_)
  first | (refine sv rfl (opv_load1 ti22 rfl (.lp _ _ _ rfl) rfl) ?_) | (refine sv rfl (opv_load1 ti22 rfl (.cp _) rfl) ?_) | (refine sv rfl (opv_load1 ti22 rfl (.ap _ _ _ _ _ _ _ rfl (by first | rfl | omega)) rfl) ?_)
  refine scall1 rfl fn24 (opnds_cons rfl (opnds_cons rfl opnds_nil)) (by (repeat' first | exact pubA_id rfl | exact PubA.nil _ | refine PubA.cons _ ?_ _ _ _ _ _ ?_ ?_ | refine PubV.one _ _ _ _ ?_ | refine PubV.agg _ _ _ _ ?_ | exact PubL.nil | exact PubL.id _ rfl | exact PubL.ls _ _ _ _ _ _ rfl (by first | rfl | omega) | exact PubLs.all _ _ (List.all_eq_true.1 rfl) | refine PubLs.cons _ ?_ _ _ _ _ _ ?_ ?_ | exact PubLs.nil _)) (digit_c (by omega)) ?_
  refine snil ?_
  refine ccond rfl (fun hc1 => ?_) (fun hc1 => ?_)
  · first
    | (exfalso; first | omega | contradiction)
    | (
        refine cskip ?_
        refine then_normal ?_
        refine cblock ?_
        refine cseq ?_
        refine cregion ?_
        first | (refine sv rfl (opv_fieldAddr_lp fi26_0 rfl) ?_) | (refine sv rfl (opv_fieldAddr_cp fi26_0 rfl) ?_) | (refine sv rfl (opv_fieldAddr_ap fi26_0 rfl rfl (by first | rfl | omega)) ?_)
        first | (refine sv rfl (opv_load1 ti3 rfl (.lp _ _ _ rfl) rfl) ?_) | (refine sv rfl (opv_load1 ti3 rfl (.cp _) rfl) ?_) | (refine sv rfl (opv_load1 ti3 rfl (.ap _ _ _ _ _ _ _ rfl (by first | rfl | omega)) rfl) ?_)
        refine sv rfl (opv_add_ok rfl rfl (wrap_i64 (by omega) (by omega))) ?_
        first | (refine sv rfl (opv_fieldAddr_lp fi26_0 rfl) ?_) | (refine sv rfl (opv_fieldAddr_cp fi26_0 rfl) ?_) | (refine sv rfl (opv_fieldAddr_ap fi26_0 rfl rfl (by first | rfl | omega)) ?_)
        first | (refine sstore sz3 rfl rfl rfl rfl (Nat.le_of_ble_eq_true rfl) ?_) | (refine sstore_ap sz3 rfl rfl rfl (by first | rfl | omega) rfl (List.all_eq_true.1 rfl) (by omega) (by omega) ?_)
        refine snil ?_
        refine cregion ?_
        first | (refine sv rfl (opv_fieldAddr_lp fi26_1 rfl) ?_) | (refine sv rfl (opv_fieldAddr_cp fi26_1 rfl) ?_) | (refine sv rfl (opv_fieldAddr_ap fi26_1 rfl rfl (by first | rfl | omega)) ?_)
        first | (refine sv rfl (opv_load1 ti22 rfl (.lp _ _ _ rfl) rfl) ?_) | (refine sv rfl (opv_load1 ti22 rfl (.cp _) rfl) ?_) | (refine sv rfl (opv_load1 ti22 rfl (.ap _ _ _ _ _ _ _ rfl (by first | rfl | omega)) rfl) ?_)
        refine sv rfl (opv_shr_u64 rfl rfl rfl (by omega)) ?_
        first | (refine sv rfl (opv_fieldAddr_lp fi26_1 rfl) ?_) | (refine sv rfl (opv_fieldAddr_cp fi26_1 rfl) ?_) | (refine sv rfl (opv_fieldAddr_ap fi26_1 rfl rfl (by first | rfl | omega)) ?_)
        first | (refine sstore sz22 rfl rfl rfl rfl (Nat.le_of_ble_eq_true rfl) ?_) | (refine sstore_ap sz22 rfl rfl rfl (by first | rfl | omega) rfl (List.all_eq_true.1 rfl) (by omega) (by omega) ?_)
        refine snil0 ?_
        refine block_normal ?_
        refine then_normal ?_
        have hb0 : u.getLsbD k = true := by simpa using hc1
        have hk : k < 64 := by
          apply Classical.byContradiction
          intro hn
          rw [BitVec.getLsbD_of_ge _ _ (by omega)] at hb0
          cases hb0
        have e1 : b + (k : Int) + 1 = b + ((k + 1 : Nat) : Int) := by omega
        have e2 : (u >>> k) >>> (1 : Int).toNat = u >>> (k + 1) := (BitVec.shiftRight_add u k 1).symm
        refine ⟨k + 1, [], ⟨by omega, fun j hj => ?_⟩, ⟨rfl, rfl, trivial⟩, by rw [← e1, ← e2]; rfl, by omega⟩
        by_cases e : j = k
        · rw [e]; exact hb0
        · exact hp.2 j (by omega))
  · first
    | (exfalso; first | omega | contradiction)
    | (
        refine cexit ?_
        refine then_exit ?_
        refine then_exit ?_
        refine block_hit ?_
        refine then_normal ?_
        refine cseq ?_
        refine cregion ?_
        first | (refine sv rfl (opv_loadN ti26 rfl (.lp _ _ _ rfl) (Nat.le_of_ble_eq_true rfl)) ?_) | (refine sv rfl (opv_loadN ti26 rfl (.cp _) (Nat.le_of_ble_eq_true rfl)) ?_)
        first | (refine sstore sz26 rfl rfl rfl rfl (Nat.le_of_ble_eq_true rfl) ?_) | (refine sstore_ap sz26 rfl rfl rfl (by first | rfl | omega) rfl (List.all_eq_true.1 rfl) (by omega) (by omega) ?_)
        refine snil ?_
        refine cret ?_
        refine ⟨Or.inr rfl, _, _, _, (resVs_cons (ResV.agg _ _ _ _ _ ti26 rfl (.lp _ _ _ rfl) (Nat.le_of_ble_eq_true rfl)) resVs_nil), (by (repeat' first | exact pubA_id rfl | exact PubA.nil _ | refine PubA.cons _ ?_ _ _ _ _ _ ?_ ?_ | refine PubV.one _ _ _ _ ?_ | refine PubV.agg _ _ _ _ ?_ | exact PubL.nil | exact PubL.id _ rfl | exact PubL.ls _ _ _ _ _ _ rfl (by first | rfl | omega) | exact PubLs.all _ _ (List.all_eq_true.1 rfl) | refine PubLs.cons _ ?_ _ _ _ _ _ ?_ ?_ | exact PubLs.nil _)), ?_⟩
        have ht : tone u = k := tone_of hp.2 (by simpa using hc1)
        rw [ht]; rfl)

theorem seen_c {b : Int} {u : BitVec 64} {s : Int} (hb : -9223372036854775808 ≤ b ∧ b ≤ 9223372036854775807) : CallsA Try.prog 15 [wsv b u, .one (.i .i64 s)] (· = .s (.one (.b (seenM b u s)))) := by
  refine callsA_of Try.func15 rfl (nt := 31) rfl (Nat.le_of_ble_eq_true rfl) ?_
  intro w0 S0
  refine cseq ?_
  refine cregion ?_
  refine sbox rfl rfl ?_
  first | (refine sv rfl (opv_as rfl) ?_) | (refine sv rfl (opv_ast rfl) ?_)
  refine snil ?_
  refine cseq ?_
  refine cseq ?_
  refine cregion ?_
  first | (refine sv rfl (opv_loadN ti26 rfl (.lp _ _ _ rfl) (Nat.le_of_ble_eq_true rfl)) ?_) | (refine sv rfl (opv_loadN ti26 rfl (.cp _) (Nat.le_of_ble_eq_true rfl)) ?_)
  refine scall1 rfl fn13 (opnds_cons rfl opnds_nil) (by (repeat' first | exact pubA_id rfl | exact PubA.nil _ | refine PubA.cons _ ?_ _ _ _ _ _ ?_ ?_ | refine PubV.one _ _ _ _ ?_ | refine PubV.agg _ _ _ _ ?_ | exact PubL.nil | exact PubL.id _ rfl | exact PubL.ls _ _ _ _ _ _ rfl (by first | rfl | omega) | exact PubLs.all _ _ (List.all_eq_true.1 rfl) | refine PubLs.cons _ ?_ _ _ _ _ _ ?_ ?_ | exact PubLs.nil _)) (sane_c (by omega)) ?_
  refine sv rfl (opv_not rfl) ?_
  first | (refine sv rfl (opv_mv rfl) ?_) | (refine sv rfl (opv_mvt rfl) ?_)
  refine ssplit 8 rfl (fun hg1 => ?_) (fun hg1 => ?_)
  · replace hg1 := bnot_t hg1
    try rw [saneM_iff] at hg1
    try rw [saneSeqM_iff] at hg1
    first
    | (exfalso; first | omega | contradiction)
    | (
        refine soff rfl rfl rfl rfl ?_
        refine soff rfl rfl rfl rfl ?_
        refine soff rfl rfl rfl rfl ?_
        first | (refine sv rfl (opv_pick_t rfl rfl) ?_) | (refine sv rfl (opv_pick_f rfl rfl) ?_)
        refine snil ?_
        refine ccond rfl (fun _ => ?_) (fun hx => Bool.noConfusion hx)
        refine cseq ?_
        refine cregion ?_
        first | (refine sv rfl (opv_as rfl) ?_) | (refine sv rfl (opv_ast rfl) ?_)
        refine snil ?_
        refine cret ?_
        refine then_ret ?_
        refine ⟨Or.inr rfl, _, _, _, (resVs_cons (ResV.tmp _ _ rfl) resVs_nil), (by (repeat' first | exact pubA_id rfl | exact PubA.nil _ | refine PubA.cons _ ?_ _ _ _ _ _ ?_ ?_ | refine PubV.one _ _ _ _ ?_ | refine PubV.agg _ _ _ _ ?_ | exact PubL.nil | exact PubL.id _ rfl | exact PubL.ls _ _ _ _ _ _ rfl (by first | rfl | omega) | exact PubLs.all _ _ (List.all_eq_true.1 rfl) | refine PubLs.cons _ ?_ _ _ _ _ _ ?_ ?_ | exact PubLs.nil _)), ?_⟩
        refine avb ?_
        unfold seenM
        first | (rw [hg1]; rfl) | (rw [hc2, Bool.false_and, Bool.and_false]) | (rw [(saneM_iff b u).2 hg1, (saneSeqM_iff s).2 hc2, decide_eq_true hc3]; rfl) | (rw [(saneM_iff b u).2 hg1, (saneSeqM_iff s).2 hc2, decide_eq_false hc3, decide_eq_true hg4]; rfl) | (rw [(saneM_iff b u).2 hg1, (saneSeqM_iff s).2 hc2, decide_eq_false hc3, decide_eq_false hg4]; rfl))
  · replace hg1 := bnot_f hg1
    try rw [saneM_iff] at hg1
    try rw [saneSeqM_iff] at hg1
    first
    | (exfalso; first | omega | contradiction)
    | (
        refine son rfl rfl rfl ?_
        first | (refine sv rfl (opv_mv rfl) ?_) | (refine sv rfl (opv_mvt rfl) ?_)
        refine son rfl rfl rfl ?_
        refine scall1 rfl fn22 (opnds_cons rfl opnds_nil) (by (repeat' first | exact pubA_id rfl | exact PubA.nil _ | refine PubA.cons _ ?_ _ _ _ _ _ ?_ ?_ | refine PubV.one _ _ _ _ ?_ | refine PubV.agg _ _ _ _ ?_ | exact PubL.nil | exact PubL.id _ rfl | exact PubL.ls _ _ _ _ _ _ rfl (by first | rfl | omega) | exact PubLs.all _ _ (List.all_eq_true.1 rfl) | refine PubLs.cons _ ?_ _ _ _ _ _ ?_ ?_ | exact PubLs.nil _)) (saneSeq_c) ?_
        refine son rfl rfl rfl ?_
        refine sv rfl (opv_not rfl) ?_
        first | (refine sv rfl (opv_pick_t rfl rfl) ?_) | (refine sv rfl (opv_pick_f rfl rfl) ?_)
        refine snil ?_
        refine ccond rfl (fun hc2 => ?_) (fun hc2 => ?_)
        · replace hc2 := bnot_t hc2
          try rw [saneM_iff] at hc2
          try rw [saneSeqM_iff] at hc2
          first
          | (exfalso; first | omega | contradiction)
          | (
              refine cseq ?_
              refine cregion ?_
              first | (refine sv rfl (opv_as rfl) ?_) | (refine sv rfl (opv_ast rfl) ?_)
              refine snil ?_
              refine cret ?_
              refine then_ret ?_
              refine ⟨Or.inr rfl, _, _, _, (resVs_cons (ResV.tmp _ _ rfl) resVs_nil), (by (repeat' first | exact pubA_id rfl | exact PubA.nil _ | refine PubA.cons _ ?_ _ _ _ _ _ ?_ ?_ | refine PubV.one _ _ _ _ ?_ | refine PubV.agg _ _ _ _ ?_ | exact PubL.nil | exact PubL.id _ rfl | exact PubL.ls _ _ _ _ _ _ rfl (by first | rfl | omega) | exact PubLs.all _ _ (List.all_eq_true.1 rfl) | refine PubLs.cons _ ?_ _ _ _ _ _ ?_ ?_ | exact PubLs.nil _)), ?_⟩
              refine avb ?_
              unfold seenM
              first | (rw [hg1]; rfl) | (rw [hc2, Bool.false_and, Bool.and_false]) | (rw [(saneM_iff b u).2 hg1, (saneSeqM_iff s).2 hc2, decide_eq_true hc3]; rfl) | (rw [(saneM_iff b u).2 hg1, (saneSeqM_iff s).2 hc2, decide_eq_false hc3, decide_eq_true hg4]; rfl) | (rw [(saneM_iff b u).2 hg1, (saneSeqM_iff s).2 hc2, decide_eq_false hc3, decide_eq_false hg4]; rfl))
        · replace hc2 := bnot_f hc2
          try rw [saneM_iff] at hc2
          try rw [saneSeqM_iff] at hc2
          first
          | (exfalso; first | omega | contradiction)
          | (
              refine cskip ?_
              refine then_normal ?_
              refine cseq ?_
              refine cseq ?_
              refine cregion ?_
              first | (refine sv rfl (opv_mv rfl) ?_) | (refine sv rfl (opv_mvt rfl) ?_)
              first | (refine sv rfl (opv_fieldAddr_lp fi26_0 rfl) ?_) | (refine sv rfl (opv_fieldAddr_cp fi26_0 rfl) ?_) | (refine sv rfl (opv_fieldAddr_ap fi26_0 rfl rfl (by first | rfl | omega)) ?_)
              first | (refine sv rfl (opv_load1 ti3 rfl (.lp _ _ _ rfl) rfl) ?_) | (refine sv rfl (opv_load1 ti3 rfl (.cp _) rfl) ?_) | (refine sv rfl (opv_load1 ti3 rfl (.ap _ _ _ _ _ _ _ rfl (by first | rfl | omega)) rfl) ?_)
              refine sv rfl (opv_lss rfl rfl) ?_
              refine snil ?_
              refine ccond rfl (fun hc3 => ?_) (fun hc3 => ?_)
              · replace hc3 := of_decide_eq_true hc3
                try rw [saneM_iff] at hc3
                try rw [saneSeqM_iff] at hc3
                first
                | (exfalso; first | omega | contradiction)
                | (
                    refine cseq ?_
                    refine cregion ?_
                    first | (refine sv rfl (opv_as rfl) ?_) | (refine sv rfl (opv_ast rfl) ?_)
                    refine snil ?_
                    refine cret ?_
                    refine then_ret ?_
                    refine ⟨Or.inr rfl, _, _, _, (resVs_cons (ResV.tmp _ _ rfl) resVs_nil), (by (repeat' first | exact pubA_id rfl | exact PubA.nil _ | refine PubA.cons _ ?_ _ _ _ _ _ ?_ ?_ | refine PubV.one _ _ _ _ ?_ | refine PubV.agg _ _ _ _ ?_ | exact PubL.nil | exact PubL.id _ rfl | exact PubL.ls _ _ _ _ _ _ rfl (by first | rfl | omega) | exact PubLs.all _ _ (List.all_eq_true.1 rfl) | refine PubLs.cons _ ?_ _ _ _ _ _ ?_ ?_ | exact PubLs.nil _)), ?_⟩
                    refine avb ?_
                    unfold seenM
                    first | (rw [hg1]; rfl) | (rw [hc2, Bool.false_and, Bool.and_false]) | (rw [(saneM_iff b u).2 hg1, (saneSeqM_iff s).2 hc2, decide_eq_true hc3]; rfl) | (rw [(saneM_iff b u).2 hg1, (saneSeqM_iff s).2 hc2, decide_eq_false hc3, decide_eq_true hg4]; rfl) | (rw [(saneM_iff b u).2 hg1, (saneSeqM_iff s).2 hc2, decide_eq_false hc3, decide_eq_false hg4]; rfl))
              · replace hc3 := of_decide_eq_false hc3
                try rw [saneM_iff] at hc3
                try rw [saneSeqM_iff] at hc3
                first
                | (exfalso; first | omega | contradiction)
                | (
                    refine cskip ?_
                    refine then_normal ?_
                    refine cseq ?_
                    refine cregion ?_
                    first | (refine sv rfl (opv_mv rfl) ?_) | (refine sv rfl (opv_mvt rfl) ?_)
                    first | (refine sv rfl (opv_fieldAddr_lp fi26_0 rfl) ?_) | (refine sv rfl (opv_fieldAddr_cp fi26_0 rfl) ?_) | (refine sv rfl (opv_fieldAddr_ap fi26_0 rfl rfl (by first | rfl | omega)) ?_)
                    first | (refine sv rfl (opv_load1 ti3 rfl (.lp _ _ _ rfl) rfl) ?_) | (refine sv rfl (opv_load1 ti3 rfl (.cp _) rfl) ?_) | (refine sv rfl (opv_load1 ti3 rfl (.ap _ _ _ _ _ _ _ rfl (by first | rfl | omega)) rfl) ?_)
                    refine sv rfl (opv_sub_ok rfl rfl (wrap_i64 (by omega) (by omega))) ?_
                    refine sv rfl (opv_lss rfl rfl) ?_
                    first | (refine sv rfl (opv_mv rfl) ?_) | (refine sv rfl (opv_mvt rfl) ?_)
                    refine ssplit 22 rfl (fun hg4 => ?_) (fun hg4 => ?_)
                    · replace hg4 := of_decide_eq_true hg4
                      try rw [saneM_iff] at hg4
                      try rw [saneSeqM_iff] at hg4
                      first
                      | (exfalso; first | omega | contradiction)
                      | (
                          refine son rfl rfl rfl ?_
                          first | (refine sv rfl (opv_fieldAddr_lp fi26_1 rfl) ?_) | (refine sv rfl (opv_fieldAddr_cp fi26_1 rfl) ?_) | (refine sv rfl (opv_fieldAddr_ap fi26_1 rfl rfl (by first | rfl | omega)) ?_)
                          refine son rfl rfl rfl ?_
                          first | (refine sv rfl (opv_load1 ti22 rfl (.lp _ _ _ rfl) rfl) ?_) | (refine sv rfl (opv_load1 ti22 rfl (.cp _) rfl) ?_) | (refine sv rfl (opv_load1 ti22 rfl (.ap _ _ _ _ _ _ _ rfl (by first | rfl | omega)) rfl) ?_)
                          refine son rfl rfl rfl ?_
                          first | (refine sv rfl (opv_mv rfl) ?_) | (refine sv rfl (opv_mvt rfl) ?_)
                          refine son rfl rfl rfl ?_
                          first | (refine sv rfl (opv_fieldAddr_lp fi26_0 rfl) ?_) | (refine sv rfl (opv_fieldAddr_cp fi26_0 rfl) ?_) | (refine sv rfl (opv_fieldAddr_ap fi26_0 rfl rfl (by first | rfl | omega)) ?_)
                          refine son rfl rfl rfl ?_
                          first | (refine sv rfl (opv_load1 ti3 rfl (.lp _ _ _ rfl) rfl) ?_) | (refine sv rfl (opv_load1 ti3 rfl (.cp _) rfl) ?_) | (refine sv rfl (opv_load1 ti3 rfl (.ap _ _ _ _ _ _ _ rfl (by first | rfl | omega)) rfl) ?_)
                          refine son rfl rfl rfl ?_
                          refine sv rfl (opv_sub_ok rfl rfl (wrap_i64 (by omega) (by omega))) ?_
                          refine son rfl rfl rfl ?_
                          refine scall1 rfl fn24 (opnds_cons rfl (opnds_cons rfl opnds_nil)) (by (repeat' first | exact pubA_id rfl | exact PubA.nil _ | refine PubA.cons _ ?_ _ _ _ _ _ ?_ ?_ | refine PubV.one _ _ _ _ ?_ | refine PubV.agg _ _ _ _ ?_ | exact PubL.nil | exact PubL.id _ rfl | exact PubL.ls _ _ _ _ _ _ rfl (by first | rfl | omega) | exact PubLs.all _ _ (List.all_eq_true.1 rfl) | refine PubLs.cons _ ?_ _ _ _ _ _ ?_ ?_ | exact PubLs.nil _)) (digit_c (by omega)) ?_
                          first | (refine sv rfl (opv_pick_t rfl rfl) ?_) | (refine sv rfl (opv_pick_f rfl rfl) ?_)
                          first | (refine sv rfl (opv_as rfl) ?_) | (refine sv rfl (opv_ast rfl) ?_)
                          refine snil ?_
                          refine cret ?_
                          refine ⟨Or.inr rfl, _, _, _, (resVs_cons (ResV.tmp _ _ rfl) resVs_nil), (by (repeat' first | exact pubA_id rfl | exact PubA.nil _ | refine PubA.cons _ ?_ _ _ _ _ _ ?_ ?_ | refine PubV.one _ _ _ _ ?_ | refine PubV.agg _ _ _ _ ?_ | exact PubL.nil | exact PubL.id _ rfl | exact PubL.ls _ _ _ _ _ _ rfl (by first | rfl | omega) | exact PubLs.all _ _ (List.all_eq_true.1 rfl) | refine PubLs.cons _ ?_ _ _ _ _ _ ?_ ?_ | exact PubLs.nil _)), ?_⟩
                          refine avb ?_
                          unfold seenM
                          first | (rw [hg1]; rfl) | (rw [hc2, Bool.false_and, Bool.and_false]) | (rw [(saneM_iff b u).2 hg1, (saneSeqM_iff s).2 hc2, decide_eq_true hc3]; rfl) | (rw [(saneM_iff b u).2 hg1, (saneSeqM_iff s).2 hc2, decide_eq_false hc3, decide_eq_true hg4]; rfl) | (rw [(saneM_iff b u).2 hg1, (saneSeqM_iff s).2 hc2, decide_eq_false hc3, decide_eq_false hg4]; rfl))
                    · replace hg4 := of_decide_eq_false hg4
                      try rw [saneM_iff] at hg4
                      try rw [saneSeqM_iff] at hg4
                      first
                      | (exfalso; first | omega | contradiction)
                      | (
                          refine soff rfl rfl rfl rfl ?_
                          refine soff rfl rfl rfl rfl ?_
                          refine soff rfl rfl rfl rfl ?_
                          refine soff rfl rfl rfl rfl ?_
                          refine soff rfl rfl rfl rfl ?_
                          refine soff rfl rfl rfl rfl ?_
                          refine soff rfl rfl rfl rfl ?_
                          first | (refine sv rfl (opv_pick_t rfl rfl) ?_) | (refine sv rfl (opv_pick_f rfl rfl) ?_)
                          first | (refine sv rfl (opv_as rfl) ?_) | (refine sv rfl (opv_ast rfl) ?_)
                          refine snil ?_
                          refine cret ?_
                          refine ⟨Or.inr rfl, _, _, _, (resVs_cons (ResV.tmp _ _ rfl) resVs_nil), (by (repeat' first | exact pubA_id rfl | exact PubA.nil _ | refine PubA.cons _ ?_ _ _ _ _ _ ?_ ?_ | refine PubV.one _ _ _ _ ?_ | refine PubV.agg _ _ _ _ ?_ | exact PubL.nil | exact PubL.id _ rfl | exact PubL.ls _ _ _ _ _ _ rfl (by first | rfl | omega) | exact PubLs.all _ _ (List.all_eq_true.1 rfl) | refine PubLs.cons _ ?_ _ _ _ _ _ ?_ ?_ | exact PubLs.nil _)), ?_⟩
                          refine avb ?_
                          unfold seenM
                          first | (rw [hg1]; rfl) | (rw [hc2, Bool.false_and, Bool.and_false]) | (rw [(saneM_iff b u).2 hg1, (saneSeqM_iff s).2 hc2, decide_eq_true hc3]; rfl) | (rw [(saneM_iff b u).2 hg1, (saneSeqM_iff s).2 hc2, decide_eq_false hc3, decide_eq_true hg4]; rfl) | (rw [(saneM_iff b u).2 hg1, (saneSeqM_iff s).2 hc2, decide_eq_false hc3, decide_eq_false hg4]; rfl)))))

theorem accept_c {b : Int} {u : BitVec 64} {s : Int} (hb : -9223372036854775808 ≤ b ∧ b ≤ 9223372036854775807) : CallsA Try.prog 10 [wsv b u, .one (.i .i64 s)] (· = .tup [wsv (acceptM b u s).1.1 (acceptM b u s).1.2, .one (.i .i64 (acceptM b u s).2)]) := by
  refine callsA_of Try.func10 rfl (nt := 40) rfl (Nat.le_of_ble_eq_true rfl) ?_
  intro w0 S0
  refine cseq ?_
  refine cregion ?_
  refine sbox rfl rfl ?_
  refine salloc rfl zi26 ?_
  first | (refine sv rfl (opv_as rfl) ?_) | (refine sv rfl (opv_ast rfl) ?_)
  refine snil ?_
  refine cseq ?_
  refine cblock ?_
  refine cseq ?_
  refine cregion ?_
  first | (refine sv rfl (opv_loadN ti26 rfl (.lp _ _ _ rfl) (Nat.le_of_ble_eq_true rfl)) ?_) | (refine sv rfl (opv_loadN ti26 rfl (.cp _) (Nat.le_of_ble_eq_true rfl)) ?_)
  refine scall1 rfl fn13 (opnds_cons rfl opnds_nil) (by (repeat' first | exact pubA_id rfl | exact PubA.nil _ | refine PubA.cons _ ?_ _ _ _ _ _ ?_ ?_ | refine PubV.one _ _ _ _ ?_ | refine PubV.agg _ _ _ _ ?_ | exact PubL.nil | exact PubL.id _ rfl | exact PubL.ls _ _ _ _ _ _ rfl (by first | rfl | omega) | exact PubLs.all _ _ (List.all_eq_true.1 rfl) | refine PubLs.cons _ ?_ _ _ _ _ _ ?_ ?_ | exact PubLs.nil _)) (sane_c (by omega)) ?_
  refine sv rfl (opv_not rfl) ?_
  first | (refine sv rfl (opv_mv rfl) ?_) | (refine sv rfl (opv_mvt rfl) ?_)
  refine ssplit 10 rfl (fun hg1 => ?_) (fun hg1 => ?_)
  · replace hg1 := bnot_t hg1
    try rw [saneM_iff] at hg1
    try rw [saneSeqM_iff] at hg1
    first
    | (exfalso; first | omega | contradiction)
    | (
        refine soff rfl rfl rfl rfl ?_
        refine soff rfl rfl rfl rfl ?_
        refine soff rfl rfl rfl rfl ?_
        first | (refine sv rfl (opv_pick_t rfl rfl) ?_) | (refine sv rfl (opv_pick_f rfl rfl) ?_)
        first | (refine sv rfl (opv_as rfl) ?_) | (refine sv rfl (opv_ast rfl) ?_)
        refine snil ?_
        refine ccond rfl (fun _ => ?_) (fun hx => Bool.noConfusion hx)
        refine cseq ?_
        refine cregion ?_
        refine sv rfl (opv_build zi26 pi26 parts_nil (.nil _)) ?_
        first | (refine sstore sz26 rfl rfl rfl rfl (Nat.le_of_ble_eq_true rfl) ?_) | (refine sstore_ap sz26 rfl rfl rfl (by first | rfl | omega) rfl (List.all_eq_true.1 rfl) (by omega) (by omega) ?_)
        first | (refine sv rfl (opv_as rfl) ?_) | (refine sv rfl (opv_ast rfl) ?_)
        refine snil ?_
        refine cret ?_
        refine block_ret ?_
        refine then_ret ?_
        refine ⟨Or.inr rfl, _, _, _, (resVs_cons (ResV.agg _ _ _ _ _ ti26 rfl (.lp _ _ _ rfl) (Nat.le_of_ble_eq_true rfl)) (resVs_cons (ResV.tmp _ _ rfl) resVs_nil)), (by (repeat' first | exact pubA_id rfl | exact PubA.nil _ | refine PubA.cons _ ?_ _ _ _ _ _ ?_ ?_ | refine PubV.one _ _ _ _ ?_ | refine PubV.agg _ _ _ _ ?_ | exact PubL.nil | exact PubL.id _ rfl | exact PubL.ls _ _ _ _ _ _ rfl (by first | rfl | omega) | exact PubLs.all _ _ (List.all_eq_true.1 rfl) | refine PubLs.cons _ ?_ _ _ _ _ _ ?_ ?_ | exact PubLs.nil _)), ?_⟩
        first | (rw [accept_arg (.inl hg1)]; rfl) | (rw [accept_arg (.inr hc2)]; rfl) | (rw [accept_seen ((saneM_iff b u).2 hg1) ((saneSeqM_iff s).2 hc2) hc3]; rfl) | (rw [accept_far ((saneM_iff b u).2 hg1) ((saneSeqM_iff s).2 hc2) hc3 hc4]; rfl) | (rw [accept_ok ((saneM_iff b u).2 hg1) ((saneSeqM_iff s).2 hc2) hc3 hc4]; rfl))
  · replace hg1 := bnot_f hg1
    try rw [saneM_iff] at hg1
    try rw [saneSeqM_iff] at hg1
    first
    | (exfalso; first | omega | contradiction)
    | (
        refine son rfl rfl rfl ?_
        first | (refine sv rfl (opv_mv rfl) ?_) | (refine sv rfl (opv_mvt rfl) ?_)
        refine son rfl rfl rfl ?_
        refine scall1 rfl fn22 (opnds_cons rfl opnds_nil) (by (repeat' first | exact pubA_id rfl | exact PubA.nil _ | refine PubA.cons _ ?_ _ _ _ _ _ ?_ ?_ | refine PubV.one _ _ _ _ ?_ | refine PubV.agg _ _ _ _ ?_ | exact PubL.nil | exact PubL.id _ rfl | exact PubL.ls _ _ _ _ _ _ rfl (by first | rfl | omega) | exact PubLs.all _ _ (List.all_eq_true.1 rfl) | refine PubLs.cons _ ?_ _ _ _ _ _ ?_ ?_ | exact PubLs.nil _)) (saneSeq_c) ?_
        refine son rfl rfl rfl ?_
        refine sv rfl (opv_not rfl) ?_
        first | (refine sv rfl (opv_pick_t rfl rfl) ?_) | (refine sv rfl (opv_pick_f rfl rfl) ?_)
        first | (refine sv rfl (opv_as rfl) ?_) | (refine sv rfl (opv_ast rfl) ?_)
        refine snil ?_
        refine ccond rfl (fun hc2 => ?_) (fun hc2 => ?_)
        · replace hc2 := bnot_t hc2
          try rw [saneM_iff] at hc2
          try rw [saneSeqM_iff] at hc2
          first
          | (exfalso; first | omega | contradiction)
          | (
              refine cseq ?_
              refine cregion ?_
              refine sv rfl (opv_build zi26 pi26 parts_nil (.nil _)) ?_
              first | (refine sstore sz26 rfl rfl rfl rfl (Nat.le_of_ble_eq_true rfl) ?_) | (refine sstore_ap sz26 rfl rfl rfl (by first | rfl | omega) rfl (List.all_eq_true.1 rfl) (by omega) (by omega) ?_)
              first | (refine sv rfl (opv_as rfl) ?_) | (refine sv rfl (opv_ast rfl) ?_)
              refine snil ?_
              refine cret ?_
              refine block_ret ?_
              refine then_ret ?_
              refine ⟨Or.inr rfl, _, _, _, (resVs_cons (ResV.agg _ _ _ _ _ ti26 rfl (.lp _ _ _ rfl) (Nat.le_of_ble_eq_true rfl)) (resVs_cons (ResV.tmp _ _ rfl) resVs_nil)), (by (repeat' first | exact pubA_id rfl | exact PubA.nil _ | refine PubA.cons _ ?_ _ _ _ _ _ ?_ ?_ | refine PubV.one _ _ _ _ ?_ | refine PubV.agg _ _ _ _ ?_ | exact PubL.nil | exact PubL.id _ rfl | exact PubL.ls _ _ _ _ _ _ rfl (by first | rfl | omega) | exact PubLs.all _ _ (List.all_eq_true.1 rfl) | refine PubLs.cons _ ?_ _ _ _ _ _ ?_ ?_ | exact PubLs.nil _)), ?_⟩
              first | (rw [accept_arg (.inl hg1)]; rfl) | (rw [accept_arg (.inr hc2)]; rfl) | (rw [accept_seen ((saneM_iff b u).2 hg1) ((saneSeqM_iff s).2 hc2) hc3]; rfl) | (rw [accept_far ((saneM_iff b u).2 hg1) ((saneSeqM_iff s).2 hc2) hc3 hc4]; rfl) | (rw [accept_ok ((saneM_iff b u).2 hg1) ((saneSeqM_iff s).2 hc2) hc3 hc4]; rfl))
        · replace hc2 := bnot_f hc2
          try rw [saneM_iff] at hc2
          try rw [saneSeqM_iff] at hc2
          first
          | (exfalso; first | omega | contradiction)
          | (
              refine cseq ?_
              refine cregion ?_
              first | (refine sv rfl (opv_loadN ti26 rfl (.lp _ _ _ rfl) (Nat.le_of_ble_eq_true rfl)) ?_) | (refine sv rfl (opv_loadN ti26 rfl (.cp _) (Nat.le_of_ble_eq_true rfl)) ?_)
              first | (refine sv rfl (opv_mv rfl) ?_) | (refine sv rfl (opv_mvt rfl) ?_)
              refine scall1 rfl fn15 (opnds_cons rfl (opnds_cons rfl opnds_nil)) (by (repeat' first | exact pubA_id rfl | exact PubA.nil _ | refine PubA.cons _ ?_ _ _ _ _ _ ?_ ?_ | refine PubV.one _ _ _ _ ?_ | refine PubV.agg _ _ _ _ ?_ | exact PubL.nil | exact PubL.id _ rfl | exact PubL.ls _ _ _ _ _ _ rfl (by first | rfl | omega) | exact PubLs.all _ _ (List.all_eq_true.1 rfl) | refine PubLs.cons _ ?_ _ _ _ _ _ ?_ ?_ | exact PubLs.nil _)) (seen_c (by omega)) ?_
              first | (refine sv rfl (opv_as rfl) ?_) | (refine sv rfl (opv_ast rfl) ?_)
              refine snil ?_
              refine ccond rfl (fun hc3 => ?_) (fun hc3 => ?_)
              · try rw [saneM_iff] at hc3
                try rw [saneSeqM_iff] at hc3
                first
                | (exfalso; first | omega | contradiction)
                | (
                    refine cseq ?_
                    refine cregion ?_
                    refine sv rfl (opv_build zi26 pi26 parts_nil (.nil _)) ?_
                    first | (refine sstore sz26 rfl rfl rfl rfl (Nat.le_of_ble_eq_true rfl) ?_) | (refine sstore_ap sz26 rfl rfl rfl (by first | rfl | omega) rfl (List.all_eq_true.1 rfl) (by omega) (by omega) ?_)
                    first | (refine sv rfl (opv_as rfl) ?_) | (refine sv rfl (opv_ast rfl) ?_)
                    refine snil ?_
                    refine cret ?_
                    refine block_ret ?_
                    refine then_ret ?_
                    refine ⟨Or.inr rfl, _, _, _, (resVs_cons (ResV.agg _ _ _ _ _ ti26 rfl (.lp _ _ _ rfl) (Nat.le_of_ble_eq_true rfl)) (resVs_cons (ResV.tmp _ _ rfl) resVs_nil)), (by (repeat' first | exact pubA_id rfl | exact PubA.nil _ | refine PubA.cons _ ?_ _ _ _ _ _ ?_ ?_ | refine PubV.one _ _ _ _ ?_ | refine PubV.agg _ _ _ _ ?_ | exact PubL.nil | exact PubL.id _ rfl | exact PubL.ls _ _ _ _ _ _ rfl (by first | rfl | omega) | exact PubLs.all _ _ (List.all_eq_true.1 rfl) | refine PubLs.cons _ ?_ _ _ _ _ _ ?_ ?_ | exact PubLs.nil _)), ?_⟩
                    first | (rw [accept_arg (.inl hg1)]; rfl) | (rw [accept_arg (.inr hc2)]; rfl) | (rw [accept_seen ((saneM_iff b u).2 hg1) ((saneSeqM_iff s).2 hc2) hc3]; rfl) | (rw [accept_far ((saneM_iff b u).2 hg1) ((saneSeqM_iff s).2 hc2) hc3 hc4]; rfl) | (rw [accept_ok ((saneM_iff b u).2 hg1) ((saneSeqM_iff s).2 hc2) hc3 hc4]; rfl))
              · have hge := seen_ge ((saneM_iff b u).2 hg1) ((saneSeqM_iff s).2 hc2) hc3
                first
                | (exfalso; first | omega | contradiction)
                | (
                    refine cseq ?_
                    refine cregion ?_
                    first | (refine sv rfl (opv_mv rfl) ?_) | (refine sv rfl (opv_mvt rfl) ?_)
                    first | (refine sv rfl (opv_fieldAddr_lp fi26_0 rfl) ?_) | (refine sv rfl (opv_fieldAddr_cp fi26_0 rfl) ?_) | (refine sv rfl (opv_fieldAddr_ap fi26_0 rfl rfl (by first | rfl | omega)) ?_)
                    first | (refine sv rfl (opv_load1 ti3 rfl (.lp _ _ _ rfl) rfl) ?_) | (refine sv rfl (opv_load1 ti3 rfl (.cp _) rfl) ?_) | (refine sv rfl (opv_load1 ti3 rfl (.ap _ _ _ _ _ _ _ rfl (by first | rfl | omega)) rfl) ?_)
                    refine sv rfl (opv_sub_ok rfl rfl (wrap_i64 (by omega) (by omega))) ?_
                    refine sv rfl (opv_geq rfl rfl) ?_
                    first | (refine sv rfl (opv_as rfl) ?_) | (refine sv rfl (opv_ast rfl) ?_)
                    refine snil ?_
                    refine ccond rfl (fun hc4 => ?_) (fun hc4 => ?_)
                    · replace hc4 := of_decide_eq_true hc4
                      try rw [saneM_iff] at hc4
                      try rw [saneSeqM_iff] at hc4
                      first
                      | (exfalso; first | omega | contradiction)
                      | (
                          refine cseq ?_
                          refine cregion ?_
                          refine sv rfl (opv_build zi26 pi26 parts_nil (.nil _)) ?_
                          first | (refine sstore sz26 rfl rfl rfl rfl (Nat.le_of_ble_eq_true rfl) ?_) | (refine sstore_ap sz26 rfl rfl rfl (by first | rfl | omega) rfl (List.all_eq_true.1 rfl) (by omega) (by omega) ?_)
                          first | (refine sv rfl (opv_as rfl) ?_) | (refine sv rfl (opv_ast rfl) ?_)
                          refine snil ?_
                          refine cret ?_
                          refine block_ret ?_
                          refine then_ret ?_
                          refine ⟨Or.inr rfl, _, _, _, (resVs_cons (ResV.agg _ _ _ _ _ ti26 rfl (.lp _ _ _ rfl) (Nat.le_of_ble_eq_true rfl)) (resVs_cons (ResV.tmp _ _ rfl) resVs_nil)), (by (repeat' first | exact pubA_id rfl | exact PubA.nil _ | refine PubA.cons _ ?_ _ _ _ _ _ ?_ ?_ | refine PubV.one _ _ _ _ ?_ | refine PubV.agg _ _ _ _ ?_ | exact PubL.nil | exact PubL.id _ rfl | exact PubL.ls _ _ _ _ _ _ rfl (by first | rfl | omega) | exact PubLs.all _ _ (List.all_eq_true.1 rfl) | refine PubLs.cons _ ?_ _ _ _ _ _ ?_ ?_ | exact PubLs.nil _)), ?_⟩
                          first | (rw [accept_arg (.inl hg1)]; rfl) | (rw [accept_arg (.inr hc2)]; rfl) | (rw [accept_seen ((saneM_iff b u).2 hg1) ((saneSeqM_iff s).2 hc2) hc3]; rfl) | (rw [accept_far ((saneM_iff b u).2 hg1) ((saneSeqM_iff s).2 hc2) hc3 hc4]; rfl) | (rw [accept_ok ((saneM_iff b u).2 hg1) ((saneSeqM_iff s).2 hc2) hc3 hc4]; rfl))
                    · replace hc4 := of_decide_eq_false hc4
                      try rw [saneM_iff] at hc4
                      try rw [saneSeqM_iff] at hc4
                      first
                      | (exfalso; first | omega | contradiction)
                      | (
                          refine cskip ?_
                          refine block_normal ?_
                          refine then_normal ?_
                          refine cseq ?_
                          refine cdraw_st 12 mixed (by kernel_rfl) rfl sz26 rfl rfl ?_
                          first | (refine mv rfl (opv_fieldAddr_lp fi26_0 rfl) ?_) | (refine mv rfl (opv_fieldAddr_cp fi26_0 rfl) ?_) | (refine mv rfl (opv_fieldAddr_ap fi26_0 rfl rfl (by first | rfl | omega)) ?_)
                          first | (refine mv rfl (opv_load1 ti3 rfl (.lp _ _ _ rfl) rfl) ?_) | (refine mv rfl (opv_load1 ti3 rfl (.cp _) rfl) ?_) | (refine mv rfl (opv_load1 ti3 rfl (.ap _ _ _ _ _ _ _ rfl (by first | rfl | omega)) rfl) ?_)
                          first | (refine mv rfl (opv_fieldAddr_lp fi26_1 rfl) ?_) | (refine mv rfl (opv_fieldAddr_cp fi26_1 rfl) ?_) | (refine mv rfl (opv_fieldAddr_ap fi26_1 rfl rfl (by first | rfl | omega)) ?_)
                          first | (refine mv rfl (opv_load1 ti22 rfl (.lp _ _ _ rfl) rfl) ?_) | (refine mv rfl (opv_load1 ti22 rfl (.cp _) rfl) ?_) | (refine mv rfl (opv_load1 ti22 rfl (.ap _ _ _ _ _ _ _ rfl (by first | rfl | omega)) rfl) ?_)
                          first | (refine mv rfl (opv_mv rfl) ?_) | (refine mv rfl (opv_mvt rfl) ?_)
                          first | (refine mv rfl (opv_fieldAddr_lp fi26_0 rfl) ?_) | (refine mv rfl (opv_fieldAddr_cp fi26_0 rfl) ?_) | (refine mv rfl (opv_fieldAddr_ap fi26_0 rfl rfl (by first | rfl | omega)) ?_)
                          first | (refine mv rfl (opv_load1 ti3 rfl (.lp _ _ _ rfl) rfl) ?_) | (refine mv rfl (opv_load1 ti3 rfl (.cp _) rfl) ?_) | (refine mv rfl (opv_load1 ti3 rfl (.ap _ _ _ _ _ _ _ rfl (by first | rfl | omega)) rfl) ?_)
                          refine mv rfl (opv_sub_ok rfl rfl (wrap_i64 (by omega) (by omega))) ?_
                          refine mv rfl (opv_shl_u64 rfl (show ((1 : Int)) = ((1#64).toNat : Int) from rfl) rfl (by omega)) ?_
                          refine mv rfl (opv_or_u64 rfl rfl rfl rfl) ?_
                          refine mv rfl (opv_build zi26 pi26 (parts_cons rfl (parts_cons rfl parts_nil)) (.cons _ _ _ _ _ _ _ rfl rfl (Nat.le_of_ble_eq_true rfl) (.cons _ _ _ _ _ _ _ rfl rfl (Nat.le_of_ble_eq_true rfl) (.nil _)))) ?_
                          refine mdd rfl (opD_call fn23 (opnds_cons rfl opnds_nil) rfl (settle_c (by omega))) ?_
                          refine mst ?_
                          first | (refine mv rfl (opv_as rfl) ?_) | (refine mv rfl (opv_ast rfl) ?_)
                          refine mnil ?_
                          refine ⟨rfl, _, rfl, rfl, Nat.le_of_ble_eq_true rfl, ?_⟩
                          refine then_normal ?_
                          refine cret ?_
                          refine ⟨Or.inr rfl, _, _, _, (resVs_cons (ResV.agg _ _ _ _ _ ti26 rfl (.lp _ _ _ rfl) (Nat.le_of_ble_eq_true rfl)) (resVs_cons (ResV.tmp _ _ rfl) resVs_nil)), (by (repeat' first | exact pubA_id rfl | exact PubA.nil _ | refine PubA.cons _ ?_ _ _ _ _ _ ?_ ?_ | refine PubV.one _ _ _ _ ?_ | refine PubV.agg _ _ _ _ ?_ | exact PubL.nil | exact PubL.id _ rfl | exact PubL.ls _ _ _ _ _ _ rfl (by first | rfl | omega) | exact PubLs.all _ _ (List.all_eq_true.1 rfl) | refine PubLs.cons _ ?_ _ _ _ _ _ ?_ ?_ | exact PubLs.nil _)), ?_⟩
                          first | (rw [accept_arg (.inl hg1)]; rfl) | (rw [accept_arg (.inr hc2)]; rfl) | (rw [accept_seen ((saneM_iff b u).2 hg1) ((saneSeqM_iff s).2 hc2) hc3]; rfl) | (rw [accept_far ((saneM_iff b u).2 hg1) ((saneSeqM_iff s).2 hc2) hc3 hc4]; rfl) | (rw [accept_ok ((saneM_iff b u).2 hg1) ((saneSeqM_iff s).2 hc2) hc3 hc4]; rfl)))))

theorem accept_k {b b' : Int} {u u' : BitVec 64} {s e : Int} (hb : -9223372036854775808 ≤ b ∧ b ≤ 9223372036854775807) (h : acceptM b u s = ((b', u'), e)) : CallsA Try.prog 10 [wsv b u, .one (.i .i64 s)] (· = .tup [wsv b' u', .one (.i .i64 e)]) := by
  have := accept_c (u := u) (s := s) hb
  rwa [h] at this

theorem awake_c  : CallsA Try.prog 8 [] (· = .s (.one (.b true))) := by
  refine callsA_of Try.func8 rfl (nt := 41) rfl (Nat.le_of_ble_eq_true rfl) ?_
  intro w0 S0
  refine cseq ?_
  refine cregion ?_
  first | (refine sv rfl (opv_as rfl) ?_) | (refine sv rfl (opv_ast rfl) ?_)
  refine snil ?_
  refine cseq ?_
  refine cregion ?_
  refine sv rfl (opv_build zi26 pi26 parts_nil (.nil _)) ?_
  refine scall1 rfl fn10 (opnds_cons rfl (opnds_cons rfl opnds_nil)) (by (repeat' first | exact pubA_id rfl | exact PubA.nil _ | refine PubA.cons _ ?_ _ _ _ _ _ ?_ ?_ | refine PubV.one _ _ _ _ ?_ | refine PubV.agg _ _ _ _ ?_ | exact PubL.nil | exact PubL.id _ rfl | exact PubL.ls _ _ _ _ _ _ rfl (by first | rfl | omega) | exact PubLs.all _ _ (List.all_eq_true.1 rfl) | refine PubLs.cons _ ?_ _ _ _ _ _ ?_ ?_ | exact PubLs.nil _)) (accept_k (b := 0) (u := 0#64) (b' := 0) (u' := 2#64) (e := 0) (by omega) (by decide)) ?_
  first | (refine sv rfl (opv_mv rfl) ?_) | (refine sv rfl (opv_mvt rfl) ?_)
  refine sv rfl (opv_extract rfl rfl) ?_
  refine sv rfl (opv_extract rfl rfl) ?_
  refine salloc rfl zi26 ?_
  first | (refine sstore sz26 rfl rfl rfl rfl (Nat.le_of_ble_eq_true rfl) ?_) | (refine sstore_ap sz26 rfl rfl rfl (by first | rfl | omega) rfl (List.all_eq_true.1 rfl) (by omega) (by omega) ?_)
  first | (refine sv rfl (opv_as rfl) ?_) | (refine sv rfl (opv_ast rfl) ?_)
  refine snil ?_
  refine cseq ?_
  refine cregion ?_
  first | (refine sv rfl (opv_loadN ti26 rfl (.lp _ _ _ rfl) (Nat.le_of_ble_eq_true rfl)) ?_) | (refine sv rfl (opv_loadN ti26 rfl (.cp _) (Nat.le_of_ble_eq_true rfl)) ?_)
  refine scall1 rfl fn10 (opnds_cons rfl (opnds_cons rfl opnds_nil)) (by (repeat' first | exact pubA_id rfl | exact PubA.nil _ | refine PubA.cons _ ?_ _ _ _ _ _ ?_ ?_ | refine PubV.one _ _ _ _ ?_ | refine PubV.agg _ _ _ _ ?_ | exact PubL.nil | exact PubL.id _ rfl | exact PubL.ls _ _ _ _ _ _ rfl (by first | rfl | omega) | exact PubLs.all _ _ (List.all_eq_true.1 rfl) | refine PubLs.cons _ ?_ _ _ _ _ _ ?_ ?_ | exact PubLs.nil _)) (accept_k (b := 0) (u := 2#64) (b' := 2) (u' := 0#64) (e := 0) (by omega) (by decide)) ?_
  first | (refine sv rfl (opv_mv rfl) ?_) | (refine sv rfl (opv_mvt rfl) ?_)
  refine sv rfl (opv_extract rfl rfl) ?_
  refine sv rfl (opv_extract rfl rfl) ?_
  first | (refine sstore sz26 rfl rfl rfl rfl (Nat.le_of_ble_eq_true rfl) ?_) | (refine sstore_ap sz26 rfl rfl rfl (by first | rfl | omega) rfl (List.all_eq_true.1 rfl) (by omega) (by omega) ?_)
  first | (refine sv rfl (opv_as rfl) ?_) | (refine sv rfl (opv_ast rfl) ?_)
  refine snil ?_
  refine cseq ?_
  refine cregion ?_
  first | (refine sv rfl (opv_loadN ti26 rfl (.lp _ _ _ rfl) (Nat.le_of_ble_eq_true rfl)) ?_) | (refine sv rfl (opv_loadN ti26 rfl (.cp _) (Nat.le_of_ble_eq_true rfl)) ?_)
  refine scall1 rfl fn10 (opnds_cons rfl (opnds_cons rfl opnds_nil)) (by (repeat' first | exact pubA_id rfl | exact PubA.nil _ | refine PubA.cons _ ?_ _ _ _ _ _ ?_ ?_ | refine PubV.one _ _ _ _ ?_ | refine PubV.agg _ _ _ _ ?_ | exact PubL.nil | exact PubL.id _ rfl | exact PubL.ls _ _ _ _ _ _ rfl (by first | rfl | omega) | exact PubLs.all _ _ (List.all_eq_true.1 rfl) | refine PubLs.cons _ ?_ _ _ _ _ _ ?_ ?_ | exact PubLs.nil _)) (accept_k (b := 2) (u := 0#64) (b' := 0) (u' := 0#64) (e := 7) (by omega) (by decide)) ?_
  first | (refine sv rfl (opv_mv rfl) ?_) | (refine sv rfl (opv_mvt rfl) ?_)
  refine sv rfl (opv_extract rfl rfl) ?_
  refine sv rfl (opv_extract rfl rfl) ?_
  refine salloc rfl zi26 ?_
  first | (refine sstore sz26 rfl rfl rfl rfl (Nat.le_of_ble_eq_true rfl) ?_) | (refine sstore_ap sz26 rfl rfl rfl (by first | rfl | omega) rfl (List.all_eq_true.1 rfl) (by omega) (by omega) ?_)
  first | (refine sv rfl (opv_as rfl) ?_) | (refine sv rfl (opv_ast rfl) ?_)
  refine snil ?_
  refine cseq ?_
  refine cregion ?_
  first | (refine sv rfl (opv_mv rfl) ?_) | (refine sv rfl (opv_mvt rfl) ?_)
  refine sv rfl (opv_ieql rfl rfl) ?_
  first | (refine sv rfl (opv_mv rfl) ?_) | (refine sv rfl (opv_mvt rfl) ?_)
  refine ssplit 23 rfl (fun hg1 => ?_) (fun hg1 => ?_)
  · replace hg1 := of_decide_eq_true hg1
    first
    | (exfalso; first | omega | contradiction)
    | (
        refine son rfl rfl rfl ?_
        first | (refine sv rfl (opv_mv rfl) ?_) | (refine sv rfl (opv_mvt rfl) ?_)
        refine son rfl rfl rfl ?_
        refine sv rfl (opv_ieql rfl rfl) ?_
        first | (refine sv rfl (opv_pick_t rfl rfl) ?_) | (refine sv rfl (opv_pick_f rfl rfl) ?_)
        first | (refine sv rfl (opv_mv rfl) ?_) | (refine sv rfl (opv_mvt rfl) ?_)
        refine ssplit 27 rfl (fun hg2 => ?_) (fun hg2 => ?_)
        · replace hg2 := of_decide_eq_true hg2
          first
          | (exfalso; first | omega | contradiction)
          | (
              refine son rfl rfl rfl ?_
              first | (refine sv rfl (opv_mv rfl) ?_) | (refine sv rfl (opv_mvt rfl) ?_)
              refine son rfl rfl rfl ?_
              refine sv rfl (opv_ieql rfl rfl) ?_
              first | (refine sv rfl (opv_pick_t rfl rfl) ?_) | (refine sv rfl (opv_pick_f rfl rfl) ?_)
              first | (refine sv rfl (opv_mv rfl) ?_) | (refine sv rfl (opv_mvt rfl) ?_)
              refine ssplit 31 rfl (fun hg3 => ?_) (fun hg3 => ?_)
              · replace hg3 := of_decide_eq_true hg3
                first
                | (exfalso; first | omega | contradiction)
                | (
                    refine son rfl rfl rfl ?_
                    first | (refine sv rfl (opv_fieldAddr_lp fi26_0 rfl) ?_) | (refine sv rfl (opv_fieldAddr_cp fi26_0 rfl) ?_) | (refine sv rfl (opv_fieldAddr_ap fi26_0 rfl rfl (by first | rfl | omega)) ?_)
                    refine son rfl rfl rfl ?_
                    first | (refine sv rfl (opv_load1 ti3 rfl (.lp _ _ _ rfl) rfl) ?_) | (refine sv rfl (opv_load1 ti3 rfl (.cp _) rfl) ?_) | (refine sv rfl (opv_load1 ti3 rfl (.ap _ _ _ _ _ _ _ rfl (by first | rfl | omega)) rfl) ?_)
                    refine son rfl rfl rfl ?_
                    refine sv rfl (opv_ieql rfl rfl) ?_
                    first | (refine sv rfl (opv_pick_t rfl rfl) ?_) | (refine sv rfl (opv_pick_f rfl rfl) ?_)
                    first | (refine sv rfl (opv_mv rfl) ?_) | (refine sv rfl (opv_mvt rfl) ?_)
                    refine ssplit 36 rfl (fun hg4 => ?_) (fun hg4 => ?_)
                    · replace hg4 := of_decide_eq_true hg4
                      first
                      | (exfalso; first | omega | contradiction)
                      | (
                          refine son rfl rfl rfl ?_
                          first | (refine sv rfl (opv_fieldAddr_lp fi26_1 rfl) ?_) | (refine sv rfl (opv_fieldAddr_cp fi26_1 rfl) ?_) | (refine sv rfl (opv_fieldAddr_ap fi26_1 rfl rfl (by first | rfl | omega)) ?_)
                          refine son rfl rfl rfl ?_
                          first | (refine sv rfl (opv_load1 ti22 rfl (.lp _ _ _ rfl) rfl) ?_) | (refine sv rfl (opv_load1 ti22 rfl (.cp _) rfl) ?_) | (refine sv rfl (opv_load1 ti22 rfl (.ap _ _ _ _ _ _ _ rfl (by first | rfl | omega)) rfl) ?_)
                          refine son rfl rfl rfl ?_
                          refine sv rfl (opv_ieql rfl rfl) ?_
                          first | (refine sv rfl (opv_pick_t rfl rfl) ?_) | (refine sv rfl (opv_pick_f rfl rfl) ?_)
                          first | (refine sv rfl (opv_as rfl) ?_) | (refine sv rfl (opv_ast rfl) ?_)
                          refine snil ?_
                          refine cret ?_
                          refine ⟨Or.inr rfl, _, _, _, (resVs_cons (ResV.tmp _ _ rfl) resVs_nil), (by (repeat' first | exact pubA_id rfl | exact PubA.nil _ | refine PubA.cons _ ?_ _ _ _ _ _ ?_ ?_ | refine PubV.one _ _ _ _ ?_ | refine PubV.agg _ _ _ _ ?_ | exact PubL.nil | exact PubL.id _ rfl | exact PubL.ls _ _ _ _ _ _ rfl (by first | rfl | omega) | exact PubLs.all _ _ (List.all_eq_true.1 rfl) | refine PubLs.cons _ ?_ _ _ _ _ _ ?_ ?_ | exact PubLs.nil _)), ?_⟩
                          refine avb ?_
                          decide)
                    · replace hg4 := of_decide_eq_false hg4
                      first
                      | (exfalso; first | omega | contradiction)
                      | (
                          refine soff rfl rfl rfl rfl ?_
                          refine soff rfl rfl rfl rfl ?_
                          refine soff rfl rfl rfl rfl ?_
                          first | (refine sv rfl (opv_pick_t rfl rfl) ?_) | (refine sv rfl (opv_pick_f rfl rfl) ?_)
                          first | (refine sv rfl (opv_as rfl) ?_) | (refine sv rfl (opv_ast rfl) ?_)
                          refine snil ?_
                          refine cret ?_
                          refine ⟨Or.inr rfl, _, _, _, (resVs_cons (ResV.tmp _ _ rfl) resVs_nil), (by (repeat' first | exact pubA_id rfl | exact PubA.nil _ | refine PubA.cons _ ?_ _ _ _ _ _ ?_ ?_ | refine PubV.one _ _ _ _ ?_ | refine PubV.agg _ _ _ _ ?_ | exact PubL.nil | exact PubL.id _ rfl | exact PubL.ls _ _ _ _ _ _ rfl (by first | rfl | omega) | exact PubLs.all _ _ (List.all_eq_true.1 rfl) | refine PubLs.cons _ ?_ _ _ _ _ _ ?_ ?_ | exact PubLs.nil _)), ?_⟩
                          refine avb ?_
                          decide))
              · replace hg3 := of_decide_eq_false hg3
                first
                | (exfalso; first | omega | contradiction)
                | (
                    refine soff rfl rfl rfl rfl ?_
                    refine soff rfl rfl rfl rfl ?_
                    refine soff rfl rfl rfl rfl ?_
                    first | (refine sv rfl (opv_pick_t rfl rfl) ?_) | (refine sv rfl (opv_pick_f rfl rfl) ?_)
                    first | (refine sv rfl (opv_mv rfl) ?_) | (refine sv rfl (opv_mvt rfl) ?_)
                    refine soff rfl rfl rfl rfl ?_
                    refine soff rfl rfl rfl rfl ?_
                    refine soff rfl rfl rfl rfl ?_
                    first | (refine sv rfl (opv_pick_t rfl rfl) ?_) | (refine sv rfl (opv_pick_f rfl rfl) ?_)
                    first | (refine sv rfl (opv_as rfl) ?_) | (refine sv rfl (opv_ast rfl) ?_)
                    refine snil ?_
                    refine cret ?_
                    refine ⟨Or.inr rfl, _, _, _, (resVs_cons (ResV.tmp _ _ rfl) resVs_nil), (by (repeat' first | exact pubA_id rfl | exact PubA.nil _ | refine PubA.cons _ ?_ _ _ _ _ _ ?_ ?_ | refine PubV.one _ _ _ _ ?_ | refine PubV.agg _ _ _ _ ?_ | exact PubL.nil | exact PubL.id _ rfl | exact PubL.ls _ _ _ _ _ _ rfl (by first | rfl | omega) | exact PubLs.all _ _ (List.all_eq_true.1 rfl) | refine PubLs.cons _ ?_ _ _ _ _ _ ?_ ?_ | exact PubLs.nil _)), ?_⟩
                    refine avb ?_
                    decide))
        · replace hg2 := of_decide_eq_false hg2
          first
          | (exfalso; first | omega | contradiction)
          | (
              refine soff rfl rfl rfl rfl ?_
              refine soff rfl rfl rfl rfl ?_
              first | (refine sv rfl (opv_pick_t rfl rfl) ?_) | (refine sv rfl (opv_pick_f rfl rfl) ?_)
              first | (refine sv rfl (opv_mv rfl) ?_) | (refine sv rfl (opv_mvt rfl) ?_)
              refine soff rfl rfl rfl rfl ?_
              refine soff rfl rfl rfl rfl ?_
              refine soff rfl rfl rfl rfl ?_
              first | (refine sv rfl (opv_pick_t rfl rfl) ?_) | (refine sv rfl (opv_pick_f rfl rfl) ?_)
              first | (refine sv rfl (opv_mv rfl) ?_) | (refine sv rfl (opv_mvt rfl) ?_)
              refine soff rfl rfl rfl rfl ?_
              refine soff rfl rfl rfl rfl ?_
              refine soff rfl rfl rfl rfl ?_
              first | (refine sv rfl (opv_pick_t rfl rfl) ?_) | (refine sv rfl (opv_pick_f rfl rfl) ?_)
              first | (refine sv rfl (opv_as rfl) ?_) | (refine sv rfl (opv_ast rfl) ?_)
              refine snil ?_
              refine cret ?_
              refine ⟨Or.inr rfl, _, _, _, (resVs_cons (ResV.tmp _ _ rfl) resVs_nil), (by (repeat' first | exact pubA_id rfl | exact PubA.nil _ | refine PubA.cons _ ?_ _ _ _ _ _ ?_ ?_ | refine PubV.one _ _ _ _ ?_ | refine PubV.agg _ _ _ _ ?_ | exact PubL.nil | exact PubL.id _ rfl | exact PubL.ls _ _ _ _ _ _ rfl (by first | rfl | omega) | exact PubLs.all _ _ (List.all_eq_true.1 rfl) | refine PubLs.cons _ ?_ _ _ _ _ _ ?_ ?_ | exact PubLs.nil _)), ?_⟩
              refine avb ?_
              decide))
  · replace hg1 := of_decide_eq_false hg1
    first
    | (exfalso; first | omega | contradiction)
    | (
        refine soff rfl rfl rfl rfl ?_
        refine soff rfl rfl rfl rfl ?_
        first | (refine sv rfl (opv_pick_t rfl rfl) ?_) | (refine sv rfl (opv_pick_f rfl rfl) ?_)
        first | (refine sv rfl (opv_mv rfl) ?_) | (refine sv rfl (opv_mvt rfl) ?_)
        refine soff rfl rfl rfl rfl ?_
        refine soff rfl rfl rfl rfl ?_
        first | (refine sv rfl (opv_pick_t rfl rfl) ?_) | (refine sv rfl (opv_pick_f rfl rfl) ?_)
        first | (refine sv rfl (opv_mv rfl) ?_) | (refine sv rfl (opv_mvt rfl) ?_)
        refine soff rfl rfl rfl rfl ?_
        refine soff rfl rfl rfl rfl ?_
        refine soff rfl rfl rfl rfl ?_
        first | (refine sv rfl (opv_pick_t rfl rfl) ?_) | (refine sv rfl (opv_pick_f rfl rfl) ?_)
        first | (refine sv rfl (opv_mv rfl) ?_) | (refine sv rfl (opv_mvt rfl) ?_)
        refine soff rfl rfl rfl rfl ?_
        refine soff rfl rfl rfl rfl ?_
        refine soff rfl rfl rfl rfl ?_
        first | (refine sv rfl (opv_pick_t rfl rfl) ?_) | (refine sv rfl (opv_pick_f rfl rfl) ?_)
        first | (refine sv rfl (opv_as rfl) ?_) | (refine sv rfl (opv_ast rfl) ?_)
        refine snil ?_
        refine cret ?_
        refine ⟨Or.inr rfl, _, _, _, (resVs_cons (ResV.tmp _ _ rfl) resVs_nil), (by (repeat' first | exact pubA_id rfl | exact PubA.nil _ | refine PubA.cons _ ?_ _ _ _ _ _ ?_ ?_ | refine PubV.one _ _ _ _ ?_ | refine PubV.agg _ _ _ _ ?_ | exact PubL.nil | exact PubL.id _ rfl | exact PubL.ls _ _ _ _ _ _ rfl (by first | rfl | omega) | exact PubLs.all _ _ (List.all_eq_true.1 rfl) | refine PubLs.cons _ ?_ _ _ _ _ _ ?_ ?_ | exact PubLs.nil _)), ?_⟩
        refine avb ?_
        decide)

theorem seqsOnce_c {xs : List Int} {k : Int} (hxs : ∀ x ∈ xs, -9223372036854775808 ≤ x ∧ x ≤ 9223372036854775807) : CallsA Try.prog 4 [.one (.sl xs.length (il xs)), .one (.i .i64 k)] (· = .s (.one (.b true))) := by
  refine callsA_of Try.func4 rfl (nt := 79) rfl (Nat.le_of_ble_eq_true rfl) ?_
  intro w0 S0
  refine cseq ?_
  refine cregion ?_
  first | (refine sv rfl (opv_as rfl) ?_) | (refine sv rfl (opv_ast rfl) ?_)
  refine snil ?_
  refine cseq ?_
  refine cregion ?_
  refine scall1 rfl fn8 opnds_nil (by (repeat' first | exact pubA_id rfl | exact PubA.nil _ | refine PubA.cons _ ?_ _ _ _ _ _ ?_ ?_ | refine PubV.one _ _ _ _ ?_ | refine PubV.agg _ _ _ _ ?_ | exact PubL.nil | exact PubL.id _ rfl | exact PubL.ls _ _ _ _ _ _ rfl (by first | rfl | omega) | exact PubLs.all _ _ (List.all_eq_true.1 rfl) | refine PubLs.cons _ ?_ _ _ _ _ _ ?_ ?_ | exact PubLs.nil _)) (awake_c) ?_
  first | (refine sv rfl (opv_as rfl) ?_) | (refine sv rfl (opv_ast rfl) ?_)
  refine snil ?_
  refine cseq ?_
  refine cseq ?_
  refine cregion ?_
  first | (refine sv rfl (opv_mv rfl) ?_) | (refine sv rfl (opv_mvt rfl) ?_)
  first | (refine sv rfl (opv_len_sl si39 rfl) ?_) | (refine sv rfl (opv_len_nil si39 rfl) ?_) | (refine sv rfl (opv_len_ls si39 rfl rfl (by first | rfl | omega)) ?_)
  refine sv rfl (opv_gtr rfl rfl) ?_
  refine snil ?_
  refine ccond rfl (fun hc1 => ?_) (fun hc1 => ?_)
  · replace hc1 := of_decide_eq_true hc1
    first
    | (exfalso; first | omega | contradiction | (rw [accept7 hs] at hc1; contradiction) | (rw [hsy, decide_eq_true rfl] at hc1; contradiction) | (rw [hs'] at hc1; contradiction))
    | (
        refine cseq ?_
        refine cregion ?_
        first | (refine sv rfl (opv_mv rfl) ?_) | (refine sv rfl (opv_mvt rfl) ?_)
        first | (refine sv rfl (opv_as rfl) ?_) | (refine sv rfl (opv_ast rfl) ?_)
        refine snil ?_
        refine cret ?_
        refine then_ret ?_
        refine ⟨Or.inr rfl, _, _, _, (resVs_cons (ResV.tmp _ _ rfl) resVs_nil), (by (repeat' first | exact pubA_id rfl | exact PubA.nil _ | refine PubA.cons _ ?_ _ _ _ _ _ ?_ ?_ | refine PubV.one _ _ _ _ ?_ | refine PubV.agg _ _ _ _ ?_ | exact PubL.nil | exact PubL.id _ rfl | exact PubL.ls _ _ _ _ _ _ rfl (by first | rfl | omega) | exact PubLs.all _ _ (List.all_eq_true.1 rfl) | refine PubLs.cons _ ?_ _ _ _ _ _ ?_ ?_ | exact PubLs.nil _)), ?_⟩
        first | rfl | exact avb (cntM_seen b u k))
  · replace hc1 := of_decide_eq_false hc1
    first
    | (exfalso; first | omega | contradiction | (rw [accept7 hs] at hc1; contradiction) | (rw [hsy, decide_eq_true rfl] at hc1; contradiction) | (rw [hs'] at hc1; contradiction))
    | (
        refine cskip ?_
        refine then_normal ?_
        refine cseq ?_
        refine cregion ?_
        refine sv rfl (opv_build zi26 pi26 parts_nil (.nil _)) ?_
        refine salloc rfl zi26 ?_
        first | (refine sstore sz26 rfl rfl rfl rfl (Nat.le_of_ble_eq_true rfl) ?_) | (refine sstore_ap sz26 rfl rfl rfl (by first | rfl | omega) rfl (List.all_eq_true.1 rfl) (by omega) (by omega) ?_)
        refine snil ?_
        refine cseq ?_
        refine cregion ?_
        first | (refine sv rfl (opv_as rfl) ?_) | (refine sv rfl (opv_ast rfl) ?_)
        refine snil ?_
        refine cseq ?_
        refine cseq ?_
        refine cregion ?_
        first | (refine sv rfl (opv_as rfl) ?_) | (refine sv rfl (opv_ast rfl) ?_)
        refine snil ?_
        refine cblock ?_
        refine awc_loop (G := Nat × Int × BitVec 64) (fun g => [(0, .s (.one (.sl xs.length (il xs)))), (1, .s (.one (.i .i64 k))), (5, .s (.one (.b true))), (6, .s (.one (.lp 0 0))), (7, .s (.one (.i .i64 (cntM g.2.1 g.2.2 k)))), (8, .s (.one (.i .i64 (g.1 : Int))))]) (fun g => [.box (wsv g.2.1 g.2.2).cells]) (fun g => saneM g.2.1 g.2.2 = true ∧ g.1 ≤ xs.length) (fun g => xs.length - g.1) (0, 0, 0#64) ⟨by decide, Nat.zero_le _⟩ ⟨rfl, rfl, rfl, rfl, congrArg (fun n => AV.s (.one (.i .i64 n))) (cntM_zero k).symm, rfl, trivial⟩ _ rfl (fun _ _ => ⟨rfl, rfl, rfl, rfl, rfl, rfl, trivial⟩) (fun _ _ => blk_inb rfl) ?_
        intro ⟨i, b, u⟩ ⟨hs, hi⟩
        dsimp only at hs hi ⊢
        have hsb := (saneM_iff b u).1 hs
        have hcl := cntM_le b u k
        refine cseq ?_
        refine cseq ?_
        refine cregion ?_
        first | (refine sv rfl (opv_mv rfl) ?_) | (refine sv rfl (opv_mvt rfl) ?_)
        first | (refine sv rfl (opv_mv rfl) ?_) | (refine sv rfl (opv_mvt rfl) ?_)
        first | (refine sv rfl (opv_len_sl si39 rfl) ?_) | (refine sv rfl (opv_len_nil si39 rfl) ?_) | (refine sv rfl (opv_len_ls si39 rfl rfl (by first | rfl | omega)) ?_)
        refine sv rfl (opv_lss rfl rfl) ?_
        refine snil ?_
        refine ccond rfl (fun hc2 => ?_) (fun hc2 => ?_)
        · replace hc2 := of_decide_eq_true hc2
          obtain ⟨x, hx⟩ : ∃ x, xs[i]? = some x := ⟨_, List.getElem?_eq_getElem (by omega)⟩
          have hxr := hxs x (List.mem_of_getElem? hx)
          first
          | (exfalso; first | omega | contradiction | (rw [accept7 hs] at hc2; contradiction) | (rw [hsy, decide_eq_true rfl] at hc2; contradiction) | (rw [hs'] at hc2; contradiction))
          | (
              refine cskip ?_
              refine then_normal ?_
              refine cseq ?_
              refine cblock ?_
              refine cseq ?_
              refine cdraw mixed (by kernel_rfl) ?_
              first | (refine dv rfl (opv_loadN ti26 rfl (.lp _ _ _ rfl) (Nat.le_of_ble_eq_true rfl)) ?_) | (refine dv rfl (opv_loadN ti26 rfl (.cp _) (Nat.le_of_ble_eq_true rfl)) ?_)
              first | (refine dv rfl (opv_mv rfl) ?_) | (refine dv rfl (opv_mvt rfl) ?_)
              first | (refine dv rfl (opv_mv rfl) ?_) | (refine dv rfl (opv_mvt rfl) ?_)
              first | (refine dv rfl (opv_indexAddr_sl si39 rfl rfl (by omega) (by omega)) ?_) | (refine dv rfl (opv_indexAddr_ls si39 rfl rfl rfl (by first | rfl | omega) (by omega) (by omega)) ?_)
              first | (refine dv rfl (opv_load1 ti3 rfl (.lp _ _ _ rfl) rfl) ?_) | (refine dv rfl (opv_load1 ti3 rfl (.cp _) rfl) ?_) | (refine dv rfl (opv_load1 ti3 rfl (.cp _) (il_drop hx)) ?_) | (refine dv rfl (opv_load1 ti3 rfl (.ap _ _ _ _ _ _ _ rfl (by first | rfl | omega)) rfl) ?_)
              refine dd rfl (opD_call fn15 (opnds_cons rfl (opnds_cons rfl opnds_nil)) rfl (seen_c (by omega))) ?_
              first | (refine dv rfl (opv_as rfl) ?_) | (refine dv rfl (opv_ast rfl) ?_)
              refine dnil ?_
              refine then_normal ?_
              refine cseq ?_
              refine cdraw_as (zl := [.i .i64 0, .i .u64 0]) 10 9 mixed (by kernel_rfl) rfl rfl (by kernel_rfl) sz26 zi26 ?_
              first | (refine mv rfl (opv_loadN ti26 rfl (.lp _ _ _ rfl) (Nat.le_of_ble_eq_true rfl)) ?_) | (refine mv rfl (opv_loadN ti26 rfl (.cp _) (Nat.le_of_ble_eq_true rfl)) ?_)
              first | (refine mv rfl (opv_mv rfl) ?_) | (refine mv rfl (opv_mvt rfl) ?_)
              first | (refine mv rfl (opv_mv rfl) ?_) | (refine mv rfl (opv_mvt rfl) ?_)
              first | (refine mv rfl (opv_indexAddr_sl si39 rfl rfl (by omega) (by omega)) ?_) | (refine mv rfl (opv_indexAddr_ls si39 rfl rfl rfl (by first | rfl | omega) (by omega) (by omega)) ?_)
              first | (refine mv rfl (opv_load1 ti3 rfl (.lp _ _ _ rfl) rfl) ?_) | (refine mv rfl (opv_load1 ti3 rfl (.cp _) rfl) ?_) | (refine mv rfl (opv_load1 ti3 rfl (.cp _) (il_drop hx)) ?_) | (refine mv rfl (opv_load1 ti3 rfl (.ap _ _ _ _ _ _ _ rfl (by first | rfl | omega)) rfl) ?_)
              refine mdd rfl (opD_call fn10 (opnds_cons rfl (opnds_cons rfl opnds_nil)) rfl (accept_c (by omega))) ?_
              first | (refine mv rfl (opv_mv rfl) ?_) | (refine mv rfl (opv_mvt rfl) ?_)
              refine mv rfl (opv_extract rfl rfl) ?_
              refine mv rfl (opv_extract rfl rfl) ?_
              refine mal rfl ?_
              refine mst ?_
              first | (refine mv rfl (opv_as rfl) ?_) | (refine mv rfl (opv_ast rfl) ?_)
              refine mnil ?_
              refine ⟨rfl, rfl, _, rfl, rfl, ?_⟩
              refine then_normal ?_
              refine cseq ?_
              refine cseq ?_
              refine cregion ?_
              first | (refine sv rfl (opv_mv rfl) ?_) | (refine sv rfl (opv_mvt rfl) ?_)
              first | (refine sv rfl (opv_mv rfl) ?_) | (refine sv rfl (opv_mvt rfl) ?_)
              refine sv rfl (opv_ieql rfl rfl) ?_
              refine sv rfl (opv_bneq Try.underlying4 rfl rfl) ?_
              refine snil ?_
              refine ccond rfl (fun hc3 => ?_) (fun hc3 => ?_)
              · replace hc3 := bnot_t hc3
                first
                | (exfalso; first | omega | contradiction | (rw [accept7 hs] at hc3; contradiction) | (rw [hsy, decide_eq_true rfl] at hc3; contradiction) | (rw [hs'] at hc3; contradiction))
                | (
                    refine cseq ?_
                    refine cregion ?_
                    first | (refine sv rfl (opv_as rfl) ?_) | (refine sv rfl (opv_ast rfl) ?_)
                    refine snil ?_
                    refine cret ?_
                    refine then_ret ?_
                    refine block_ret ?_
                    refine then_ret ?_
                    refine then_ret ?_
                    refine block_ret ?_
                    refine then_ret ?_
                    refine ⟨Or.inr rfl, _, _, _, (resVs_cons (ResV.tmp _ _ rfl) resVs_nil), (by (repeat' first | exact pubA_id rfl | exact PubA.nil _ | refine PubA.cons _ ?_ _ _ _ _ _ ?_ ?_ | refine PubV.one _ _ _ _ ?_ | refine PubV.agg _ _ _ _ ?_ | exact PubL.nil | exact PubL.id _ rfl | exact PubL.ls _ _ _ _ _ _ rfl (by first | rfl | omega) | exact PubLs.all _ _ (List.all_eq_true.1 rfl) | refine PubLs.cons _ ?_ _ _ _ _ _ ?_ ?_ | exact PubLs.nil _)), ?_⟩
                    first | rfl | exact avb (cntM_seen b u k))
              · replace hc3 := bnot_f hc3
                first
                | (exfalso; first | omega | contradiction | (rw [accept7 hs] at hc3; contradiction) | (rw [hsy, decide_eq_true rfl] at hc3; contradiction) | (rw [hs'] at hc3; contradiction))
                | (
                    refine cskip ?_
                    refine then_normal ?_
                    refine cseq ?_
                    refine cseq ?_
                    refine cregion ?_
                    first | (refine sv rfl (opv_mv rfl) ?_) | (refine sv rfl (opv_mvt rfl) ?_)
                    refine sv rfl (opv_ineq rfl rfl) ?_
                    refine snil ?_
                    refine ccond rfl (fun hc4 => ?_) (fun hc4 => ?_)
                    · replace hc4 := ndec_t hc4
                      first
                      | (exfalso; first | omega | contradiction | (rw [accept7 hs] at hc4; contradiction) | (rw [hsy, decide_eq_true rfl] at hc4; contradiction) | (rw [hs'] at hc4; contradiction))
                      | (
                          refine cexit ?_
                          refine then_exit ?_
                          refine block_hit ?_
                          refine then_normal ?_
                          refine cregion ?_
                          first | (refine sv rfl (opv_mv rfl) ?_) | (refine sv rfl (opv_mvt rfl) ?_)
                          refine sv rfl (opv_add_ok rfl rfl (wrap_i64 (by omega) (by omega))) ?_
                          first | (refine sv rfl (opv_as rfl) ?_) | (refine sv rfl (opv_ast rfl) ?_)
                          refine snil ?_
                          first
                            | exact ⟨(i + 1, b, u), _, ⟨hs, by dsimp only; omega⟩, ⟨rfl, rfl, rfl, rfl, rfl, rfl, trivial⟩, rfl, by dsimp only; omega⟩
                            | exact ⟨(i + 1, (acceptM b u x).1.1, (acceptM b u x).1.2), _, ⟨hs', by dsimp only; omega⟩, ⟨rfl, rfl, rfl, rfl, congrArg (fun n => AV.s (.one (.i .i64 n))) (by rw [cntM_next hs hc4, if_pos hc5]), rfl, trivial⟩, rfl, by dsimp only; omega⟩
                            | exact ⟨(i + 1, (acceptM b u x).1.1, (acceptM b u x).1.2), _, ⟨hs', by dsimp only; omega⟩, ⟨rfl, rfl, rfl, rfl, congrArg (fun n => AV.s (.one (.i .i64 n))) (by rw [cntM_next hs hc4, if_neg hc5]), rfl, trivial⟩, rfl, by dsimp only; omega⟩
                           )
                    · replace hc4 := ndec_f hc4
                      obtain ⟨hs', hsn, hsy⟩ := accept_spec hs hc4
                      have hsb' := (saneM_iff _ _).1 hs'
                      first
                      | (exfalso; first | omega | contradiction | (rw [accept7 hs] at hc4; contradiction) | (rw [hsy, decide_eq_true rfl] at hc4; contradiction) | (rw [hs'] at hc4; contradiction))
                      | (
                          refine cskip ?_
                          refine then_normal ?_
                          refine cseq ?_
                          refine cregion ?_
                          first | (refine sv rfl (opv_loadN ti26 rfl (.lp _ _ _ rfl) (Nat.le_of_ble_eq_true rfl)) ?_) | (refine sv rfl (opv_loadN ti26 rfl (.cp _) (Nat.le_of_ble_eq_true rfl)) ?_)
                          first | (refine sstore sz26 rfl rfl rfl rfl (Nat.le_of_ble_eq_true rfl) ?_) | (refine sstore_ap sz26 rfl rfl rfl (by first | rfl | omega) rfl (List.all_eq_true.1 rfl) (by omega) (by omega) ?_)
                          refine snil ?_
                          refine cseq ?_
                          refine cseq ?_
                          refine cregion ?_
                          first | (refine sv rfl (opv_mv rfl) ?_) | (refine sv rfl (opv_mvt rfl) ?_)
                          first | (refine sv rfl (opv_mv rfl) ?_) | (refine sv rfl (opv_mvt rfl) ?_)
                          first | (refine sv rfl (opv_indexAddr_sl si39 rfl rfl (by omega) (by omega)) ?_) | (refine sv rfl (opv_indexAddr_ls si39 rfl rfl rfl (by first | rfl | omega) (by omega) (by omega)) ?_)
                          first | (refine sv rfl (opv_load1 ti3 rfl (.lp _ _ _ rfl) rfl) ?_) | (refine sv rfl (opv_load1 ti3 rfl (.cp _) rfl) ?_) | (refine sv rfl (opv_load1 ti3 rfl (.cp _) (il_drop hx)) ?_) | (refine sv rfl (opv_load1 ti3 rfl (.ap _ _ _ _ _ _ _ rfl (by first | rfl | omega)) rfl) ?_)
                          first | (refine sv rfl (opv_mv rfl) ?_) | (refine sv rfl (opv_mvt rfl) ?_)
                          refine sv rfl (opv_ieql rfl rfl) ?_
                          refine snil ?_
                          refine ccond rfl (fun hc5 => ?_) (fun hc5 => ?_)
                          · replace hc5 := of_decide_eq_true hc5
                            first
                            | (exfalso; first | omega | contradiction | (rw [accept7 hs] at hc5; contradiction) | (rw [hsy, decide_eq_true rfl] at hc5; contradiction) | (rw [hs'] at hc5; contradiction))
                            | (
                                refine cregion ?_
                                first | (refine sv rfl (opv_mv rfl) ?_) | (refine sv rfl (opv_mvt rfl) ?_)
                                refine sv rfl (opv_add_ok rfl rfl (wrap_i64 (by omega) (by omega))) ?_
                                first | (refine sv rfl (opv_as rfl) ?_) | (refine sv rfl (opv_ast rfl) ?_)
                                refine snil ?_
                                refine cseq ?_
                                refine cdraw mixed (by kernel_rfl) ?_
                                first | (refine dv rfl (opv_loadN ti26 rfl (.lp _ _ _ rfl) (Nat.le_of_ble_eq_true rfl)) ?_) | (refine dv rfl (opv_loadN ti26 rfl (.cp _) (Nat.le_of_ble_eq_true rfl)) ?_)
                                first | (refine dv rfl (opv_mv rfl) ?_) | (refine dv rfl (opv_mvt rfl) ?_)
                                first | (refine dv rfl (opv_mv rfl) ?_) | (refine dv rfl (opv_mvt rfl) ?_)
                                first | (refine dv rfl (opv_indexAddr_sl si39 rfl rfl (by omega) (by omega)) ?_) | (refine dv rfl (opv_indexAddr_ls si39 rfl rfl rfl (by first | rfl | omega) (by omega) (by omega)) ?_)
                                first | (refine dv rfl (opv_load1 ti3 rfl (.lp _ _ _ rfl) rfl) ?_) | (refine dv rfl (opv_load1 ti3 rfl (.cp _) rfl) ?_) | (refine dv rfl (opv_load1 ti3 rfl (.cp _) (il_drop hx)) ?_) | (refine dv rfl (opv_load1 ti3 rfl (.ap _ _ _ _ _ _ _ rfl (by first | rfl | omega)) rfl) ?_)
                                refine dd rfl (opD_call fn15 (opnds_cons rfl (opnds_cons rfl opnds_nil)) rfl (seen_c (by omega))) ?_
                                refine dv rfl (opv_not rfl) ?_
                                first | (refine dv rfl (opv_mv rfl) ?_) | (refine dv rfl (opv_mvt rfl) ?_)
                                refine dsplit 61 rfl (fun hg6 => ?_) (fun hg6 => ?_)
                                · replace hg6 := bnot_t hg6
                                  first
                                  | (exfalso; first | omega | contradiction | (rw [accept7 hs] at hg6; contradiction) | (rw [hsy, decide_eq_true rfl] at hg6; contradiction) | (rw [hs'] at hg6; contradiction))
                                  | (
                                      refine doff rfl rfl rfl rfl ?_
                                      refine doff rfl rfl rfl rfl ?_
                                      refine doff rfl rfl rfl rfl ?_
                                      first | (refine dv rfl (opv_pick_t rfl rfl) ?_) | (refine dv rfl (opv_pick_f rfl rfl) ?_)
                                      refine dnil ?_
                                      refine then_normal ?_
                                      refine ccond rfl (fun _ => ?_) (fun hx => Bool.noConfusion hx)
                                      refine cseq ?_
                                      refine cregion ?_
                                      first | (refine sv rfl (opv_as rfl) ?_) | (refine sv rfl (opv_ast rfl) ?_)
                                      refine snil ?_
                                      refine cret ?_
                                      refine block_ret ?_
                                      refine then_ret ?_
                                      refine then_ret ?_
                                      refine block_ret ?_
                                      refine then_ret ?_
                                      refine ⟨Or.inr rfl, _, _, _, (resVs_cons (ResV.tmp _ _ rfl) resVs_nil), (by (repeat' first | exact pubA_id rfl | exact PubA.nil _ | refine PubA.cons _ ?_ _ _ _ _ _ ?_ ?_ | refine PubV.one _ _ _ _ ?_ | refine PubV.agg _ _ _ _ ?_ | exact PubL.nil | exact PubL.id _ rfl | exact PubL.ls _ _ _ _ _ _ rfl (by first | rfl | omega) | exact PubLs.all _ _ (List.all_eq_true.1 rfl) | refine PubLs.cons _ ?_ _ _ _ _ _ ?_ ?_ | exact PubLs.nil _)), ?_⟩
                                      first | rfl | exact avb (cntM_seen b u k))
                                · replace hg6 := bnot_f hg6
                                  first
                                  | (exfalso; first | omega | contradiction | (rw [accept7 hs] at hg6; contradiction) | (rw [hsy, decide_eq_true rfl] at hg6; contradiction) | (rw [hs'] at hg6; contradiction))
                                  | (
                                      first | (refine dvg rfl rfl rfl (opv_loadN ti26 rfl (.lp _ _ _ rfl) (Nat.le_of_ble_eq_true rfl)) ?_) | (refine dvg rfl rfl rfl (opv_loadN ti26 rfl (.cp _) (Nat.le_of_ble_eq_true rfl)) ?_)
                                      refine ddg rfl rfl rfl (opD_call fn13 (opnds_cons rfl opnds_nil) rfl (sane_c (by omega))) ?_
                                      refine dvg rfl rfl rfl (opv_not rfl) ?_
                                      first | (refine dv rfl (opv_pick_t rfl rfl) ?_) | (refine dv rfl (opv_pick_f rfl rfl) ?_)
                                      refine dnil ?_
                                      refine then_normal ?_
                                      refine ccond rfl (fun hc7 => ?_) (fun hc7 => ?_)
                                      · replace hc7 := bnot_t hc7
                                        first
                                        | (exfalso; first | omega | contradiction | (rw [accept7 hs] at hc7; contradiction) | (rw [hsy, decide_eq_true rfl] at hc7; contradiction) | (rw [hs'] at hc7; contradiction))
                                        | (
                                            refine cseq ?_
                                            refine cregion ?_
                                            first | (refine sv rfl (opv_as rfl) ?_) | (refine sv rfl (opv_ast rfl) ?_)
                                            refine snil ?_
                                            refine cret ?_
                                            refine block_ret ?_
                                            refine then_ret ?_
                                            refine then_ret ?_
                                            refine block_ret ?_
                                            refine then_ret ?_
                                            refine ⟨Or.inr rfl, _, _, _, (resVs_cons (ResV.tmp _ _ rfl) resVs_nil), (by (repeat' first | exact pubA_id rfl | exact PubA.nil _ | refine PubA.cons _ ?_ _ _ _ _ _ ?_ ?_ | refine PubV.one _ _ _ _ ?_ | refine PubV.agg _ _ _ _ ?_ | exact PubL.nil | exact PubL.id _ rfl | exact PubL.ls _ _ _ _ _ _ rfl (by first | rfl | omega) | exact PubLs.all _ _ (List.all_eq_true.1 rfl) | refine PubLs.cons _ ?_ _ _ _ _ _ ?_ ?_ | exact PubLs.nil _)), ?_⟩
                                            first | rfl | exact avb (cntM_seen b u k))
                                      · replace hc7 := bnot_f hc7
                                        first
                                        | (exfalso; first | omega | contradiction | (rw [accept7 hs] at hc7; contradiction) | (rw [hsy, decide_eq_true rfl] at hc7; contradiction) | (rw [hs'] at hc7; contradiction))
                                        | (
                                            refine cskip ?_
                                            refine block_normal ?_
                                            refine then_normal ?_
                                            refine cregion ?_
                                            first | (refine sv rfl (opv_mv rfl) ?_) | (refine sv rfl (opv_mvt rfl) ?_)
                                            refine sv rfl (opv_add_ok rfl rfl (wrap_i64 (by omega) (by omega))) ?_
                                            first | (refine sv rfl (opv_as rfl) ?_) | (refine sv rfl (opv_ast rfl) ?_)
                                            refine snil ?_
                                            first
                                              | exact ⟨(i + 1, b, u), _, ⟨hs, by dsimp only; omega⟩, ⟨rfl, rfl, rfl, rfl, rfl, rfl, trivial⟩, rfl, by dsimp only; omega⟩
                                              | exact ⟨(i + 1, (acceptM b u x).1.1, (acceptM b u x).1.2), _, ⟨hs', by dsimp only; omega⟩, ⟨rfl, rfl, rfl, rfl, congrArg (fun n => AV.s (.one (.i .i64 n))) (by rw [cntM_next hs hc4, if_pos hc5]), rfl, trivial⟩, rfl, by dsimp only; omega⟩
                                              | exact ⟨(i + 1, (acceptM b u x).1.1, (acceptM b u x).1.2), _, ⟨hs', by dsimp only; omega⟩, ⟨rfl, rfl, rfl, rfl, congrArg (fun n => AV.s (.one (.i .i64 n))) (by rw [cntM_next hs hc4, if_neg hc5]), rfl, trivial⟩, rfl, by dsimp only; omega⟩
                                             )))
                          · replace hc5 := of_decide_eq_false hc5
                            first
                            | (exfalso; first | omega | contradiction | (rw [accept7 hs] at hc5; contradiction) | (rw [hsy, decide_eq_true rfl] at hc5; contradiction) | (rw [hs'] at hc5; contradiction))
                            | (
                                refine cskip ?_
                                refine then_normal ?_
                                refine cseq ?_
                                refine cdraw mixed (by kernel_rfl) ?_
                                first | (refine dv rfl (opv_loadN ti26 rfl (.lp _ _ _ rfl) (Nat.le_of_ble_eq_true rfl)) ?_) | (refine dv rfl (opv_loadN ti26 rfl (.cp _) (Nat.le_of_ble_eq_true rfl)) ?_)
                                first | (refine dv rfl (opv_mv rfl) ?_) | (refine dv rfl (opv_mvt rfl) ?_)
                                first | (refine dv rfl (opv_mv rfl) ?_) | (refine dv rfl (opv_mvt rfl) ?_)
                                first | (refine dv rfl (opv_indexAddr_sl si39 rfl rfl (by omega) (by omega)) ?_) | (refine dv rfl (opv_indexAddr_ls si39 rfl rfl rfl (by first | rfl | omega) (by omega) (by omega)) ?_)
                                first | (refine dv rfl (opv_load1 ti3 rfl (.lp _ _ _ rfl) rfl) ?_) | (refine dv rfl (opv_load1 ti3 rfl (.cp _) rfl) ?_) | (refine dv rfl (opv_load1 ti3 rfl (.cp _) (il_drop hx)) ?_) | (refine dv rfl (opv_load1 ti3 rfl (.ap _ _ _ _ _ _ _ rfl (by first | rfl | omega)) rfl) ?_)
                                refine dd rfl (opD_call fn15 (opnds_cons rfl (opnds_cons rfl opnds_nil)) rfl (seen_c (by omega))) ?_
                                refine dv rfl (opv_not rfl) ?_
                                first | (refine dv rfl (opv_mv rfl) ?_) | (refine dv rfl (opv_mvt rfl) ?_)
                                refine dsplit 61 rfl (fun hg8 => ?_) (fun hg8 => ?_)
                                · replace hg8 := bnot_t hg8
                                  first
                                  | (exfalso; first | omega | contradiction | (rw [accept7 hs] at hg8; contradiction) | (rw [hsy, decide_eq_true rfl] at hg8; contradiction) | (rw [hs'] at hg8; contradiction))
                                  | (
                                      refine doff rfl rfl rfl rfl ?_
                                      refine doff rfl rfl rfl rfl ?_
                                      refine doff rfl rfl rfl rfl ?_
                                      first | (refine dv rfl (opv_pick_t rfl rfl) ?_) | (refine dv rfl (opv_pick_f rfl rfl) ?_)
                                      refine dnil ?_
                                      refine then_normal ?_
                                      refine ccond rfl (fun _ => ?_) (fun hx => Bool.noConfusion hx)
                                      refine cseq ?_
                                      refine cregion ?_
                                      first | (refine sv rfl (opv_as rfl) ?_) | (refine sv rfl (opv_ast rfl) ?_)
                                      refine snil ?_
                                      refine cret ?_
                                      refine block_ret ?_
                                      refine then_ret ?_
                                      refine then_ret ?_
                                      refine block_ret ?_
                                      refine then_ret ?_
                                      refine ⟨Or.inr rfl, _, _, _, (resVs_cons (ResV.tmp _ _ rfl) resVs_nil), (by (repeat' first | exact pubA_id rfl | exact PubA.nil _ | refine PubA.cons _ ?_ _ _ _ _ _ ?_ ?_ | refine PubV.one _ _ _ _ ?_ | refine PubV.agg _ _ _ _ ?_ | exact PubL.nil | exact PubL.id _ rfl | exact PubL.ls _ _ _ _ _ _ rfl (by first | rfl | omega) | exact PubLs.all _ _ (List.all_eq_true.1 rfl) | refine PubLs.cons _ ?_ _ _ _ _ _ ?_ ?_ | exact PubLs.nil _)), ?_⟩
                                      first | rfl | exact avb (cntM_seen b u k))
                                · replace hg8 := bnot_f hg8
                                  first
                                  | (exfalso; first | omega | contradiction | (rw [accept7 hs] at hg8; contradiction) | (rw [hsy, decide_eq_true rfl] at hg8; contradiction) | (rw [hs'] at hg8; contradiction))
                                  | (
                                      first | (refine dvg rfl rfl rfl (opv_loadN ti26 rfl (.lp _ _ _ rfl) (Nat.le_of_ble_eq_true rfl)) ?_) | (refine dvg rfl rfl rfl (opv_loadN ti26 rfl (.cp _) (Nat.le_of_ble_eq_true rfl)) ?_)
                                      refine ddg rfl rfl rfl (opD_call fn13 (opnds_cons rfl opnds_nil) rfl (sane_c (by omega))) ?_
                                      refine dvg rfl rfl rfl (opv_not rfl) ?_
                                      first | (refine dv rfl (opv_pick_t rfl rfl) ?_) | (refine dv rfl (opv_pick_f rfl rfl) ?_)
                                      refine dnil ?_
                                      refine then_normal ?_
                                      refine ccond rfl (fun hc9 => ?_) (fun hc9 => ?_)
                                      · replace hc9 := bnot_t hc9
                                        first
                                        | (exfalso; first | omega | contradiction | (rw [accept7 hs] at hc9; contradiction) | (rw [hsy, decide_eq_true rfl] at hc9; contradiction) | (rw [hs'] at hc9; contradiction))
                                        | (
                                            refine cseq ?_
                                            refine cregion ?_
                                            first | (refine sv rfl (opv_as rfl) ?_) | (refine sv rfl (opv_ast rfl) ?_)
                                            refine snil ?_
                                            refine cret ?_
                                            refine block_ret ?_
                                            refine then_ret ?_
                                            refine then_ret ?_
                                            refine block_ret ?_
                                            refine then_ret ?_
                                            refine ⟨Or.inr rfl, _, _, _, (resVs_cons (ResV.tmp _ _ rfl) resVs_nil), (by (repeat' first | exact pubA_id rfl | exact PubA.nil _ | refine PubA.cons _ ?_ _ _ _ _ _ ?_ ?_ | refine PubV.one _ _ _ _ ?_ | refine PubV.agg _ _ _ _ ?_ | exact PubL.nil | exact PubL.id _ rfl | exact PubL.ls _ _ _ _ _ _ rfl (by first | rfl | omega) | exact PubLs.all _ _ (List.all_eq_true.1 rfl) | refine PubLs.cons _ ?_ _ _ _ _ _ ?_ ?_ | exact PubLs.nil _)), ?_⟩
                                            first | rfl | exact avb (cntM_seen b u k))
                                      · replace hc9 := bnot_f hc9
                                        first
                                        | (exfalso; first | omega | contradiction | (rw [accept7 hs] at hc9; contradiction) | (rw [hsy, decide_eq_true rfl] at hc9; contradiction) | (rw [hs'] at hc9; contradiction))
                                        | (
                                            refine cskip ?_
                                            refine block_normal ?_
                                            refine then_normal ?_
                                            refine cregion ?_
                                            first | (refine sv rfl (opv_mv rfl) ?_) | (refine sv rfl (opv_mvt rfl) ?_)
                                            refine sv rfl (opv_add_ok rfl rfl (wrap_i64 (by omega) (by omega))) ?_
                                            first | (refine sv rfl (opv_as rfl) ?_) | (refine sv rfl (opv_ast rfl) ?_)
                                            refine snil ?_
                                            first
                                              | exact ⟨(i + 1, b, u), _, ⟨hs, by dsimp only; omega⟩, ⟨rfl, rfl, rfl, rfl, rfl, rfl, trivial⟩, rfl, by dsimp only; omega⟩
                                              | exact ⟨(i + 1, (acceptM b u x).1.1, (acceptM b u x).1.2), _, ⟨hs', by dsimp only; omega⟩, ⟨rfl, rfl, rfl, rfl, congrArg (fun n => AV.s (.one (.i .i64 n))) (by rw [cntM_next hs hc4, if_pos hc5]), rfl, trivial⟩, rfl, by dsimp only; omega⟩
                                              | exact ⟨(i + 1, (acceptM b u x).1.1, (acceptM b u x).1.2), _, ⟨hs', by dsimp only; omega⟩, ⟨rfl, rfl, rfl, rfl, congrArg (fun n => AV.s (.one (.i .i64 n))) (by rw [cntM_next hs hc4, if_neg hc5]), rfl, trivial⟩, rfl, by dsimp only; omega⟩
                                             ))))))
        · replace hc2 := of_decide_eq_false hc2
          first
          | (exfalso; first | omega | contradiction | (rw [accept7 hs] at hc2; contradiction) | (rw [hsy, decide_eq_true rfl] at hc2; contradiction) | (rw [hs'] at hc2; contradiction))
          | (
              refine cexit ?_
              refine then_exit ?_
              refine then_exit ?_
              refine block_hit ?_
              refine then_normal ?_
              refine cseq ?_
              refine cregion ?_
              first | (refine sv rfl (opv_mv rfl) ?_) | (refine sv rfl (opv_mvt rfl) ?_)
              first | (refine sv rfl (opv_mv rfl) ?_) | (refine sv rfl (opv_mvt rfl) ?_)
              refine ssplit 67 rfl (fun hg10 => ?_) (fun hg10 => ?_)
              · first
                | (exfalso; first | omega | contradiction | (rw [accept7 hs] at hg10; contradiction) | (rw [hsy, decide_eq_true rfl] at hg10; contradiction) | (rw [hs'] at hg10; contradiction))
                | (
                    refine son rfl rfl rfl ?_
                    first | (refine sv rfl (opv_mv rfl) ?_) | (refine sv rfl (opv_mvt rfl) ?_)
                    refine son rfl rfl rfl ?_
                    refine sv rfl (opv_leq rfl rfl) ?_
                    first | (refine sv rfl (opv_pick_t rfl rfl) ?_) | (refine sv rfl (opv_pick_f rfl rfl) ?_)
                    first | (refine sv rfl (opv_mv rfl) ?_) | (refine sv rfl (opv_mvt rfl) ?_)
                    refine ssplit 71 rfl (fun hg11 => ?_) (fun hg11 => ?_)
                    · replace hg11 := of_decide_eq_true hg11
                      first
                      | (exfalso; first | omega | contradiction | (rw [accept7 hs] at hg11; contradiction) | (rw [hsy, decide_eq_true rfl] at hg11; contradiction) | (rw [hs'] at hg11; contradiction))
                      | (
                          refine son rfl rfl rfl ?_
                          first | (refine sv rfl (opv_loadN ti26 rfl (.lp _ _ _ rfl) (Nat.le_of_ble_eq_true rfl)) ?_) | (refine sv rfl (opv_loadN ti26 rfl (.cp _) (Nat.le_of_ble_eq_true rfl)) ?_)
                          refine son rfl rfl rfl ?_
                          first | (refine sv rfl (opv_mv rfl) ?_) | (refine sv rfl (opv_mvt rfl) ?_)
                          refine son rfl rfl rfl ?_
                          refine scall1 rfl fn15 (opnds_cons rfl (opnds_cons rfl opnds_nil)) (by (repeat' first | exact pubA_id rfl | exact PubA.nil _ | refine PubA.cons _ ?_ _ _ _ _ _ ?_ ?_ | refine PubV.one _ _ _ _ ?_ | refine PubV.agg _ _ _ _ ?_ | exact PubL.nil | exact PubL.id _ rfl | exact PubL.ls _ _ _ _ _ _ rfl (by first | rfl | omega) | exact PubLs.all _ _ (List.all_eq_true.1 rfl) | refine PubLs.cons _ ?_ _ _ _ _ _ ?_ ?_ | exact PubLs.nil _)) (seen_c (by omega)) ?_
                          refine son rfl rfl rfl ?_
                          first | (refine sv rfl (opv_mv rfl) ?_) | (refine sv rfl (opv_mvt rfl) ?_)
                          refine son rfl rfl rfl ?_
                          refine sv rfl (opv_ieql rfl rfl) ?_
                          refine son rfl rfl rfl ?_
                          refine sv rfl (opv_beql Try.underlying4 rfl rfl) ?_
                          first | (refine sv rfl (opv_pick_t rfl rfl) ?_) | (refine sv rfl (opv_pick_f rfl rfl) ?_)
                          first | (refine sv rfl (opv_as rfl) ?_) | (refine sv rfl (opv_ast rfl) ?_)
                          refine snil ?_
                          refine cret ?_
                          refine ⟨Or.inr rfl, _, _, _, (resVs_cons (ResV.tmp _ _ rfl) resVs_nil), (by (repeat' first | exact pubA_id rfl | exact PubA.nil _ | refine PubA.cons _ ?_ _ _ _ _ _ ?_ ?_ | refine PubV.one _ _ _ _ ?_ | refine PubV.agg _ _ _ _ ?_ | exact PubL.nil | exact PubL.id _ rfl | exact PubL.ls _ _ _ _ _ _ rfl (by first | rfl | omega) | exact PubLs.all _ _ (List.all_eq_true.1 rfl) | refine PubLs.cons _ ?_ _ _ _ _ _ ?_ ?_ | exact PubLs.nil _)), ?_⟩
                          first | rfl | exact avb (cntM_seen b u k))
                    · replace hg11 := of_decide_eq_false hg11
                      first
                      | (exfalso; first | omega | contradiction | (rw [accept7 hs] at hg11; contradiction) | (rw [hsy, decide_eq_true rfl] at hg11; contradiction) | (rw [hs'] at hg11; contradiction))
                      | (
                          refine soff rfl rfl rfl rfl ?_
                          refine soff rfl rfl rfl rfl ?_
                          refine soff rfl rfl rfl rfl ?_
                          refine soff rfl rfl rfl rfl ?_
                          refine soff rfl rfl rfl rfl ?_
                          refine soff rfl rfl rfl rfl ?_
                          first | (refine sv rfl (opv_pick_t rfl rfl) ?_) | (refine sv rfl (opv_pick_f rfl rfl) ?_)
                          first | (refine sv rfl (opv_as rfl) ?_) | (refine sv rfl (opv_ast rfl) ?_)
                          refine snil ?_
                          refine cret ?_
                          refine ⟨Or.inr rfl, _, _, _, (resVs_cons (ResV.tmp _ _ rfl) resVs_nil), (by (repeat' first | exact pubA_id rfl | exact PubA.nil _ | refine PubA.cons _ ?_ _ _ _ _ _ ?_ ?_ | refine PubV.one _ _ _ _ ?_ | refine PubV.agg _ _ _ _ ?_ | exact PubL.nil | exact PubL.id _ rfl | exact PubL.ls _ _ _ _ _ _ rfl (by first | rfl | omega) | exact PubLs.all _ _ (List.all_eq_true.1 rfl) | refine PubLs.cons _ ?_ _ _ _ _ _ ?_ ?_ | exact PubLs.nil _)), ?_⟩
                          first | rfl | exact avb (cntM_seen b u k)))
              · first
                | (exfalso; first | omega | contradiction | (rw [accept7 hs] at hg10; contradiction) | (rw [hsy, decide_eq_true rfl] at hg10; contradiction) | (rw [hs'] at hg10; contradiction))
                | (
                    refine soff rfl rfl rfl rfl ?_
                    refine soff rfl rfl rfl rfl ?_
                    first | (refine sv rfl (opv_pick_t rfl rfl) ?_) | (refine sv rfl (opv_pick_f rfl rfl) ?_)
                    first | (refine sv rfl (opv_mv rfl) ?_) | (refine sv rfl (opv_mvt rfl) ?_)
                    refine soff rfl rfl rfl rfl ?_
                    refine soff rfl rfl rfl rfl ?_
                    refine soff rfl rfl rfl rfl ?_
                    refine soff rfl rfl rfl rfl ?_
                    refine soff rfl rfl rfl rfl ?_
                    refine soff rfl rfl rfl rfl ?_
                    first | (refine sv rfl (opv_pick_t rfl rfl) ?_) | (refine sv rfl (opv_pick_f rfl rfl) ?_)
                    first | (refine sv rfl (opv_as rfl) ?_) | (refine sv rfl (opv_ast rfl) ?_)
                    refine snil ?_
                    refine cret ?_
                    refine ⟨Or.inr rfl, _, _, _, (resVs_cons (ResV.tmp _ _ rfl) resVs_nil), (by (repeat' first | exact pubA_id rfl | exact PubA.nil _ | refine PubA.cons _ ?_ _ _ _ _ _ ?_ ?_ | refine PubV.one _ _ _ _ ?_ | refine PubV.agg _ _ _ _ ?_ | exact PubL.nil | exact PubL.id _ rfl | exact PubL.ls _ _ _ _ _ _ rfl (by first | rfl | omega) | exact PubLs.all _ _ (List.all_eq_true.1 rfl) | refine PubLs.cons _ ?_ _ _ _ _ _ ?_ ?_ | exact PubLs.nil _)), ?_⟩
                    first | rfl | exact avb (cntM_seen b u k))))

end Go.Proofs.Ytaffjoloefhodaa.Abs
