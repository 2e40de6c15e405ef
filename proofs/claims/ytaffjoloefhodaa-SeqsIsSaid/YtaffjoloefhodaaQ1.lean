/-
  seqs
-/
import Derived.Test.YtaffjoloefhodaaQ0
import Derived.Test.YtaffjoloefhodaaProg
namespace Go.Proofs.Ytaffjoloefhodaa.Abs
open Go.RowKit Go.Proofs
set_option maxRecDepth 100000

abbrev il (xs : List Int) : List Lf := xs.map fun n => .i .i64 n
theorem il_app (xs : List Int) (x : Int) : il (xs ++ [x]) = il xs ++ [.i .i64 x] := List.map_append ..
theorem il_drop {xs : List Int} {i : Nat} {x : Int} (h : xs[i]? = some x) : ((il xs).drop (i * 1))[0]? = some (.i .i64 x) := by
  rw [List.getElem?_drop, Nat.mul_one, Nat.add_zero, List.getElem?_map, h]; rfl


theorem fi26_0 : FI Try.prog 26 0 0 := ⟨⟨_, _, 1, Try.underlying26, rfl, rfl, by kernel_rfl, by decide⟩⟩
theorem ti3 : TI Try.prog 3 false 1 := ⟨⟨_, Try.underlying3, rfl⟩, by kernel_rfl⟩
theorem fi26_1 : FI Try.prog 26 1 1 := ⟨⟨_, _, 1, Try.underlying26, rfl, rfl, by kernel_rfl, by decide⟩⟩
theorem ti22 : TI Try.prog 22 false 1 := ⟨⟨_, Try.underlying22, rfl⟩, by kernel_rfl⟩
theorem fn24 : FnI Try.prog 24 := ⟨⟨_, Try.func24, by kernel_rfl, by kernel_rfl⟩⟩
theorem zi26 : ZI Try.prog 26 ([.i .i64 0, .i .u64 0]) := zi_of (by kernel_rfl)
theorem sz3 : (Try.prog.info? 3).map (·.size) = some 1 := by kernel_rfl
theorem sz22 : (Try.prog.info? 22).map (·.size) = some 1 := by kernel_rfl
theorem ti26 : TI Try.prog 26 true 2 := ⟨⟨_, Try.underlying26, rfl⟩, by kernel_rfl⟩
theorem sz26 : (Try.prog.info? 26).map (·.size) = some 2 := by kernel_rfl
theorem fn13 : FnI Try.prog 13 := ⟨⟨_, Try.func13, by kernel_rfl, by kernel_rfl⟩⟩
theorem fn22 : FnI Try.prog 22 := ⟨⟨_, Try.func22, by kernel_rfl, by kernel_rfl⟩⟩
theorem pi26 : PI Try.prog 26 [(0, 1), (1, 1)] := pi_of Try.underlying26 (by kernel_rfl) (by kernel_rfl)
theorem fn15 : FnI Try.prog 15 := ⟨⟨_, Try.func15, by kernel_rfl, by kernel_rfl⟩⟩
theorem mixed : Try.prog.follows .mixedOrders = true := by kernel_rfl
theorem fn23 : FnI Try.prog 23 := ⟨⟨_, Try.func23, by kernel_rfl, by kernel_rfl⟩⟩
theorem fn10 : FnI Try.prog 10 := ⟨⟨_, Try.func10, by kernel_rfl, by kernel_rfl⟩⟩

theorem digit_c {u : BitVec 64} {i : Int} (hi : 0 ≤ i) : CallsA Try.prog 24 [.one (.i .u64 (u.toNat : Int)), .one (.i .i64 i)] (· = .s (.one (.b (u.getLsbD i.toNat)))) := by
  refine callsA_of Try.func24 rfl (nt := 10) rfl (Nat.le_of_ble_eq_true rfl) ?_
  intro w0 S0
  refine cseq ?_
  refine cregion ?_
  first | (refine sv rfl (opv_as rfl) ?_) | (refine sv rfl (opv_ast rfl) ?_)
  refine snil ?_
  refine cseq ?_
  refine cregion ?_
  first | (refine sv rfl (opv_mv rfl) ?_) | (refine sv rfl (opv_mvt rfl) ?_)
  first | (refine sv rfl (opv_mv rfl) ?_) | (refine sv rfl (opv_mvt rfl) ?_)
  refine sv rfl (opv_shr_u64 rfl rfl rfl (by omega)) ?_
  refine sv rfl (opv_and_u64 rfl rfl rfl (show ((1 : Int)) = ((1#64).toNat : Int) from rfl)) ?_
  refine sv rfl (opv_ieql rfl rfl) ?_
  first | (refine sv rfl (opv_as rfl) ?_) | (refine sv rfl (opv_ast rfl) ?_)
  refine snil ?_
  refine cret ?_
  refine ⟨Or.inr rfl, _, _, _, (resVs_cons (ResV.tmp _ _ rfl) resVs_nil), (pubA_id rfl), ?_⟩
  show AV.s (.one (.b (decide ((((u >>> i.toNat) &&& 1#64).toNat : Int) = 1)))) = _
  rw [digit_eq]

theorem saneSeq_c {s : Int} : CallsA Try.prog 22 [.one (.i .i64 s)] (· = .s (.one (.b (saneSeqM s)))) := by
  refine callsA_of Try.func22 rfl (nt := 9) rfl (Nat.le_of_ble_eq_true rfl) ?_
  intro w0 S0
  refine cseq ?_
  refine cregion ?_
  first | (refine sv rfl (opv_as rfl) ?_) | (refine sv rfl (opv_ast rfl) ?_)
  refine snil ?_
  refine cseq ?_
  refine cregion ?_
  first | (refine sv rfl (opv_mv rfl) ?_) | (refine sv rfl (opv_mvt rfl) ?_)
  refine sv rfl (opv_geq rfl rfl) ?_
  first | (refine sv rfl (opv_mv rfl) ?_) | (refine sv rfl (opv_mvt rfl) ?_)
  refine ssplit 5 rfl (fun hg1 => ?_) (fun hg1 => ?_)
  · replace hg1 := of_decide_eq_true hg1
    first
    | (exfalso; first | omega | contradiction)
    | (
        refine son rfl rfl rfl ?_
        first | (refine sv rfl (opv_mv rfl) ?_) | (refine sv rfl (opv_mvt rfl) ?_)
        refine son rfl rfl rfl ?_
        refine sv rfl (opv_leq rfl rfl) ?_
        first | (refine sv rfl (opv_pick_t rfl rfl) ?_) | (refine sv rfl (opv_pick_f rfl rfl) ?_)
        first | (refine sv rfl (opv_as rfl) ?_) | (refine sv rfl (opv_ast rfl) ?_)
        refine snil ?_
        refine cret ?_
        refine ⟨Or.inr rfl, _, _, _, (resVs_cons (ResV.tmp _ _ rfl) resVs_nil), (pubA_id rfl), ?_⟩
        refine avb ?_
        unfold saneSeqM
        first | (simp; omega) | simp_all)
  · replace hg1 := of_decide_eq_false hg1
    first
    | (exfalso; first | omega | contradiction)
    | (
        refine soff rfl rfl rfl rfl ?_
        refine soff rfl rfl rfl rfl ?_
        first | (refine sv rfl (opv_pick_t rfl rfl) ?_) | (refine sv rfl (opv_pick_f rfl rfl) ?_)
        first | (refine sv rfl (opv_as rfl) ?_) | (refine sv rfl (opv_ast rfl) ?_)
        refine snil ?_
        refine cret ?_
        refine ⟨Or.inr rfl, _, _, _, (resVs_cons (ResV.tmp _ _ rfl) resVs_nil), (pubA_id rfl), ?_⟩
        refine avb ?_
        unfold saneSeqM
        first | (simp; omega) | simp_all)

theorem sane_c {b : Int} {u : BitVec 64} (hb : -9223372036854775808 ≤ b ∧ b ≤ 9223372036854775807) : CallsA Try.prog 13 [wsv b u] (· = .s (.one (.b (saneM b u)))) := by
  refine callsA_of Try.func13 rfl (nt := 23) rfl (Nat.le_of_ble_eq_true rfl) ?_
  intro w0 S0
  refine cseq ?_
  refine cregion ?_
  refine sbox rfl rfl ?_
  first | (refine sv rfl (opv_as rfl) ?_) | (refine sv rfl (opv_ast rfl) ?_)
  refine snil ?_
  refine cseq ?_
  refine cseq ?_
  refine cregion ?_
  first | (refine sv rfl (opv_fieldAddr_lp fi26_0 rfl) ?_) | (refine sv rfl (opv_fieldAddr_cp fi26_0 rfl) ?_) | (refine sv rfl (opv_fieldAddr_ap fi26_0 rfl rfl (by first | rfl | omega)) ?_)
  first | (refine sv rfl (opv_load1 ti3 rfl (.lp _ _ _ rfl) rfl) ?_) | (refine sv rfl (opv_load1 ti3 rfl (.cp _) rfl) ?_) | (refine sv rfl (opv_load1 ti3 rfl (.ap _ _ _ _ _ _ _ rfl (by first | rfl | omega)) rfl) ?_)
  refine sv rfl (opv_lss rfl rfl) ?_
  first | (refine sv rfl (opv_mv rfl) ?_) | (refine sv rfl (opv_mvt rfl) ?_)
  refine ssplit 6 rfl (fun hg1 => ?_) (fun hg1 => ?_)
  · replace hg1 := of_decide_eq_true hg1
    first
    | (exfalso; first | omega | contradiction)
    | (
        refine soff rfl rfl rfl rfl ?_
        refine soff rfl rfl rfl rfl ?_
        refine soff rfl rfl rfl rfl ?_
        first | (refine sv rfl (opv_pick_t rfl rfl) ?_) | (refine sv rfl (opv_pick_f rfl rfl) ?_)
        first | (refine sv rfl (opv_mv rfl) ?_) | (refine sv rfl (opv_mvt rfl) ?_)
        refine soff rfl rfl rfl rfl ?_
        refine soff rfl rfl rfl rfl ?_
        refine soff rfl rfl rfl rfl ?_
        first | (refine sv rfl (opv_pick_t rfl rfl) ?_) | (refine sv rfl (opv_pick_f rfl rfl) ?_)
        refine snil ?_
        refine ccond rfl (fun _ => ?_) (fun hx => Bool.noConfusion hx)
        refine cseq ?_
        refine cregion ?_
        first | (refine sv rfl (opv_as rfl) ?_) | (refine sv rfl (opv_ast rfl) ?_)
        refine snil ?_
        refine cret ?_
        refine then_ret ?_
        refine ⟨Or.inr rfl, _, _, _, (resVs_cons (ResV.tmp _ _ rfl) resVs_nil), (pubA_id rfl), ?_⟩
        refine avb ?_
        first | (simp_all [saneM]; done) | (simp [saneM]; omega) | (rw [Bool.eq_iff_iff, saneM_iff, decide_eq_true_eq, u64_eq0]; exact ⟨fun h => ⟨by omega, by omega, by first | exact hc3 | exact hc4 | exact hc5 | exact hc6 | exact hc7, h⟩, fun h => h.2.2.2⟩))
  · replace hg1 := of_decide_eq_false hg1
    first
    | (exfalso; first | omega | contradiction)
    | (
        refine son rfl rfl rfl ?_
        first | (refine sv rfl (opv_fieldAddr_lp fi26_0 rfl) ?_) | (refine sv rfl (opv_fieldAddr_cp fi26_0 rfl) ?_) | (refine sv rfl (opv_fieldAddr_ap fi26_0 rfl rfl (by first | rfl | omega)) ?_)
        refine son rfl rfl rfl ?_
        first | (refine sv rfl (opv_load1 ti3 rfl (.lp _ _ _ rfl) rfl) ?_) | (refine sv rfl (opv_load1 ti3 rfl (.cp _) rfl) ?_) | (refine sv rfl (opv_load1 ti3 rfl (.ap _ _ _ _ _ _ _ rfl (by first | rfl | omega)) rfl) ?_)
        refine son rfl rfl rfl ?_
        refine sv rfl (opv_gtr rfl rfl) ?_
        first | (refine sv rfl (opv_pick_t rfl rfl) ?_) | (refine sv rfl (opv_pick_f rfl rfl) ?_)
        first | (refine sv rfl (opv_mv rfl) ?_) | (refine sv rfl (opv_mvt rfl) ?_)
        refine ssplit 11 rfl (fun hg2 => ?_) (fun hg2 => ?_)
        · replace hg2 := of_decide_eq_true hg2
          first
          | (exfalso; first | omega | contradiction)
          | (
              refine soff rfl rfl rfl rfl ?_
              refine soff rfl rfl rfl rfl ?_
              refine soff rfl rfl rfl rfl ?_
              first | (refine sv rfl (opv_pick_t rfl rfl) ?_) | (refine sv rfl (opv_pick_f rfl rfl) ?_)
              refine snil ?_
              refine ccond rfl (fun _ => ?_) (fun hx => Bool.noConfusion hx)
              refine cseq ?_
              refine cregion ?_
              first | (refine sv rfl (opv_as rfl) ?_) | (refine sv rfl (opv_ast rfl) ?_)
              refine snil ?_
              refine cret ?_
              refine then_ret ?_
              refine ⟨Or.inr rfl, _, _, _, (resVs_cons (ResV.tmp _ _ rfl) resVs_nil), (pubA_id rfl), ?_⟩
              refine avb ?_
              first | (simp_all [saneM]; done) | (simp [saneM]; omega) | (rw [Bool.eq_iff_iff, saneM_iff, decide_eq_true_eq, u64_eq0]; exact ⟨fun h => ⟨by omega, by omega, by first | exact hc3 | exact hc4 | exact hc5 | exact hc6 | exact hc7, h⟩, fun h => h.2.2.2⟩))
        · replace hg2 := of_decide_eq_false hg2
          first
          | (exfalso; first | omega | contradiction)
          | (
              refine son rfl rfl rfl ?_
              first | (refine sv rfl (opv_fieldAddr_lp fi26_1 rfl) ?_) | (refine sv rfl (opv_fieldAddr_cp fi26_1 rfl) ?_) | (refine sv rfl (opv_fieldAddr_ap fi26_1 rfl rfl (by first | rfl | omega)) ?_)
              refine son rfl rfl rfl ?_
              first | (refine sv rfl (opv_load1 ti22 rfl (.lp _ _ _ rfl) rfl) ?_) | (refine sv rfl (opv_load1 ti22 rfl (.cp _) rfl) ?_) | (refine sv rfl (opv_load1 ti22 rfl (.ap _ _ _ _ _ _ _ rfl (by first | rfl | omega)) rfl) ?_)
              refine son rfl rfl rfl ?_
              refine scall1 rfl fn24 (opnds_cons rfl (opnds_cons rfl opnds_nil)) (pubA_id rfl) (digit_c (by omega)) ?_
              first | (refine sv rfl (opv_pick_t rfl rfl) ?_) | (refine sv rfl (opv_pick_f rfl rfl) ?_)
              refine snil ?_
              refine ccond rfl (fun hc3 => ?_) (fun hc3 => ?_)
              · first
                | (exfalso; first | omega | contradiction)
                | (
                    refine cseq ?_
                    refine cregion ?_
                    first | (refine sv rfl (opv_as rfl) ?_) | (refine sv rfl (opv_ast rfl) ?_)
                    refine snil ?_
                    refine cret ?_
                    refine then_ret ?_
                    refine ⟨Or.inr rfl, _, _, _, (resVs_cons (ResV.tmp _ _ rfl) resVs_nil), (pubA_id rfl), ?_⟩
                    refine avb ?_
                    first | (simp_all [saneM]; done) | (simp [saneM]; omega) | (rw [Bool.eq_iff_iff, saneM_iff, decide_eq_true_eq, u64_eq0]; exact ⟨fun h => ⟨by omega, by omega, by first | exact hc3 | exact hc4 | exact hc5 | exact hc6 | exact hc7, h⟩, fun h => h.2.2.2⟩))
              · first
                | (exfalso; first | omega | contradiction)
                | (
                    refine cskip ?_
                    refine then_normal ?_
                    refine cseq ?_
                    refine cregion ?_
                    first | (refine sv rfl (opv_fieldAddr_lp fi26_1 rfl) ?_) | (refine sv rfl (opv_fieldAddr_cp fi26_1 rfl) ?_) | (refine sv rfl (opv_fieldAddr_ap fi26_1 rfl rfl (by first | rfl | omega)) ?_)
                    first | (refine sv rfl (opv_load1 ti22 rfl (.lp _ _ _ rfl) rfl) ?_) | (refine sv rfl (opv_load1 ti22 rfl (.cp _) rfl) ?_) | (refine sv rfl (opv_load1 ti22 rfl (.ap _ _ _ _ _ _ _ rfl (by first | rfl | omega)) rfl) ?_)
                    first | (refine sv rfl (opv_fieldAddr_lp fi26_0 rfl) ?_) | (refine sv rfl (opv_fieldAddr_cp fi26_0 rfl) ?_) | (refine sv rfl (opv_fieldAddr_ap fi26_0 rfl rfl (by first | rfl | omega)) ?_)
                    first | (refine sv rfl (opv_load1 ti3 rfl (.lp _ _ _ rfl) rfl) ?_) | (refine sv rfl (opv_load1 ti3 rfl (.cp _) rfl) ?_) | (refine sv rfl (opv_load1 ti3 rfl (.ap _ _ _ _ _ _ _ rfl (by first | rfl | omega)) rfl) ?_)
                    refine sv rfl (opv_sub_ok rfl rfl (wrap_i64 (by omega) (by omega))) ?_
                    refine sv rfl (opv_shr_u64 rfl rfl rfl (by omega)) ?_
                    refine sv rfl (opv_ieql rfl rfl) ?_
                    first | (refine sv rfl (opv_as rfl) ?_) | (refine sv rfl (opv_ast rfl) ?_)
                    refine snil ?_
                    refine cret ?_
                    refine ⟨Or.inr rfl, _, _, _, (resVs_cons (ResV.tmp _ _ rfl) resVs_nil), (pubA_id rfl), ?_⟩
                    refine avb ?_
                    first | (simp_all [saneM]; done) | (simp [saneM]; omega) | (rw [Bool.eq_iff_iff, saneM_iff, decide_eq_true_eq, u64_eq0]; exact ⟨fun h => ⟨by omega, by omega, by first | exact hc3 | exact hc4 | exact hc5 | exact hc6 | exact hc7, h⟩, fun h => h.2.2.2⟩))))

theorem settle_c {b : Int} {u : BitVec 64} (hb : 0 ≤ b ∧ b ≤ 4294967296) : CallsA Try.prog 23 [wsv b u] (· = .s (wsv (b + tone u) (u >>> tone u))) := by
  refine callsA_of Try.func23 rfl (nt := 15) rfl (Nat.le_of_ble_eq_true rfl) ?_
  intro w0 S0
  refine cseq ?_
  refine cregion ?_
  refine sbox rfl rfl ?_
  refine salloc rfl zi26 ?_
  refine snil ?_
  refine cseq ?_
  refine cblock ?_
  refine awc_loop (G := Nat) (fun k => [(1, .s (.one (.lp 0 0))), (2, .s (.one (.lp 1 0)))]) (fun k => [.box [.i .i64 (b + k), .i .u64 ((u >>> k).toNat : Int)], .box [.i .i64 0, .i .u64 0]]) (fun k => k ≤ 64 ∧ ∀ j, j < k → u.getLsbD j = true) (fun k => 64 - k) 0 ⟨Nat.zero_le _, fun _ h => absurd h (Nat.not_lt_zero _)⟩ ⟨rfl, rfl, trivial⟩ [] (by simp [SV.cells]) (fun _ _ => ⟨rfl, rfl, trivial⟩) (fun _ _ => blk_inb rfl) ?_
  intro k hp
  refine cseq ?_
  refine cseq ?_
  refine cregion ?_
  first | (refine sv rfl (opv_fieldAddr_lp fi26_1 rfl) ?_) | (refine sv rfl (opv_fieldAddr_cp fi26_1 rfl) ?_) | (refine sv rfl (opv_fieldAddr_ap fi26_1 rfl rfl (by first | rfl | omega)) ?_)
  first | (refine sv rfl (opv_load1 ti22 rfl (.lp _ _ _ rfl) rfl) ?_) | (refine sv rfl (opv_load1 ti22 rfl (.cp _) rfl) ?_) | (refine sv rfl (opv_load1 ti22 rfl (.ap _ _ _ _ _ _ _ rfl (by first | rfl | omega)) rfl) ?_)
  refine scall1 rfl fn24 (opnds_cons rfl (opnds_cons rfl opnds_nil)) (pubA_id rfl) (digit_c (by omega)) ?_
  refine snil ?_
  refine ccond rfl (fun hc1 => ?_) (fun hc1 => ?_)
  · first
    | (exfalso; first | omega | contradiction)
    | (
        refine cskip ?_
        refine then_normal ?_
        refine cblock ?_
        refine cseq ?_
        refine cregion ?_
        first | (refine sv rfl (opv_fieldAddr_lp fi26_0 rfl) ?_) | (refine sv rfl (opv_fieldAddr_cp fi26_0 rfl) ?_) | (refine sv rfl (opv_fieldAddr_ap fi26_0 rfl rfl (by first | rfl | omega)) ?_)
        first | (refine sv rfl (opv_load1 ti3 rfl (.lp _ _ _ rfl) rfl) ?_) | (refine sv rfl (opv_load1 ti3 rfl (.cp _) rfl) ?_) | (refine sv rfl (opv_load1 ti3 rfl (.ap _ _ _ _ _ _ _ rfl (by first | rfl | omega)) rfl) ?_)
        refine sv rfl (opv_add_ok rfl rfl (wrap_i64 (by omega) (by omega))) ?_
        first | (refine sv rfl (opv_fieldAddr_lp fi26_0 rfl) ?_) | (refine sv rfl (opv_fieldAddr_cp fi26_0 rfl) ?_) | (refine sv rfl (opv_fieldAddr_ap fi26_0 rfl rfl (by first | rfl | omega)) ?_)
        first | (refine sstore sz3 rfl rfl rfl rfl (Nat.le_of_ble_eq_true rfl) ?_) | (refine sstore_ap sz3 rfl rfl rfl (by first | rfl | omega) rfl (List.all_eq_true.1 rfl) (by omega) (by omega) ?_)
        refine snil ?_
        refine cregion ?_
        first | (refine sv rfl (opv_fieldAddr_lp fi26_1 rfl) ?_) | (refine sv rfl (opv_fieldAddr_cp fi26_1 rfl) ?_) | (refine sv rfl (opv_fieldAddr_ap fi26_1 rfl rfl (by first | rfl | omega)) ?_)
        first | (refine sv rfl (opv_load1 ti22 rfl (.lp _ _ _ rfl) rfl) ?_) | (refine sv rfl (opv_load1 ti22 rfl (.cp _) rfl) ?_) | (refine sv rfl (opv_load1 ti22 rfl (.ap _ _ _ _ _ _ _ rfl (by first | rfl | omega)) rfl) ?_)
        refine sv rfl (opv_shr_u64 rfl rfl rfl (by omega)) ?_
        first | (refine sv rfl (opv_fieldAddr_lp fi26_1 rfl) ?_) | (refine sv rfl (opv_fieldAddr_cp fi26_1 rfl) ?_) | (refine sv rfl (opv_fieldAddr_ap fi26_1 rfl rfl (by first | rfl | omega)) ?_)
        first | (refine sstore sz22 rfl rfl rfl rfl (Nat.le_of_ble_eq_true rfl) ?_) | (refine sstore_ap sz22 rfl rfl rfl (by first | rfl | omega) rfl (List.all_eq_true.1 rfl) (by omega) (by omega) ?_)
        refine snil0 ?_
        refine block_normal ?_
        refine then_normal ?_
        have hb0 : u.getLsbD k = true := by simpa using hc1
        have hk : k < 64 := by
          apply Classical.byContradiction
          intro hn
          rw [BitVec.getLsbD_of_ge _ _ (by omega)] at hb0
          cases hb0
        have e1 : b + (k : Int) + 1 = b + ((k + 1 : Nat) : Int) := by omega
        have e2 : (u >>> k) >>> (1 : Int).toNat = u >>> (k + 1) := (BitVec.shiftRight_add u k 1).symm
        refine ⟨k + 1, [], ⟨by omega, fun j hj => ?_⟩, ⟨rfl, rfl, trivial⟩, by rw [← e1, ← e2]; rfl, by omega⟩
        by_cases e : j = k
        · rw [e]; exact hb0
        · exact hp.2 j (by omega))
  · first
    | (exfalso; first | omega | contradiction)
    | (
        refine cexit ?_
        refine then_exit ?_
        refine then_exit ?_
        refine block_hit ?_
        refine then_normal ?_
        refine cseq ?_
        refine cregion ?_
        first | (refine sv rfl (opv_loadN ti26 rfl (.lp _ _ _ rfl) (Nat.le_of_ble_eq_true rfl)) ?_) | (refine sv rfl (opv_loadN ti26 rfl (.cp _) (Nat.le_of_ble_eq_true rfl)) ?_)
        first | (refine sstore sz26 rfl rfl rfl rfl (Nat.le_of_ble_eq_true rfl) ?_) | (refine sstore_ap sz26 rfl rfl rfl (by first | rfl | omega) rfl (List.all_eq_true.1 rfl) (by omega) (by omega) ?_)
        refine snil ?_
        refine cret ?_
        refine ⟨Or.inr rfl, _, _, _, (resVs_cons (ResV.agg _ _ _ _ _ ti26 rfl (.lp _ _ _ rfl) (Nat.le_of_ble_eq_true rfl)) resVs_nil), (pubA_id rfl), ?_⟩
        have ht : tone u = k := tone_of hp.2 (by simpa using hc1)
        rw [ht]; rfl)

theorem seen_c {b : Int} {u : BitVec 64} {s : Int} (hb : -9223372036854775808 ≤ b ∧ b ≤ 9223372036854775807) : CallsA Try.prog 15 [wsv b u, .one (.i .i64 s)] (· = .s (.one (.b (seenM b u s)))) := by
  refine callsA_of Try.func15 rfl (nt := 31) rfl (Nat.le_of_ble_eq_true rfl) ?_
  intro w0 S0
  refine cseq ?_
  refine cregion ?_
  refine sbox rfl rfl ?_
  first | (refine sv rfl (opv_as rfl) ?_) | (refine sv rfl (opv_ast rfl) ?_)
  refine snil ?_
  refine cseq ?_
  refine cseq ?_
  refine cregion ?_
  first | (refine sv rfl (opv_loadN ti26 rfl (.lp _ _ _ rfl) (Nat.le_of_ble_eq_true rfl)) ?_) | (refine sv rfl (opv_loadN ti26 rfl (.cp _) (Nat.le_of_ble_eq_true rfl)) ?_)
  refine scall1 rfl fn13 (opnds_cons rfl opnds_nil) (pubA_id rfl) (sane_c (by omega)) ?_
  refine sv rfl (opv_not rfl) ?_
  first | (refine sv rfl (opv_mv rfl) ?_) | (refine sv rfl (opv_mvt rfl) ?_)
  refine ssplit 8 rfl (fun hg1 => ?_) (fun hg1 => ?_)
  · replace hg1 := bnot_t hg1
    try rw [saneM_iff] at hg1
    try rw [saneSeqM_iff] at hg1
    first
    | (exfalso; first | omega | contradiction)
    | (
        refine soff rfl rfl rfl rfl ?_
        refine soff rfl rfl rfl rfl ?_
        refine soff rfl rfl rfl rfl ?_
        first | (refine sv rfl (opv_pick_t rfl rfl) ?_) | (refine sv rfl (opv_pick_f rfl rfl) ?_)
        refine snil ?_
        refine ccond rfl (fun _ => ?_) (fun hx => Bool.noConfusion hx)
        refine cseq ?_
        refine cregion ?_
        first | (refine sv rfl (opv_as rfl) ?_) | (refine sv rfl (opv_ast rfl) ?_)
        refine snil ?_
        refine cret ?_
        refine then_ret ?_
        refine ⟨Or.inr rfl, _, _, _, (resVs_cons (ResV.tmp _ _ rfl) resVs_nil), (pubA_id rfl), ?_⟩
        refine avb ?_
        unfold seenM
        first | (rw [hg1]; rfl) | (rw [hc2, Bool.false_and, Bool.and_false]) | (rw [(saneM_iff b u).2 hg1, (saneSeqM_iff s).2 hc2, decide_eq_true hc3]; rfl) | (rw [(saneM_iff b u).2 hg1, (saneSeqM_iff s).2 hc2, decide_eq_false hc3, decide_eq_true hg4]; rfl) | (rw [(saneM_iff b u).2 hg1, (saneSeqM_iff s).2 hc2, decide_eq_false hc3, decide_eq_false hg4]; rfl))
  · replace hg1 := bnot_f hg1
    try rw [saneM_iff] at hg1
    try rw [saneSeqM_iff] at hg1
    first
    | (exfalso; first | omega | contradiction)
    | (
        refine son rfl rfl rfl ?_
        first | (refine sv rfl (opv_mv rfl) ?_) | (refine sv rfl (opv_mvt rfl) ?_)
        refine son rfl rfl rfl ?_
        refine scall1 rfl fn22 (opnds_cons rfl opnds_nil) (pubA_id rfl) (saneSeq_c) ?_
        refine son rfl rfl rfl ?_
        refine sv rfl (opv_not rfl) ?_
        first | (refine sv rfl (opv_pick_t rfl rfl) ?_) | (refine sv rfl (opv_pick_f rfl rfl) ?_)
        refine snil ?_
        refine ccond rfl (fun hc2 => ?_) (fun hc2 => ?_)
        · replace hc2 := bnot_t hc2
          try rw [saneM_iff] at hc2
          try rw [saneSeqM_iff] at hc2
          first
          | (exfalso; first | omega | contradiction)
          | (
              refine cseq ?_
              refine cregion ?_
              first | (refine sv rfl (opv_as rfl) ?_) | (refine sv rfl (opv_ast rfl) ?_)
              refine snil ?_
              refine cret ?_
              refine then_ret ?_
              refine ⟨Or.inr rfl, _, _, _, (resVs_cons (ResV.tmp _ _ rfl) resVs_nil), (pubA_id rfl), ?_⟩
              refine avb ?_
              unfold seenM
              first | (rw [hg1]; rfl) | (rw [hc2, Bool.false_and, Bool.and_false]) | (rw [(saneM_iff b u).2 hg1, (saneSeqM_iff s).2 hc2, decide_eq_true hc3]; rfl) | (rw [(saneM_iff b u).2 hg1, (saneSeqM_iff s).2 hc2, decide_eq_false hc3, decide_eq_true hg4]; rfl) | (rw [(saneM_iff b u).2 hg1, (saneSeqM_iff s).2 hc2, decide_eq_false hc3, decide_eq_false hg4]; rfl))
        · replace hc2 := bnot_f hc2
          try rw [saneM_iff] at hc2
          try rw [saneSeqM_iff] at hc2
          first
          | (exfalso; first | omega | contradiction)
          | (
              refine cskip ?_
              refine then_normal ?_
              refine cseq ?_
              refine cseq ?_
              refine cregion ?_
              first | (refine sv rfl (opv_mv rfl) ?_) | (refine sv rfl (opv_mvt rfl) ?_)
              first | (refine sv rfl (opv_fieldAddr_lp fi26_0 rfl) ?_) | (refine sv rfl (opv_fieldAddr_cp fi26_0 rfl) ?_) | (refine sv rfl (opv_fieldAddr_ap fi26_0 rfl rfl (by first | rfl | omega)) ?_)
              first | (refine sv rfl (opv_load1 ti3 rfl (.lp _ _ _ rfl) rfl) ?_) | (refine sv rfl (opv_load1 ti3 rfl (.cp _) rfl) ?_) | (refine sv rfl (opv_load1 ti3 rfl (.ap _ _ _ _ _ _ _ rfl (by first | rfl | omega)) rfl) ?_)
              refine sv rfl (opv_lss rfl rfl) ?_
              refine snil ?_
              refine ccond rfl (fun hc3 => ?_) (fun hc3 => ?_)
              · replace hc3 := of_decide_eq_true hc3
                try rw [saneM_iff] at hc3
                try rw [saneSeqM_iff] at hc3
                first
                | (exfalso; first | omega | contradiction)
                | (
                    refine cseq ?_
                    refine cregion ?_
                    first | (refine sv rfl (opv_as rfl) ?_) | (refine sv rfl (opv_ast rfl) ?_)
                    refine snil ?_
                    refine cret ?_
                    refine then_ret ?_
                    refine ⟨Or.inr rfl, _, _, _, (resVs_cons (ResV.tmp _ _ rfl) resVs_nil), (pubA_id rfl), ?_⟩
                    refine avb ?_
                    unfold seenM
                    first | (rw [hg1]; rfl) | (rw [hc2, Bool.false_and, Bool.and_false]) | (rw [(saneM_iff b u).2 hg1, (saneSeqM_iff s).2 hc2, decide_eq_true hc3]; rfl) | (rw [(saneM_iff b u).2 hg1, (saneSeqM_iff s).2 hc2, decide_eq_false hc3, decide_eq_true hg4]; rfl) | (rw [(saneM_iff b u).2 hg1, (saneSeqM_iff s).2 hc2, decide_eq_false hc3, decide_eq_false hg4]; rfl))
              · replace hc3 := of_decide_eq_false hc3
                try rw [saneM_iff] at hc3
                try rw [saneSeqM_iff] at hc3
                first
                | (exfalso; first | omega | contradiction)
                | (
                    refine cskip ?_
                    refine then_normal ?_
                    refine cseq ?_
                    refine cregion ?_
                    first | (refine sv rfl (opv_mv rfl) ?_) | (refine sv rfl (opv_mvt rfl) ?_)
                    first | (refine sv rfl (opv_fieldAddr_lp fi26_0 rfl) ?_) | (refine sv rfl (opv_fieldAddr_cp fi26_0 rfl) ?_) | (refine sv rfl (opv_fieldAddr_ap fi26_0 rfl rfl (by first | rfl | omega)) ?_)
                    first | (refine sv rfl (opv_load1 ti3 rfl (.lp _ _ _ rfl) rfl) ?_) | (refine sv rfl (opv_load1 ti3 rfl (.cp _) rfl) ?_) | (refine sv rfl (opv_load1 ti3 rfl (.ap _ _ _ _ _ _ _ rfl (by first | rfl | omega)) rfl) ?_)
                    refine sv rfl (opv_sub_ok rfl rfl (wrap_i64 (by omega) (by omega))) ?_
                    refine sv rfl (opv_lss rfl rfl) ?_
                    first | (refine sv rfl (opv_mv rfl) ?_) | (refine sv rfl (opv_mvt rfl) ?_)
                    refine ssplit 22 rfl (fun hg4 => ?_) (fun hg4 => ?_)
                    · replace hg4 := of_decide_eq_true hg4
                      try rw [saneM_iff] at hg4
                      try rw [saneSeqM_iff] at hg4
                      first
                      | (exfalso; first | omega | contradiction)
                      | (
                          refine son rfl rfl rfl ?_
                          first | (refine sv rfl (opv_fieldAddr_lp fi26_1 rfl) ?_) | (refine sv rfl (opv_fieldAddr_cp fi26_1 rfl) ?_) | (refine sv rfl (opv_fieldAddr_ap fi26_1 rfl rfl (by first | rfl | omega)) ?_)
                          refine son rfl rfl rfl ?_
                          first | (refine sv rfl (opv_load1 ti22 rfl (.lp _ _ _ rfl) rfl) ?_) | (refine sv rfl (opv_load1 ti22 rfl (.cp _) rfl) ?_) | (refine sv rfl (opv_load1 ti22 rfl (.ap _ _ _ _ _ _ _ rfl (by first | rfl | omega)) rfl) ?_)
                          refine son rfl rfl rfl ?_
                          first | (refine sv rfl (opv_mv rfl) ?_) | (refine sv rfl (opv_mvt rfl) ?_)
                          refine son rfl rfl rfl ?_
                          first | (refine sv rfl (opv_fieldAddr_lp fi26_0 rfl) ?_) | (refine sv rfl (opv_fieldAddr_cp fi26_0 rfl) ?_) | (refine sv rfl (opv_fieldAddr_ap fi26_0 rfl rfl (by first | rfl | omega)) ?_)
                          refine son rfl rfl rfl ?_
                          first | (refine sv rfl (opv_load1 ti3 rfl (.lp _ _ _ rfl) rfl) ?_) | (refine sv rfl (opv_load1 ti3 rfl (.cp _) rfl) ?_) | (refine sv rfl (opv_load1 ti3 rfl (.ap _ _ _ _ _ _ _ rfl (by first | rfl | omega)) rfl) ?_)
                          refine son rfl rfl rfl ?_
                          refine sv rfl (opv_sub_ok rfl rfl (wrap_i64 (by omega) (by omega))) ?_
                          refine son rfl rfl rfl ?_
                          refine scall1 rfl fn24 (opnds_cons rfl (opnds_cons rfl opnds_nil)) (pubA_id rfl) (digit_c (by omega)) ?_
                          first | (refine sv rfl (opv_pick_t rfl rfl) ?_) | (refine sv rfl (opv_pick_f rfl rfl) ?_)
                          first | (refine sv rfl (opv_as rfl) ?_) | (refine sv rfl (opv_ast rfl) ?_)
                          refine snil ?_
                          refine cret ?_
                          refine ⟨Or.inr rfl, _, _, _, (resVs_cons (ResV.tmp _ _ rfl) resVs_nil), (pubA_id rfl), ?_⟩
                          refine avb ?_
                          unfold seenM
                          first | (rw [hg1]; rfl) | (rw [hc2, Bool.false_and, Bool.and_false]) | (rw [(saneM_iff b u).2 hg1, (saneSeqM_iff s).2 hc2, decide_eq_true hc3]; rfl) | (rw [(saneM_iff b u).2 hg1, (saneSeqM_iff s).2 hc2, decide_eq_false hc3, decide_eq_true hg4]; rfl) | (rw [(saneM_iff b u).2 hg1, (saneSeqM_iff s).2 hc2, decide_eq_false hc3, decide_eq_false hg4]; rfl))
                    · replace hg4 := of_decide_eq_false hg4
                      try rw [saneM_iff] at hg4
                      try rw [saneSeqM_iff] at hg4
                      first
                      | (exfalso; first | omega | contradiction)
                      | (
                          refine soff rfl rfl rfl rfl ?_
                          refine soff rfl rfl rfl rfl ?_
                          refine soff rfl rfl rfl rfl ?_
                          refine soff rfl rfl rfl rfl ?_
                          refine soff rfl rfl rfl rfl ?_
                          refine soff rfl rfl rfl rfl ?_
                          refine soff rfl rfl rfl rfl ?_
                          first | (refine sv rfl (opv_pick_t rfl rfl) ?_) | (refine sv rfl (opv_pick_f rfl rfl) ?_)
                          first | (refine sv rfl (opv_as rfl) ?_) | (refine sv rfl (opv_ast rfl) ?_)
                          refine snil ?_
                          refine cret ?_
                          refine ⟨Or.inr rfl, _, _, _, (resVs_cons (ResV.tmp _ _ rfl) resVs_nil), (pubA_id rfl), ?_⟩
                          refine avb ?_
                          unfold seenM
                          first | (rw [hg1]; rfl) | (rw [hc2, Bool.false_and, Bool.and_false]) | (rw [(saneM_iff b u).2 hg1, (saneSeqM_iff s).2 hc2, decide_eq_true hc3]; rfl) | (rw [(saneM_iff b u).2 hg1, (saneSeqM_iff s).2 hc2, decide_eq_false hc3, decide_eq_true hg4]; rfl) | (rw [(saneM_iff b u).2 hg1, (saneSeqM_iff s).2 hc2, decide_eq_false hc3, decide_eq_false hg4]; rfl)))))

theorem accept_c {b : Int} {u : BitVec 64} {s : Int} (hb : -9223372036854775808 ≤ b ∧ b ≤ 9223372036854775807) : CallsA Try.prog 10 [wsv b u, .one (.i .i64 s)] (· = .tup [wsv (acceptM b u s).1.1 (acceptM b u s).1.2, .one (.i .i64 (acceptM b u s).2)]) := by
  refine callsA_of Try.func10 rfl (nt := 40) rfl (Nat.le_of_ble_eq_true rfl) ?_
  intro w0 S0
  refine cseq ?_
  refine cregion ?_
  refine sbox rfl rfl ?_
  refine salloc rfl zi26 ?_
  first | (refine sv rfl (opv_as rfl) ?_) | (refine sv rfl (opv_ast rfl) ?_)
  refine snil ?_
  refine cseq ?_
  refine cblock ?_
  refine cseq ?_
  refine cregion ?_
  first | (refine sv rfl (opv_loadN ti26 rfl (.lp _ _ _ rfl) (Nat.le_of_ble_eq_true rfl)) ?_) | (refine sv rfl (opv_loadN ti26 rfl (.cp _) (Nat.le_of_ble_eq_true rfl)) ?_)
  refine scall1 rfl fn13 (opnds_cons rfl opnds_nil) (pubA_id rfl) (sane_c (by omega)) ?_
  refine sv rfl (opv_not rfl) ?_
  first | (refine sv rfl (opv_mv rfl) ?_) | (refine sv rfl (opv_mvt rfl) ?_)
  refine ssplit 10 rfl (fun hg1 => ?_) (fun hg1 => ?_)
  · replace hg1 := bnot_t hg1
    try rw [saneM_iff] at hg1
    try rw [saneSeqM_iff] at hg1
    first
    | (exfalso; first | omega | contradiction)
    | (
        refine soff rfl rfl rfl rfl ?_
        refine soff rfl rfl rfl rfl ?_
        refine soff rfl rfl rfl rfl ?_
        first | (refine sv rfl (opv_pick_t rfl rfl) ?_) | (refine sv rfl (opv_pick_f rfl rfl) ?_)
        first | (refine sv rfl (opv_as rfl) ?_) | (refine sv rfl (opv_ast rfl) ?_)
        refine snil ?_
        refine ccond rfl (fun _ => ?_) (fun hx => Bool.noConfusion hx)
        refine cseq ?_
        refine cregion ?_
        refine sv rfl (opv_build zi26 pi26 parts_nil (.nil _)) ?_
        first | (refine sstore sz26 rfl rfl rfl rfl (Nat.le_of_ble_eq_true rfl) ?_) | (refine sstore_ap sz26 rfl rfl rfl (by first | rfl | omega) rfl (List.all_eq_true.1 rfl) (by omega) (by omega) ?_)
        first | (refine sv rfl (opv_as rfl) ?_) | (refine sv rfl (opv_ast rfl) ?_)
        refine snil ?_
        refine cret ?_
        refine block_ret ?_
        refine then_ret ?_
        refine ⟨Or.inr rfl, _, _, _, (resVs_cons (ResV.agg _ _ _ _ _ ti26 rfl (.lp _ _ _ rfl) (Nat.le_of_ble_eq_true rfl)) (resVs_cons (ResV.tmp _ _ rfl) resVs_nil)), (pubA_id rfl), ?_⟩
        first | (rw [accept_arg (.inl hg1)]; rfl) | (rw [accept_arg (.inr hc2)]; rfl) | (rw [accept_seen ((saneM_iff b u).2 hg1) ((saneSeqM_iff s).2 hc2) hc3]; rfl) | (rw [accept_far ((saneM_iff b u).2 hg1) ((saneSeqM_iff s).2 hc2) hc3 hc4]; rfl) | (rw [accept_ok ((saneM_iff b u).2 hg1) ((saneSeqM_iff s).2 hc2) hc3 hc4]; rfl))
  · replace hg1 := bnot_f hg1
    try rw [saneM_iff] at hg1
    try rw [saneSeqM_iff] at hg1
    first
    | (exfalso; first | omega | contradiction)
    | (
        refine son rfl rfl rfl ?_
        first | (refine sv rfl (opv_mv rfl) ?_) | (refine sv rfl (opv_mvt rfl) ?_)
        refine son rfl rfl rfl ?_
        refine scall1 rfl fn22 (opnds_cons rfl opnds_nil) (pubA_id rfl) (saneSeq_c) ?_
        refine son rfl rfl rfl ?_
        refine sv rfl (opv_not rfl) ?_
        first | (refine sv rfl (opv_pick_t rfl rfl) ?_) | (refine sv rfl (opv_pick_f rfl rfl) ?_)
        first | (refine sv rfl (opv_as rfl) ?_) | (refine sv rfl (opv_ast rfl) ?_)
        refine snil ?_
        refine ccond rfl (fun hc2 => ?_) (fun hc2 => ?_)
        · replace hc2 := bnot_t hc2
          try rw [saneM_iff] at hc2
          try rw [saneSeqM_iff] at hc2
          first
          | (exfalso; first | omega | contradiction)
          | (
              refine cseq ?_
              refine cregion ?_
              refine sv rfl (opv_build zi26 pi26 parts_nil (.nil _)) ?_
              first | (refine sstore sz26 rfl rfl rfl rfl (Nat.le_of_ble_eq_true rfl) ?_) | (refine sstore_ap sz26 rfl rfl rfl (by first | rfl | omega) rfl (List.all_eq_true.1 rfl) (by omega) (by omega) ?_)
              first | (refine sv rfl (opv_as rfl) ?_) | (refine sv rfl (opv_ast rfl) ?_)
              refine snil ?_
              refine cret ?_
              refine block_ret ?_
              refine then_ret ?_
              refine ⟨Or.inr rfl, _, _, _, (resVs_cons (ResV.agg _ _ _ _ _ ti26 rfl (.lp _ _ _ rfl) (Nat.le_of_ble_eq_true rfl)) (resVs_cons (ResV.tmp _ _ rfl) resVs_nil)), (pubA_id rfl), ?_⟩
              first | (rw [accept_arg (.inl hg1)]; rfl) | (rw [accept_arg (.inr hc2)]; rfl) | (rw [accept_seen ((saneM_iff b u).2 hg1) ((saneSeqM_iff s).2 hc2) hc3]; rfl) | (rw [accept_far ((saneM_iff b u).2 hg1) ((saneSeqM_iff s).2 hc2) hc3 hc4]; rfl) | (rw [accept_ok ((saneM_iff b u).2 hg1) ((saneSeqM_iff s).2 hc2) hc3 hc4]; rfl))
        · replace hc2 := bnot_f hc2
          try rw [saneM_iff] at hc2
          try rw [saneSeqM_iff] at hc2
          first
          | (exfalso; first | omega | contradiction)
          | (
              refine cseq ?_
              refine cregion ?_
              first | (refine sv rfl (opv_loadN ti26 rfl (.lp _ _ _ rfl) (Nat.le_of_ble_eq_true rfl)) ?_) | (refine sv rfl (opv_loadN ti26 rfl (.cp _) (Nat.le_of_ble_eq_true rfl)) ?_)
              first | (refine sv rfl (opv_mv rfl) ?_) | (refine sv rfl (opv_mvt rfl) ?_)
              refine scall1 rfl fn15 (opnds_cons rfl (opnds_cons rfl opnds_nil)) (pubA_id rfl) (seen_c (by omega)) ?_
              first | (refine sv rfl (opv_as rfl) ?_) | (refine sv rfl (opv_ast rfl) ?_)
              refine snil ?_
              refine ccond rfl (fun hc3 => ?_) (fun hc3 => ?_)
              · try rw [saneM_iff] at hc3
                try rw [saneSeqM_iff] at hc3
                first
                | (exfalso; first | omega | contradiction)
                | (
                    refine cseq ?_
                    refine cregion ?_
                    refine sv rfl (opv_build zi26 pi26 parts_nil (.nil _)) ?_
                    first | (refine sstore sz26 rfl rfl rfl rfl (Nat.le_of_ble_eq_true rfl) ?_) | (refine sstore_ap sz26 rfl rfl rfl (by first | rfl | omega) rfl (List.all_eq_true.1 rfl) (by omega) (by omega) ?_)
                    first | (refine sv rfl (opv_as rfl) ?_) | (refine sv rfl (opv_ast rfl) ?_)
                    refine snil ?_
                    refine cret ?_
                    refine block_ret ?_
                    refine then_ret ?_
                    refine ⟨Or.inr rfl, _, _, _, (resVs_cons (ResV.agg _ _ _ _ _ ti26 rfl (.lp _ _ _ rfl) (Nat.le_of_ble_eq_true rfl)) (resVs_cons (ResV.tmp _ _ rfl) resVs_nil)), (pubA_id rfl), ?_⟩
                    first | (rw [accept_arg (.inl hg1)]; rfl) | (rw [accept_arg (.inr hc2)]; rfl) | (rw [accept_seen ((saneM_iff b u).2 hg1) ((saneSeqM_iff s).2 hc2) hc3]; rfl) | (rw [accept_far ((saneM_iff b u).2 hg1) ((saneSeqM_iff s).2 hc2) hc3 hc4]; rfl) | (rw [accept_ok ((saneM_iff b u).2 hg1) ((saneSeqM_iff s).2 hc2) hc3 hc4]; rfl))
              · have hge := seen_ge ((saneM_iff b u).2 hg1) ((saneSeqM_iff s).2 hc2) hc3
                first
                | (exfalso; first | omega | contradiction)
                | (
                    refine cseq ?_
                    refine cregion ?_
                    first | (refine sv rfl (opv_mv rfl) ?_) | (refine sv rfl (opv_mvt rfl) ?_)
                    first | (refine sv rfl (opv_fieldAddr_lp fi26_0 rfl) ?_) | (refine sv rfl (opv_fieldAddr_cp fi26_0 rfl) ?_) | (refine sv rfl (opv_fieldAddr_ap fi26_0 rfl rfl (by first | rfl | omega)) ?_)
                    first | (refine sv rfl (opv_load1 ti3 rfl (.lp _ _ _ rfl) rfl) ?_) | (refine sv rfl (opv_load1 ti3 rfl (.cp _) rfl) ?_) | (refine sv rfl (opv_load1 ti3 rfl (.ap _ _ _ _ _ _ _ rfl (by first | rfl | omega)) rfl) ?_)
                    refine sv rfl (opv_sub_ok rfl rfl (wrap_i64 (by omega) (by omega))) ?_
                    refine sv rfl (opv_geq rfl rfl) ?_
                    first | (refine sv rfl (opv_as rfl) ?_) | (refine sv rfl (opv_ast rfl) ?_)
                    refine snil ?_
                    refine ccond rfl (fun hc4 => ?_) (fun hc4 => ?_)
                    · replace hc4 := of_decide_eq_true hc4
                      try rw [saneM_iff] at hc4
                      try rw [saneSeqM_iff] at hc4
                      first
                      | (exfalso; first | omega | contradiction)
                      | (
                          refine cseq ?_
                          refine cregion ?_
                          refine sv rfl (opv_build zi26 pi26 parts_nil (.nil _)) ?_
                          first | (refine sstore sz26 rfl rfl rfl rfl (Nat.le_of_ble_eq_true rfl) ?_) | (refine sstore_ap sz26 rfl rfl rfl (by first | rfl | omega) rfl (List.all_eq_true.1 rfl) (by omega) (by omega) ?_)
                          first | (refine sv rfl (opv_as rfl) ?_) | (refine sv rfl (opv_ast rfl) ?_)
                          refine snil ?_
                          refine cret ?_
                          refine block_ret ?_
                          refine then_ret ?_
                          refine ⟨Or.inr rfl, _, _, _, (resVs_cons (ResV.agg _ _ _ _ _ ti26 rfl (.lp _ _ _ rfl) (Nat.le_of_ble_eq_true rfl)) (resVs_cons (ResV.tmp _ _ rfl) resVs_nil)), (pubA_id rfl), ?_⟩
                          first | (rw [accept_arg (.inl hg1)]; rfl) | (rw [accept_arg (.inr hc2)]; rfl) | (rw [accept_seen ((saneM_iff b u).2 hg1) ((saneSeqM_iff s).2 hc2) hc3]; rfl) | (rw [accept_far ((saneM_iff b u).2 hg1) ((saneSeqM_iff s).2 hc2) hc3 hc4]; rfl) | (rw [accept_ok ((saneM_iff b u).2 hg1) ((saneSeqM_iff s).2 hc2) hc3 hc4]; rfl))
                    · replace hc4 := of_decide_eq_false hc4
                      try rw [saneM_iff] at hc4
                      try rw [saneSeqM_iff] at hc4
                      first
                      | (exfalso; first | omega | contradiction)
                      | (
                          refine cskip ?_
                          refine block_normal ?_
                          refine then_normal ?_
                          refine cseq ?_
                          refine cdraw_st 12 mixed (by kernel_rfl) rfl sz26 rfl rfl ?_
                          first | (refine mv rfl (opv_fieldAddr_lp fi26_0 rfl) ?_) | (refine mv rfl (opv_fieldAddr_cp fi26_0 rfl) ?_) | (refine mv rfl (opv_fieldAddr_ap fi26_0 rfl rfl (by first | rfl | omega)) ?_)
                          first | (refine mv rfl (opv_load1 ti3 rfl (.lp _ _ _ rfl) rfl) ?_) | (refine mv rfl (opv_load1 ti3 rfl (.cp _) rfl) ?_) | (refine mv rfl (opv_load1 ti3 rfl (.ap _ _ _ _ _ _ _ rfl (by first | rfl | omega)) rfl) ?_)
                          first | (refine mv rfl (opv_fieldAddr_lp fi26_1 rfl) ?_) | (refine mv rfl (opv_fieldAddr_cp fi26_1 rfl) ?_) | (refine mv rfl (opv_fieldAddr_ap fi26_1 rfl rfl (by first | rfl | omega)) ?_)
                          first | (refine mv rfl (opv_load1 ti22 rfl (.lp _ _ _ rfl) rfl) ?_) | (refine mv rfl (opv_load1 ti22 rfl (.cp _) rfl) ?_) | (refine mv rfl (opv_load1 ti22 rfl (.ap _ _ _ _ _ _ _ rfl (by first | rfl | omega)) rfl) ?_)
                          first | (refine mv rfl (opv_mv rfl) ?_) | (refine mv rfl (opv_mvt rfl) ?_)
                          first | (refine mv rfl (opv_fieldAddr_lp fi26_0 rfl) ?_) | (refine mv rfl (opv_fieldAddr_cp fi26_0 rfl) ?_) | (refine mv rfl (opv_fieldAddr_ap fi26_0 rfl rfl (by first | rfl | omega)) ?_)
                          first | (refine mv rfl (opv_load1 ti3 rfl (.lp _ _ _ rfl) rfl) ?_) | (refine mv rfl (opv_load1 ti3 rfl (.cp _) rfl) ?_) | (refine mv rfl (opv_load1 ti3 rfl (.ap _ _ _ _ _ _ _ rfl (by first | rfl | omega)) rfl) ?_)
                          refine mv rfl (opv_sub_ok rfl rfl (wrap_i64 (by omega) (by omega))) ?_
                          refine mv rfl (opv_shl_u64 rfl (show ((1 : Int)) = ((1#64).toNat : Int) from rfl) rfl (by omega)) ?_
                          refine mv rfl (opv_or_u64 rfl rfl rfl rfl) ?_
                          refine mv rfl (opv_build zi26 pi26 (parts_cons rfl (parts_cons rfl parts_nil)) (.cons _ _ _ _ _ _ _ rfl rfl (Nat.le_of_ble_eq_true rfl) (.cons _ _ _ _ _ _ _ rfl rfl (Nat.le_of_ble_eq_true rfl) (.nil _)))) ?_
                          refine mdd rfl (opD_call fn23 (opnds_cons rfl opnds_nil) rfl (settle_c (by omega))) ?_
                          refine mst ?_
                          first | (refine mv rfl (opv_as rfl) ?_) | (refine mv rfl (opv_ast rfl) ?_)
                          refine mnil ?_
                          refine ⟨rfl, _, rfl, rfl, Nat.le_of_ble_eq_true rfl, ?_⟩
                          refine then_normal ?_
                          refine cret ?_
                          refine ⟨Or.inr rfl, _, _, _, (resVs_cons (ResV.agg _ _ _ _ _ ti26 rfl (.lp _ _ _ rfl) (Nat.le_of_ble_eq_true rfl)) (resVs_cons (ResV.tmp _ _ rfl) resVs_nil)), (pubA_id rfl), ?_⟩
                          first | (rw [accept_arg (.inl hg1)]; rfl) | (rw [accept_arg (.inr hc2)]; rfl) | (rw [accept_seen ((saneM_iff b u).2 hg1) ((saneSeqM_iff s).2 hc2) hc3]; rfl) | (rw [accept_far ((saneM_iff b u).2 hg1) ((saneSeqM_iff s).2 hc2) hc3 hc4]; rfl) | (rw [accept_ok ((saneM_iff b u).2 hg1) ((saneSeqM_iff s).2 hc2) hc3 hc4]; rfl)))))

theorem accept_k {b b' : Int} {u u' : BitVec 64} {s e : Int} (hb : -9223372036854775808 ≤ b ∧ b ≤ 9223372036854775807) (h : acceptM b u s = ((b', u'), e)) : CallsA Try.prog 10 [wsv b u, .one (.i .i64 s)] (· = .tup [wsv b' u', .one (.i .i64 e)]) := by
  have := accept_c (u := u) (s := s) hb
  rwa [h] at this

theorem awake_c  : CallsA Try.prog 8 [] (· = .s (.one (.b true))) := by
  refine callsA_of Try.func8 rfl (nt := 41) rfl (Nat.le_of_ble_eq_true rfl) ?_
  intro w0 S0
  refine cseq ?_
  refine cregion ?_
  first | (refine sv rfl (opv_as rfl) ?_) | (refine sv rfl (opv_ast rfl) ?_)
  refine snil ?_
  refine cseq ?_
  refine cregion ?_
  refine sv rfl (opv_build zi26 pi26 parts_nil (.nil _)) ?_
  refine scall1 rfl fn10 (opnds_cons rfl (opnds_cons rfl opnds_nil)) (pubA_id rfl) (accept_k (b := 0) (u := 0#64) (b' := 0) (u' := 2#64) (e := 0) (by omega) (by decide)) ?_
  first | (refine sv rfl (opv_mv rfl) ?_) | (refine sv rfl (opv_mvt rfl) ?_)
  refine sv rfl (opv_extract rfl rfl) ?_
  refine sv rfl (opv_extract rfl rfl) ?_
  refine salloc rfl zi26 ?_
  first | (refine sstore sz26 rfl rfl rfl rfl (Nat.le_of_ble_eq_true rfl) ?_) | (refine sstore_ap sz26 rfl rfl rfl (by first | rfl | omega) rfl (List.all_eq_true.1 rfl) (by omega) (by omega) ?_)
  first | (refine sv rfl (opv_as rfl) ?_) | (refine sv rfl (opv_ast rfl) ?_)
  refine snil ?_
  refine cseq ?_
  refine cregion ?_
  first | (refine sv rfl (opv_loadN ti26 rfl (.lp _ _ _ rfl) (Nat.le_of_ble_eq_true rfl)) ?_) | (refine sv rfl (opv_loadN ti26 rfl (.cp _) (Nat.le_of_ble_eq_true rfl)) ?_)
  refine scall1 rfl fn10 (opnds_cons rfl (opnds_cons rfl opnds_nil)) (pubA_id rfl) (accept_k (b := 0) (u := 2#64) (b' := 2) (u' := 0#64) (e := 0) (by omega) (by decide)) ?_
  first | (refine sv rfl (opv_mv rfl) ?_) | (refine sv rfl (opv_mvt rfl) ?_)
  refine sv rfl (opv_extract rfl rfl) ?_
  refine sv rfl (opv_extract rfl rfl) ?_
  first | (refine sstore sz26 rfl rfl rfl rfl (Nat.le_of_ble_eq_true rfl) ?_) | (refine sstore_ap sz26 rfl rfl rfl (by first | rfl | omega) rfl (List.all_eq_true.1 rfl) (by omega) (by omega) ?_)
  first | (refine sv rfl (opv_as rfl) ?_) | (refine sv rfl (opv_ast rfl) ?_)
  refine snil ?_
  refine cseq ?_
  refine cregion ?_
  first | (refine sv rfl (opv_loadN ti26 rfl (.lp _ _ _ rfl) (Nat.le_of_ble_eq_true rfl)) ?_) | (refine sv rfl (opv_loadN ti26 rfl (.cp _) (Nat.le_of_ble_eq_true rfl)) ?_)
  refine scall1 rfl fn10 (opnds_cons rfl (opnds_cons rfl opnds_nil)) (pubA_id rfl) (accept_k (b := 2) (u := 0#64) (b' := 0) (u' := 0#64) (e := 7) (by omega) (by decide)) ?_
  first | (refine sv rfl (opv_mv rfl) ?_) | (refine sv rfl (opv_mvt rfl) ?_)
  refine sv rfl (opv_extract rfl rfl) ?_
  refine sv rfl (opv_extract rfl rfl) ?_
  refine salloc rfl zi26 ?_
  first | (refine sstore sz26 rfl rfl rfl rfl (Nat.le_of_ble_eq_true rfl) ?_) | (refine sstore_ap sz26 rfl rfl rfl (by first | rfl | omega) rfl (List.all_eq_true.1 rfl) (by omega) (by omega) ?_)
  first | (refine sv rfl (opv_as rfl) ?_) | (refine sv rfl (opv_ast rfl) ?_)
  refine snil ?_
  refine cseq ?_
  refine cregion ?_
  first | (refine sv rfl (opv_mv rfl) ?_) | (refine sv rfl (opv_mvt rfl) ?_)
  refine sv rfl (opv_ieql rfl rfl) ?_
  first | (refine sv rfl (opv_mv rfl) ?_) | (refine sv rfl (opv_mvt rfl) ?_)
  refine ssplit 23 rfl (fun hg1 => ?_) (fun hg1 => ?_)
  · replace hg1 := of_decide_eq_true hg1
    first
    | (exfalso; first | omega | contradiction)
    | (
        refine son rfl rfl rfl ?_
        first | (refine sv rfl (opv_mv rfl) ?_) | (refine sv rfl (opv_mvt rfl) ?_)
        refine son rfl rfl rfl ?_
        refine sv rfl (opv_ieql rfl rfl) ?_
        first | (refine sv rfl (opv_pick_t rfl rfl) ?_) | (refine sv rfl (opv_pick_f rfl rfl) ?_)
        first | (refine sv rfl (opv_mv rfl) ?_) | (refine sv rfl (opv_mvt rfl) ?_)
        refine ssplit 27 rfl (fun hg2 => ?_) (fun hg2 => ?_)
        · replace hg2 := of_decide_eq_true hg2
          first
          | (exfalso; first | omega | contradiction)
          | (
              refine son rfl rfl rfl ?_
              first | (refine sv rfl (opv_mv rfl) ?_) | (refine sv rfl (opv_mvt rfl) ?_)
              refine son rfl rfl rfl ?_
              refine sv rfl (opv_ieql rfl rfl) ?_
              first | (refine sv rfl (opv_pick_t rfl rfl) ?_) | (refine sv rfl (opv_pick_f rfl rfl) ?_)
              first | (refine sv rfl (opv_mv rfl) ?_) | (refine sv rfl (opv_mvt rfl) ?_)
              refine ssplit 31 rfl (fun hg3 => ?_) (fun hg3 => ?_)
              · replace hg3 := of_decide_eq_true hg3
                first
                | (exfalso; first | omega | contradiction)
                | (
                    refine son rfl rfl rfl ?_
                    first | (refine sv rfl (opv_fieldAddr_lp fi26_0 rfl) ?_) | (refine sv rfl (opv_fieldAddr_cp fi26_0 rfl) ?_) | (refine sv rfl (opv_fieldAddr_ap fi26_0 rfl rfl (by first | rfl | omega)) ?_)
                    refine son rfl rfl rfl ?_
                    first | (refine sv rfl (opv_load1 ti3 rfl (.lp _ _ _ rfl) rfl) ?_) | (refine sv rfl (opv_load1 ti3 rfl (.cp _) rfl) ?_) | (refine sv rfl (opv_load1 ti3 rfl (.ap _ _ _ _ _ _ _ rfl (by first | rfl | omega)) rfl) ?_)
                    refine son rfl rfl rfl ?_
                    refine sv rfl (opv_ieql rfl rfl) ?_
                    first | (refine sv rfl (opv_pick_t rfl rfl) ?_) | (refine sv rfl (opv_pick_f rfl rfl) ?_)
                    first | (refine sv rfl (opv_mv rfl) ?_) | (refine sv rfl (opv_mvt rfl) ?_)
                    refine ssplit 36 rfl (fun hg4 => ?_) (fun hg4 => ?_)
                    · replace hg4 := of_decide_eq_true hg4
                      first
                      | (exfalso; first | omega | contradiction)
                      | (
                          refine son rfl rfl rfl ?_
                          first | (refine sv rfl (opv_fieldAddr_lp fi26_1 rfl) ?_) | (refine sv rfl (opv_fieldAddr_cp fi26_1 rfl) ?_) | (refine sv rfl (opv_fieldAddr_ap fi26_1 rfl rfl (by first | rfl | omega)) ?_)
                          refine son rfl rfl rfl ?_
                          first | (refine sv rfl (opv_load1 ti22 rfl (.lp _ _ _ rfl) rfl) ?_) | (refine sv rfl (opv_load1 ti22 rfl (.cp _) rfl) ?_) | (refine sv rfl (opv_load1 ti22 rfl (.ap _ _ _ _ _ _ _ rfl (by first | rfl | omega)) rfl) ?_)
                          refine son rfl rfl rfl ?_
                          refine sv rfl (opv_ieql rfl rfl) ?_
                          first | (refine sv rfl (opv_pick_t rfl rfl) ?_) | (refine sv rfl (opv_pick_f rfl rfl) ?_)
                          first | (refine sv rfl (opv_as rfl) ?_) | (refine sv rfl (opv_ast rfl) ?_)
                          refine snil ?_
                          refine cret ?_
                          refine ⟨Or.inr rfl, _, _, _, (resVs_cons (ResV.tmp _ _ rfl) resVs_nil), (pubA_id rfl), ?_⟩
                          refine avb ?_
                          decide)
                    · replace hg4 := of_decide_eq_false hg4
                      first
                      | (exfalso; first | omega | contradiction)
                      | (
                          refine soff rfl rfl rfl rfl ?_
                          refine soff rfl rfl rfl rfl ?_
                          refine soff rfl rfl rfl rfl ?_
                          first | (refine sv rfl (opv_pick_t rfl rfl) ?_) | (refine sv rfl (opv_pick_f rfl rfl) ?_)
                          first | (refine sv rfl (opv_as rfl) ?_) | (refine sv rfl (opv_ast rfl) ?_)
                          refine snil ?_
                          refine cret ?_
                          refine ⟨Or.inr rfl, _, _, _, (resVs_cons (ResV.tmp _ _ rfl) resVs_nil), (pubA_id rfl), ?_⟩
                          refine avb ?_
                          decide))
              · replace hg3 := of_decide_eq_false hg3
                first
                | (exfalso; first | omega | contradiction)
                | (
                    refine soff rfl rfl rfl rfl ?_
                    refine soff rfl rfl rfl rfl ?_
                    refine soff rfl rfl rfl rfl ?_
                    first | (refine sv rfl (opv_pick_t rfl rfl) ?_) | (refine sv rfl (opv_pick_f rfl rfl) ?_)
                    first | (refine sv rfl (opv_mv rfl) ?_) | (refine sv rfl (opv_mvt rfl) ?_)
                    refine soff rfl rfl rfl rfl ?_
                    refine soff rfl rfl rfl rfl ?_
                    refine soff rfl rfl rfl rfl ?_
                    first | (refine sv rfl (opv_pick_t rfl rfl) ?_) | (refine sv rfl (opv_pick_f rfl rfl) ?_)
                    first | (refine sv rfl (opv_as rfl) ?_) | (refine sv rfl (opv_ast rfl) ?_)
                    refine snil ?_
                    refine cret ?_
                    refine ⟨Or.inr rfl, _, _, _, (resVs_cons (ResV.tmp _ _ rfl) resVs_nil), (pubA_id rfl), ?_⟩
                    refine avb ?_
                    decide))
        · replace hg2 := of_decide_eq_false hg2
          first
          | (exfalso; first | omega | contradiction)
          | (
              refine soff rfl rfl rfl rfl ?_
              refine soff rfl rfl rfl rfl ?_
              first | (refine sv rfl (opv_pick_t rfl rfl) ?_) | (refine sv rfl (opv_pick_f rfl rfl) ?_)
              first | (refine sv rfl (opv_mv rfl) ?_) | (refine sv rfl (opv_mvt rfl) ?_)
              refine soff rfl rfl rfl rfl ?_
              refine soff rfl rfl rfl rfl ?_
              refine soff rfl rfl rfl rfl ?_
              first | (refine sv rfl (opv_pick_t rfl rfl) ?_) | (refine sv rfl (opv_pick_f rfl rfl) ?_)
              first | (refine sv rfl (opv_mv rfl) ?_) | (refine sv rfl (opv_mvt rfl) ?_)
              refine soff rfl rfl rfl rfl ?_
              refine soff rfl rfl rfl rfl ?_
              refine soff rfl rfl rfl rfl ?_
              first | (refine sv rfl (opv_pick_t rfl rfl) ?_) | (refine sv rfl (opv_pick_f rfl rfl) ?_)
              first | (refine sv rfl (opv_as rfl) ?_) | (refine sv rfl (opv_ast rfl) ?_)
              refine snil ?_
              refine cret ?_
              refine ⟨Or.inr rfl, _, _, _, (resVs_cons (ResV.tmp _ _ rfl) resVs_nil), (pubA_id rfl), ?_⟩
              refine avb ?_
              decide))
  · replace hg1 := of_decide_eq_false hg1
    first
    | (exfalso; first | omega | contradiction)
    | (
        refine soff rfl rfl rfl rfl ?_
        refine soff rfl rfl rfl rfl ?_
        first | (refine sv rfl (opv_pick_t rfl rfl) ?_) | (refine sv rfl (opv_pick_f rfl rfl) ?_)
        first | (refine sv rfl (opv_mv rfl) ?_) | (refine sv rfl (opv_mvt rfl) ?_)
        refine soff rfl rfl rfl rfl ?_
        refine soff rfl rfl rfl rfl ?_
        first | (refine sv rfl (opv_pick_t rfl rfl) ?_) | (refine sv rfl (opv_pick_f rfl rfl) ?_)
        first | (refine sv rfl (opv_mv rfl) ?_) | (refine sv rfl (opv_mvt rfl) ?_)
        refine soff rfl rfl rfl rfl ?_
        refine soff rfl rfl rfl rfl ?_
        refine soff rfl rfl rfl rfl ?_
        first | (refine sv rfl (opv_pick_t rfl rfl) ?_) | (refine sv rfl (opv_pick_f rfl rfl) ?_)
        first | (refine sv rfl (opv_mv rfl) ?_) | (refine sv rfl (opv_mvt rfl) ?_)
        refine soff rfl rfl rfl rfl ?_
        refine soff rfl rfl rfl rfl ?_
        refine soff rfl rfl rfl rfl ?_
        first | (refine sv rfl (opv_pick_t rfl rfl) ?_) | (refine sv rfl (opv_pick_f rfl rfl) ?_)
        first | (refine sv rfl (opv_as rfl) ?_) | (refine sv rfl (opv_ast rfl) ?_)
        refine snil ?_
        refine cret ?_
        refine ⟨Or.inr rfl, _, _, _, (resVs_cons (ResV.tmp _ _ rfl) resVs_nil), (pubA_id rfl), ?_⟩
        refine avb ?_
        decide)

end Go.Proofs.Ytaffjoloefhodaa.Abs
