/-
  keys
-/
import Derived.Test.YtiadgkkebmclgaaK0
import Derived.Test.YtiadgkkebmclgaaProg
namespace Go.Proofs.Ytiadgkkebmclgaa.Abs
open Go.RowKit Go.Proofs
set_option maxRecDepth 100000

theorem xi42 : XI Try.prog 42 Extern.BytealgCompare.compare := ⟨⟨_, Try.func42, by kernel_rfl, by kernel_rfl, by kernel_rfl, by kernel_rfl⟩⟩
theorem fn40 : FnI Try.prog 40 := ⟨⟨_, Try.func40, by kernel_rfl, by kernel_rfl⟩⟩
theorem si22 : SI Try.prog 22 5 1 := ⟨Try.underlying22, by kernel_rfl, by decide⟩
theorem fi24_0 : FI Try.prog 24 0 0 := ⟨⟨_, _, 1, Try.underlying24, rfl, rfl, by kernel_rfl, by decide⟩⟩
theorem ti22 : TI Try.prog 22 false 1 := ⟨⟨_, Try.underlying22, rfl⟩, by kernel_rfl⟩
theorem fn23 : FnI Try.prog 23 := ⟨⟨_, Try.func23, by kernel_rfl, by kernel_rfl⟩⟩
theorem fi24_2 : FI Try.prog 24 2 2 := ⟨⟨_, _, 1, Try.underlying24, rfl, rfl, by kernel_rfl, by decide⟩⟩
theorem ti4 : TI Try.prog 4 false 1 := ⟨⟨_, Try.underlying4, rfl⟩, by kernel_rfl⟩
theorem fi24_1 : FI Try.prog 24 1 1 := ⟨⟨_, _, 1, Try.underlying24, rfl, rfl, by kernel_rfl, by decide⟩⟩
theorem ti5 : TI Try.prog 5 false 1 := ⟨⟨_, Try.underlying5, rfl⟩, by kernel_rfl⟩
theorem zi24 : ZI Try.prog 24 ([.raw (.slice none 0 0), .raw (.slice none 0 0), .b false]) := zi_of (by kernel_rfl)
theorem ti24 : TI Try.prog 24 true 3 := ⟨⟨_, Try.underlying24, rfl⟩, by kernel_rfl⟩
theorem sz24 : (Try.prog.info? 24).map (·.size) = some 3 := by kernel_rfl
theorem sz22 : (Try.prog.info? 22).map (·.size) = some 1 := by kernel_rfl
theorem sz4 : (Try.prog.info? 4).map (·.size) = some 1 := by kernel_rfl
theorem fn31 : FnI Try.prog 31 := ⟨⟨_, Try.func31, by kernel_rfl, by kernel_rfl⟩⟩
theorem pi24 : PI Try.prog 24 [(0, 1), (1, 1), (2, 1)] := pi_of Try.underlying24 (by kernel_rfl) (by kernel_rfl)
theorem ei5 : EI Try.prog 5 1 1 [.i .u8 0] := ei_of (by kernel_rfl) (by decide)
theorem fn29 : FnI Try.prog 29 := ⟨⟨_, Try.func29, by kernel_rfl, by kernel_rfl⟩⟩
theorem fn25 : FnI Try.prog 25 := ⟨⟨_, Try.func25, by kernel_rfl, by kernel_rfl⟩⟩

theorem compare_c {a b : List UInt8} : CallsA Try.prog 40 [.one (bsv a), .one (bsv b)] (· = .s (.one (.i .i64 (cmpL a b)))) := by
  refine callsA_of Try.func40 rfl (nt := 8) rfl (Nat.le_of_ble_eq_true rfl) ?_
  intro w0 S0
  refine cseq ?_
  refine cregion ?_
  first | (refine sv rfl (opv_as rfl) ?_) | (refine sv rfl (opv_ast rfl) ?_)
  refine snil ?_
  refine cseq ?_
  refine cregion ?_
  first | (refine sv rfl (opv_mv rfl) ?_) | (refine sv rfl (opv_mvt rfl) ?_)
  first | (refine sv rfl (opv_mv rfl) ?_) | (refine sv rfl (opv_mvt rfl) ?_)
  refine sv rfl (opv_cmp xi42 rfl rfl) ?_
  first | (refine sv rfl (opv_as rfl) ?_) | (refine sv rfl (opv_ast rfl) ?_)
  refine snil ?_
  refine cret ?_
  refine ⟨Or.inr rfl, _, _, _, (resVs_cons (ResV.tmp _ _ rfl) resVs_nil), (pubA_id rfl), ?_⟩
  rfl

theorem cmp_c {a b : List UInt8} : CallsA Try.prog 23 [.one (bsv a), .one (bsv b)] (· = .s (.one (.i .i64 (cmpL a b)))) := by
  refine callsA_of Try.func23 rfl (nt := 8) rfl (Nat.le_of_ble_eq_true rfl) ?_
  intro w0 S0
  refine cseq ?_
  refine cregion ?_
  first | (refine sv rfl (opv_as rfl) ?_) | (refine sv rfl (opv_ast rfl) ?_)
  refine snil ?_
  refine cseq ?_
  refine cregion ?_
  first | (refine sv rfl (opv_mv rfl) ?_) | (refine sv rfl (opv_mvt rfl) ?_)
  first | (refine sv rfl (opv_mv rfl) ?_) | (refine sv rfl (opv_mvt rfl) ?_)
  refine scall1 rfl fn40 (opnds_cons rfl (opnds_cons rfl opnds_nil)) (pubC rfl) (compare_c) ?_
  first | (refine sv rfl (opv_as rfl) ?_) | (refine sv rfl (opv_ast rfl) ?_)
  refine snil ?_
  refine cret ?_
  refine ⟨Or.inr rfl, _, _, _, (resVs_cons (ResV.tmp _ _ rfl) resVs_nil), (pubA_id rfl), ?_⟩
  rfl

theorem ksane_c {a : List UInt8} : CallsA Try.prog 25 [.one (bsv a)] (· = .s (.one (.b (decide (1 ≤ a.length ∧ a.length ≤ 16))))) := by
  refine callsA_of Try.func25 rfl (nt := 11) rfl (Nat.le_of_ble_eq_true rfl) ?_
  intro w0 S0
  refine cseq ?_
  refine cregion ?_
  first | (refine sv rfl (opv_as rfl) ?_) | (refine sv rfl (opv_ast rfl) ?_)
  refine snil ?_
  refine cseq ?_
  refine cregion ?_
  first | (refine sv rfl (opv_mv rfl) ?_) | (refine sv rfl (opv_mvt rfl) ?_)
  first | (refine sv rfl (opv_len_sl si22 rfl) ?_) | (refine sv rfl (opv_len_nil si22 rfl) ?_) | (refine sv rfl (opv_len_ls si22 rfl rfl (by first | rfl | omega)) ?_)
  refine sv rfl (opv_geq rfl rfl) ?_
  first | (refine sv rfl (opv_mv rfl) ?_) | (refine sv rfl (opv_mvt rfl) ?_)
  refine ssplit 6 rfl (fun hg1 => ?_) (fun hg1 => ?_)
  · replace hg1 := of_decide_eq_true hg1
    first
    | (exfalso; first | omega | contradiction)
    | (
        refine son rfl rfl rfl ?_
        first | (refine sv rfl (opv_mv rfl) ?_) | (refine sv rfl (opv_mvt rfl) ?_)
        refine son rfl rfl rfl ?_
        first | (refine sv rfl (opv_len_sl si22 rfl) ?_) | (refine sv rfl (opv_len_nil si22 rfl) ?_) | (refine sv rfl (opv_len_ls si22 rfl rfl (by first | rfl | omega)) ?_)
        refine son rfl rfl rfl ?_
        refine sv rfl (opv_leq rfl rfl) ?_
        first | (refine sv rfl (opv_pick_t rfl rfl) ?_) | (refine sv rfl (opv_pick_f rfl rfl) ?_)
        first | (refine sv rfl (opv_as rfl) ?_) | (refine sv rfl (opv_ast rfl) ?_)
        refine snil ?_
        refine cret ?_
        refine ⟨Or.inr rfl, _, _, _, (resVs_cons (ResV.tmp _ _ rfl) resVs_nil), (pubA_id rfl), ?_⟩
        refine avb ?_
        first | (rw [decide_eq_decide]; omega) | (symm; exact decide_eq_false (by omega)))
  · replace hg1 := of_decide_eq_false hg1
    first
    | (exfalso; first | omega | contradiction)
    | (
        refine soff rfl rfl rfl rfl ?_
        refine soff rfl rfl rfl rfl ?_
        refine soff rfl rfl rfl rfl ?_
        first | (refine sv rfl (opv_pick_t rfl rfl) ?_) | (refine sv rfl (opv_pick_f rfl rfl) ?_)
        first | (refine sv rfl (opv_as rfl) ?_) | (refine sv rfl (opv_ast rfl) ?_)
        refine snil ?_
        refine cret ?_
        refine ⟨Or.inr rfl, _, _, _, (resVs_cons (ResV.tmp _ _ rfl) resVs_nil), (pubA_id rfl), ?_⟩
        refine avb ?_
        first | (rw [decide_eq_decide]; omega) | (symm; exact decide_eq_false (by omega)))

theorem has_c {lo hi a : List UInt8} {o : Bool} : CallsA Try.prog 29 [rsv lo hi o, .one (bsv a)] (· = .s (.one (.b (hasM lo hi o a)))) := by
  refine callsA_of Try.func29 rfl (nt := 21) rfl (Nat.le_of_ble_eq_true rfl) ?_
  intro w0 S0
  refine cseq ?_
  refine cregion ?_
  refine sbox rfl rfl ?_
  first | (refine sv rfl (opv_as rfl) ?_) | (refine sv rfl (opv_ast rfl) ?_)
  refine snil ?_
  refine cseq ?_
  refine cregion ?_
  first | (refine sv rfl (opv_mv rfl) ?_) | (refine sv rfl (opv_mvt rfl) ?_)
  first | (refine sv rfl (opv_fieldAddr_lp fi24_0 rfl) ?_) | (refine sv rfl (opv_fieldAddr_cp fi24_0 rfl) ?_) | (refine sv rfl (opv_fieldAddr_ap fi24_0 rfl rfl (by first | rfl | omega)) ?_)
  first | (refine sv rfl (opv_load1 ti22 rfl (.lp _ _ _ rfl) rfl) ?_) | (refine sv rfl (opv_load1 ti22 rfl (.cp _) rfl) ?_) | (refine sv rfl (opv_load1 ti22 rfl (.ap _ _ _ _ _ _ _ rfl (by first | rfl | omega)) rfl) ?_)
  refine scall1 rfl fn23 (opnds_cons rfl (opnds_cons rfl opnds_nil)) (pubC rfl) (cmp_c) ?_
  refine sv rfl (opv_geq rfl rfl) ?_
  first | (refine sv rfl (opv_mv rfl) ?_) | (refine sv rfl (opv_mvt rfl) ?_)
  refine ssplit 10 rfl (fun hg1 => ?_) (fun hg1 => ?_)
  · replace hg1 := of_decide_eq_true hg1
    first
    | (exfalso; first | omega | contradiction)
    | (
        refine son rfl rfl rfl ?_
        first | (refine sv rfl (opv_fieldAddr_lp fi24_2 rfl) ?_) | (refine sv rfl (opv_fieldAddr_cp fi24_2 rfl) ?_) | (refine sv rfl (opv_fieldAddr_ap fi24_2 rfl rfl (by first | rfl | omega)) ?_)
        refine son rfl rfl rfl ?_
        first | (refine sv rfl (opv_load1 ti4 rfl (.lp _ _ _ rfl) rfl) ?_) | (refine sv rfl (opv_load1 ti4 rfl (.cp _) rfl) ?_) | (refine sv rfl (opv_load1 ti4 rfl (.ap _ _ _ _ _ _ _ rfl (by first | rfl | omega)) rfl) ?_)
        refine son rfl rfl rfl ?_
        first | (refine sv rfl (opv_mv rfl) ?_) | (refine sv rfl (opv_mvt rfl) ?_)
        refine ssplit 13 rfl (fun hg2 => ?_) (fun hg2 => ?_)
        · first
          | (exfalso; first | omega | contradiction)
          | (
              refine soff rfl rfl rfl rfl ?_
              refine soff rfl rfl rfl rfl ?_
              refine soff rfl rfl rfl rfl ?_
              refine soff rfl rfl rfl rfl ?_
              refine soff rfl rfl rfl rfl ?_
              refine son rfl rfl rfl ?_
              first | (refine sv rfl (opv_pick_t rfl rfl) ?_) | (refine sv rfl (opv_pick_f rfl rfl) ?_)
              first | (refine sv rfl (opv_pick_t rfl rfl) ?_) | (refine sv rfl (opv_pick_f rfl rfl) ?_)
              first | (refine sv rfl (opv_as rfl) ?_) | (refine sv rfl (opv_ast rfl) ?_)
              refine snil ?_
              refine cret ?_
              refine ⟨Or.inr rfl, _, _, _, (resVs_cons (ResV.tmp _ _ rfl) resVs_nil), (pubA_id rfl), ?_⟩
              refine avb ?_
              unfold hasM
              first | (simp_all; done) | (simp; omega))
        · first
          | (exfalso; first | omega | contradiction)
          | (
              refine son rfl rfl rfl ?_
              first | (refine sv rfl (opv_mv rfl) ?_) | (refine sv rfl (opv_mvt rfl) ?_)
              refine son rfl rfl rfl ?_
              first | (refine sv rfl (opv_fieldAddr_lp fi24_1 rfl) ?_) | (refine sv rfl (opv_fieldAddr_cp fi24_1 rfl) ?_) | (refine sv rfl (opv_fieldAddr_ap fi24_1 rfl rfl (by first | rfl | omega)) ?_)
              refine son rfl rfl rfl ?_
              first | (refine sv rfl (opv_load1 ti22 rfl (.lp _ _ _ rfl) rfl) ?_) | (refine sv rfl (opv_load1 ti22 rfl (.cp _) rfl) ?_) | (refine sv rfl (opv_load1 ti22 rfl (.ap _ _ _ _ _ _ _ rfl (by first | rfl | omega)) rfl) ?_)
              refine son rfl rfl rfl ?_
              refine scall1 rfl fn23 (opnds_cons rfl (opnds_cons rfl opnds_nil)) (pubC rfl) (cmp_c) ?_
              refine son rfl rfl rfl ?_
              refine sv rfl (opv_lss rfl rfl) ?_
              refine son rfl rfl rfl ?_
              first | (refine sv rfl (opv_pick_t rfl rfl) ?_) | (refine sv rfl (opv_pick_f rfl rfl) ?_)
              first | (refine sv rfl (opv_pick_t rfl rfl) ?_) | (refine sv rfl (opv_pick_f rfl rfl) ?_)
              first | (refine sv rfl (opv_as rfl) ?_) | (refine sv rfl (opv_ast rfl) ?_)
              refine snil ?_
              refine cret ?_
              refine ⟨Or.inr rfl, _, _, _, (resVs_cons (ResV.tmp _ _ rfl) resVs_nil), (pubA_id rfl), ?_⟩
              refine avb ?_
              unfold hasM
              first | (simp_all; done) | (simp; omega)))
  · replace hg1 := of_decide_eq_false hg1
    first
    | (exfalso; first | omega | contradiction)
    | (
        refine soff rfl rfl rfl rfl ?_
        refine soff rfl rfl rfl rfl ?_
        refine soff rfl rfl rfl rfl ?_
        refine soffu rfl rfl rfl ?_
        refine soffu rfl rfl rfl ?_
        refine soffu rfl rfl rfl ?_
        refine soffu rfl rfl rfl ?_
        refine soffu rfl rfl rfl ?_
        refine soff rfl rfl rfl rfl ?_
        first | (refine sv rfl (opv_pick_t rfl rfl) ?_) | (refine sv rfl (opv_pick_f rfl rfl) ?_)
        first | (refine sv rfl (opv_as rfl) ?_) | (refine sv rfl (opv_ast rfl) ?_)
        refine snil ?_
        refine cret ?_
        refine ⟨Or.inr rfl, _, _, _, (resVs_cons (ResV.tmp _ _ rfl) resVs_nil), (pubA_id rfl), ?_⟩
        refine avb ?_
        unfold hasM
        first | (simp_all; done) | (simp; omega))

theorem empty_c {lo hi : List UInt8} {o : Bool} : CallsA Try.prog 31 [rsv lo hi o] (· = .s (.one (.b (emptyM lo hi o)))) := by
  refine callsA_of Try.func31 rfl (nt := 32) rfl (Nat.le_of_ble_eq_true rfl) ?_
  intro w0 S0
  refine cseq ?_
  refine cregion ?_
  refine sbox rfl rfl ?_
  first | (refine sv rfl (opv_as rfl) ?_) | (refine sv rfl (opv_ast rfl) ?_)
  refine snil ?_
  refine cseq ?_
  refine cseq ?_
  refine cregion ?_
  first | (refine sv rfl (opv_fieldAddr_lp fi24_2 rfl) ?_) | (refine sv rfl (opv_fieldAddr_cp fi24_2 rfl) ?_) | (refine sv rfl (opv_fieldAddr_ap fi24_2 rfl rfl (by first | rfl | first | omega | (simp; done))) ?_)
  first | (refine sv rfl (opv_load1 ti4 rfl (.lp _ _ _ rfl) rfl) ?_) | (refine sv rfl (opv_load1 ti4 rfl (.cp _) rfl) ?_) | (refine sv rfl (opv_load1 ti4 rfl (.ap _ _ _ _ _ _ _ rfl (by first | rfl | first | omega | (simp; done))) rfl) ?_)
  refine snil ?_
  refine ccond rfl (fun hc1 => ?_) (fun hc1 => ?_)
  · first
    | (exfalso; first | omega | contradiction)
    | (
        refine cseq ?_
        refine cregion ?_
        first | (refine sv rfl (opv_as rfl) ?_) | (refine sv rfl (opv_ast rfl) ?_)
        refine snil ?_
        refine cret ?_
        refine then_ret ?_
        refine ⟨Or.inr rfl, _, _, _, (resVs_cons (ResV.tmp _ _ rfl) resVs_nil), (pubA_id rfl), ?_⟩
        refine avb ?_
        first | (rw [hc1]; rfl) | (rw [hc1]; exact (empty_none hg2 hg4).symm) | (rw [hc1]; exact (empty_other (fun h => hg2 (by rw [h.1]; rfl))).symm) | (rw [hc1]; exact (empty_other (fun h => hg3 (by rw [h.2]; rfl))).symm) | (rw [hc1]; exact (empty_other (fun h => hg4 (by rw [(List.cons.inj h.2).1]; rfl))).symm))
  · first
    | (exfalso; first | omega | contradiction)
    | (
        refine cskip ?_
        refine then_normal ?_
        refine cseq ?_
        refine cregion ?_
        first | (refine sv rfl (opv_fieldAddr_lp fi24_0 rfl) ?_) | (refine sv rfl (opv_fieldAddr_cp fi24_0 rfl) ?_) | (refine sv rfl (opv_fieldAddr_ap fi24_0 rfl rfl (by first | rfl | first | omega | (simp; done))) ?_)
        first | (refine sv rfl (opv_load1 ti22 rfl (.lp _ _ _ rfl) rfl) ?_) | (refine sv rfl (opv_load1 ti22 rfl (.cp _) rfl) ?_) | (refine sv rfl (opv_load1 ti22 rfl (.ap _ _ _ _ _ _ _ rfl (by first | rfl | first | omega | (simp; done))) rfl) ?_)
        first | (refine sv rfl (opv_len_sl si22 rfl) ?_) | (refine sv rfl (opv_len_nil si22 rfl) ?_) | (refine sv rfl (opv_len_ls si22 rfl rfl (by first | rfl | first | omega | (simp; done))) ?_)
        refine sv rfl (opv_ieql rfl rfl) ?_
        first | (refine sv rfl (opv_mv rfl) ?_) | (refine sv rfl (opv_mvt rfl) ?_)
        refine ssplit 10 rfl (fun hg2 => ?_) (fun hg2 => ?_)
        · replace hg2 := of_decide_eq_true hg2
          first
          | (exfalso; first | omega | contradiction)
          | (
              refine son rfl rfl rfl ?_
              first | (refine sv rfl (opv_fieldAddr_lp fi24_1 rfl) ?_) | (refine sv rfl (opv_fieldAddr_cp fi24_1 rfl) ?_) | (refine sv rfl (opv_fieldAddr_ap fi24_1 rfl rfl (by first | rfl | first | omega | (simp; done))) ?_)
              refine son rfl rfl rfl ?_
              first | (refine sv rfl (opv_load1 ti22 rfl (.lp _ _ _ rfl) rfl) ?_) | (refine sv rfl (opv_load1 ti22 rfl (.cp _) rfl) ?_) | (refine sv rfl (opv_load1 ti22 rfl (.ap _ _ _ _ _ _ _ rfl (by first | rfl | first | omega | (simp; done))) rfl) ?_)
              refine son rfl rfl rfl ?_
              first | (refine sv rfl (opv_len_sl si22 rfl) ?_) | (refine sv rfl (opv_len_nil si22 rfl) ?_) | (refine sv rfl (opv_len_ls si22 rfl rfl (by first | rfl | first | omega | (simp; done))) ?_)
              refine son rfl rfl rfl ?_
              refine sv rfl (opv_ieql rfl rfl) ?_
              first | (refine sv rfl (opv_pick_t rfl rfl) ?_) | (refine sv rfl (opv_pick_f rfl rfl) ?_)
              first | (refine sv rfl (opv_mv rfl) ?_) | (refine sv rfl (opv_mvt rfl) ?_)
              refine ssplit 16 rfl (fun hg3 => ?_) (fun hg3 => ?_)
              · replace hg3 := of_decide_eq_true hg3
                try (obtain ⟨x, rfl⟩ := List.length_eq_one_iff.1 (Int.natCast_inj.1 (show ((hi.length : Nat) : Int) = ((1 : Nat) : Int) from hg3)))
                first
                | (exfalso; first | omega | contradiction)
                | (
                    refine son rfl rfl rfl ?_
                    first | (refine sv rfl (opv_fieldAddr_lp fi24_1 rfl) ?_) | (refine sv rfl (opv_fieldAddr_cp fi24_1 rfl) ?_) | (refine sv rfl (opv_fieldAddr_ap fi24_1 rfl rfl (by first | rfl | first | omega | (simp; done))) ?_)
                    refine son rfl rfl rfl ?_
                    first | (refine sv rfl (opv_load1 ti22 rfl (.lp _ _ _ rfl) rfl) ?_) | (refine sv rfl (opv_load1 ti22 rfl (.cp _) rfl) ?_) | (refine sv rfl (opv_load1 ti22 rfl (.ap _ _ _ _ _ _ _ rfl (by first | rfl | first | omega | (simp; done))) rfl) ?_)
                    refine son rfl rfl rfl ?_
                    first | (refine sv rfl (opv_indexAddr_sl si22 rfl rfl (by first | omega | (simp; done)) (by first | omega | (simp; done))) ?_) | (refine sv rfl (opv_indexAddr_ls si22 rfl rfl rfl (by first | rfl | first | omega | (simp; done)) (by first | omega | (simp; done)) (by first | omega | (simp; done))) ?_)
                    refine son rfl rfl rfl ?_
                    first | (refine sv rfl (opv_load1 ti5 rfl (.lp _ _ _ rfl) rfl) ?_) | (refine sv rfl (opv_load1 ti5 rfl (.cp _) rfl) ?_) | (refine sv rfl (opv_load1 ti5 rfl (.ap _ _ _ _ _ _ _ rfl (by first | rfl | first | omega | (simp; done))) rfl) ?_)
                    refine son rfl rfl rfl ?_
                    refine sv rfl (opv_ieql rfl rfl) ?_
                    first | (refine sv rfl (opv_pick_t rfl rfl) ?_) | (refine sv rfl (opv_pick_f rfl rfl) ?_)
                    first | (refine sv rfl (opv_as rfl) ?_) | (refine sv rfl (opv_ast rfl) ?_)
                    refine snil ?_
                    refine cseq ?_
                    refine cregion ?_
                    first | (refine sv rfl (opv_mv rfl) ?_) | (refine sv rfl (opv_mvt rfl) ?_)
                    first | (refine sv rfl (opv_mv rfl) ?_) | (refine sv rfl (opv_mvt rfl) ?_)
                    refine ssplit 24 rfl (fun hg4 => ?_) (fun hg4 => ?_)
                    · replace hg4 := of_decide_eq_true hg4
                      first
                      | (exfalso; first | omega | contradiction)
                      | (
                          refine soff rfl rfl rfl rfl ?_
                          refine soff rfl rfl rfl rfl ?_
                          refine soff rfl rfl rfl rfl ?_
                          refine soff rfl rfl rfl rfl ?_
                          refine soff rfl rfl rfl rfl ?_
                          refine soff rfl rfl rfl rfl ?_
                          first | (refine sv rfl (opv_pick_t rfl rfl) ?_) | (refine sv rfl (opv_pick_f rfl rfl) ?_)
                          first | (refine sv rfl (opv_as rfl) ?_) | (refine sv rfl (opv_ast rfl) ?_)
                          refine snil ?_
                          refine cret ?_
                          refine ⟨Or.inr rfl, _, _, _, (resVs_cons (ResV.tmp _ _ rfl) resVs_nil), (pubA_id rfl), ?_⟩
                          refine avb ?_
                          first | (rw [hc1]; rfl) | (rw [hc1]; exact (empty_none hg2 hg4).symm) | (rw [hc1]; exact (empty_other (fun h => hg2 (by rw [h.1]; rfl))).symm) | (rw [hc1]; exact (empty_other (fun h => hg3 (by rw [h.2]; rfl))).symm) | (rw [hc1]; exact (empty_other (fun h => hg4 (by rw [(List.cons.inj h.2).1]; rfl))).symm))
                    · replace hg4 := of_decide_eq_false hg4
                      first
                      | (exfalso; first | omega | contradiction)
                      | (
                          refine son rfl rfl rfl ?_
                          first | (refine sv rfl (opv_fieldAddr_lp fi24_1 rfl) ?_) | (refine sv rfl (opv_fieldAddr_cp fi24_1 rfl) ?_) | (refine sv rfl (opv_fieldAddr_ap fi24_1 rfl rfl (by first | rfl | first | omega | (simp; done))) ?_)
                          refine son rfl rfl rfl ?_
                          first | (refine sv rfl (opv_load1 ti22 rfl (.lp _ _ _ rfl) rfl) ?_) | (refine sv rfl (opv_load1 ti22 rfl (.cp _) rfl) ?_) | (refine sv rfl (opv_load1 ti22 rfl (.ap _ _ _ _ _ _ _ rfl (by first | rfl | first | omega | (simp; done))) rfl) ?_)
                          refine son rfl rfl rfl ?_
                          first | (refine sv rfl (opv_fieldAddr_lp fi24_0 rfl) ?_) | (refine sv rfl (opv_fieldAddr_cp fi24_0 rfl) ?_) | (refine sv rfl (opv_fieldAddr_ap fi24_0 rfl rfl (by first | rfl | first | omega | (simp; done))) ?_)
                          refine son rfl rfl rfl ?_
                          first | (refine sv rfl (opv_load1 ti22 rfl (.lp _ _ _ rfl) rfl) ?_) | (refine sv rfl (opv_load1 ti22 rfl (.cp _) rfl) ?_) | (refine sv rfl (opv_load1 ti22 rfl (.ap _ _ _ _ _ _ _ rfl (by first | rfl | first | omega | (simp; done))) rfl) ?_)
                          refine son rfl rfl rfl ?_
                          refine scall1 rfl fn23 (opnds_cons rfl (opnds_cons rfl opnds_nil)) (pubC rfl) (cmp_c) ?_
                          refine son rfl rfl rfl ?_
                          refine sv rfl (opv_leq rfl rfl) ?_
                          first | (refine sv rfl (opv_pick_t rfl rfl) ?_) | (refine sv rfl (opv_pick_f rfl rfl) ?_)
                          first | (refine sv rfl (opv_as rfl) ?_) | (refine sv rfl (opv_ast rfl) ?_)
                          refine snil ?_
                          refine cret ?_
                          refine ⟨Or.inr rfl, _, _, _, (resVs_cons (ResV.tmp _ _ rfl) resVs_nil), (pubA_id rfl), ?_⟩
                          refine avb ?_
                          first | (rw [hc1]; rfl) | (rw [hc1]; exact (empty_none hg2 hg4).symm) | (rw [hc1]; exact (empty_other (fun h => hg2 (by rw [h.1]; rfl))).symm) | (rw [hc1]; exact (empty_other (fun h => hg3 (by rw [h.2]; rfl))).symm) | (rw [hc1]; exact (empty_other (fun h => hg4 (by rw [(List.cons.inj h.2).1]; rfl))).symm)))
              · replace hg3 := of_decide_eq_false hg3
                first
                | (exfalso; first | omega | contradiction)
                | (
                    refine soff rfl rfl rfl rfl ?_
                    refine soff rfl rfl rfl rfl ?_
                    refine soff rfl rfl rfl rfl ?_
                    refine soff rfl rfl rfl rfl ?_
                    refine soff rfl rfl rfl rfl ?_
                    first | (refine sv rfl (opv_pick_t rfl rfl) ?_) | (refine sv rfl (opv_pick_f rfl rfl) ?_)
                    first | (refine sv rfl (opv_as rfl) ?_) | (refine sv rfl (opv_ast rfl) ?_)
                    refine snil ?_
                    refine cseq ?_
                    refine cregion ?_
                    first | (refine sv rfl (opv_mv rfl) ?_) | (refine sv rfl (opv_mvt rfl) ?_)
                    first | (refine sv rfl (opv_mv rfl) ?_) | (refine sv rfl (opv_mvt rfl) ?_)
                    refine son rfl rfl rfl ?_
                    first | (refine sv rfl (opv_fieldAddr_lp fi24_1 rfl) ?_) | (refine sv rfl (opv_fieldAddr_cp fi24_1 rfl) ?_) | (refine sv rfl (opv_fieldAddr_ap fi24_1 rfl rfl (by first | rfl | first | omega | (simp; done))) ?_)
                    refine son rfl rfl rfl ?_
                    first | (refine sv rfl (opv_load1 ti22 rfl (.lp _ _ _ rfl) rfl) ?_) | (refine sv rfl (opv_load1 ti22 rfl (.cp _) rfl) ?_) | (refine sv rfl (opv_load1 ti22 rfl (.ap _ _ _ _ _ _ _ rfl (by first | rfl | first | omega | (simp; done))) rfl) ?_)
                    refine son rfl rfl rfl ?_
                    first | (refine sv rfl (opv_fieldAddr_lp fi24_0 rfl) ?_) | (refine sv rfl (opv_fieldAddr_cp fi24_0 rfl) ?_) | (refine sv rfl (opv_fieldAddr_ap fi24_0 rfl rfl (by first | rfl | first | omega | (simp; done))) ?_)
                    refine son rfl rfl rfl ?_
                    first | (refine sv rfl (opv_load1 ti22 rfl (.lp _ _ _ rfl) rfl) ?_) | (refine sv rfl (opv_load1 ti22 rfl (.cp _) rfl) ?_) | (refine sv rfl (opv_load1 ti22 rfl (.ap _ _ _ _ _ _ _ rfl (by first | rfl | first | omega | (simp; done))) rfl) ?_)
                    refine son rfl rfl rfl ?_
                    refine scall1 rfl fn23 (opnds_cons rfl (opnds_cons rfl opnds_nil)) (pubC rfl) (cmp_c) ?_
                    refine son rfl rfl rfl ?_
                    refine sv rfl (opv_leq rfl rfl) ?_
                    first | (refine sv rfl (opv_pick_t rfl rfl) ?_) | (refine sv rfl (opv_pick_f rfl rfl) ?_)
                    first | (refine sv rfl (opv_as rfl) ?_) | (refine sv rfl (opv_ast rfl) ?_)
                    refine snil ?_
                    refine cret ?_
                    refine ⟨Or.inr rfl, _, _, _, (resVs_cons (ResV.tmp _ _ rfl) resVs_nil), (pubA_id rfl), ?_⟩
                    refine avb ?_
                    first | (rw [hc1]; rfl) | (rw [hc1]; exact (empty_none hg2 hg4).symm) | (rw [hc1]; exact (empty_other (fun h => hg2 (by rw [h.1]; rfl))).symm) | (rw [hc1]; exact (empty_other (fun h => hg3 (by rw [h.2]; rfl))).symm) | (rw [hc1]; exact (empty_other (fun h => hg4 (by rw [(List.cons.inj h.2).1]; rfl))).symm)))
        · replace hg2 := of_decide_eq_false hg2
          first
          | (exfalso; first | omega | contradiction)
          | (
              refine soff rfl rfl rfl rfl ?_
              refine soff rfl rfl rfl rfl ?_
              refine soff rfl rfl rfl rfl ?_
              refine soff rfl rfl rfl rfl ?_
              first | (refine sv rfl (opv_pick_t rfl rfl) ?_) | (refine sv rfl (opv_pick_f rfl rfl) ?_)
              first | (refine sv rfl (opv_mv rfl) ?_) | (refine sv rfl (opv_mvt rfl) ?_)
              refine soff rfl rfl rfl rfl ?_
              refine soff rfl rfl rfl rfl ?_
              refine soff rfl rfl rfl rfl ?_
              refine soff rfl rfl rfl rfl ?_
              refine soff rfl rfl rfl rfl ?_
              first | (refine sv rfl (opv_pick_t rfl rfl) ?_) | (refine sv rfl (opv_pick_f rfl rfl) ?_)
              first | (refine sv rfl (opv_as rfl) ?_) | (refine sv rfl (opv_ast rfl) ?_)
              refine snil ?_
              refine cseq ?_
              refine cregion ?_
              first | (refine sv rfl (opv_mv rfl) ?_) | (refine sv rfl (opv_mvt rfl) ?_)
              first | (refine sv rfl (opv_mv rfl) ?_) | (refine sv rfl (opv_mvt rfl) ?_)
              refine son rfl rfl rfl ?_
              first | (refine sv rfl (opv_fieldAddr_lp fi24_1 rfl) ?_) | (refine sv rfl (opv_fieldAddr_cp fi24_1 rfl) ?_) | (refine sv rfl (opv_fieldAddr_ap fi24_1 rfl rfl (by first | rfl | first | omega | (simp; done))) ?_)
              refine son rfl rfl rfl ?_
              first | (refine sv rfl (opv_load1 ti22 rfl (.lp _ _ _ rfl) rfl) ?_) | (refine sv rfl (opv_load1 ti22 rfl (.cp _) rfl) ?_) | (refine sv rfl (opv_load1 ti22 rfl (.ap _ _ _ _ _ _ _ rfl (by first | rfl | first | omega | (simp; done))) rfl) ?_)
              refine son rfl rfl rfl ?_
              first | (refine sv rfl (opv_fieldAddr_lp fi24_0 rfl) ?_) | (refine sv rfl (opv_fieldAddr_cp fi24_0 rfl) ?_) | (refine sv rfl (opv_fieldAddr_ap fi24_0 rfl rfl (by first | rfl | first | omega | (simp; done))) ?_)
              refine son rfl rfl rfl ?_
              first | (refine sv rfl (opv_load1 ti22 rfl (.lp _ _ _ rfl) rfl) ?_) | (refine sv rfl (opv_load1 ti22 rfl (.cp _) rfl) ?_) | (refine sv rfl (opv_load1 ti22 rfl (.ap _ _ _ _ _ _ _ rfl (by first | rfl | first | omega | (simp; done))) rfl) ?_)
              refine son rfl rfl rfl ?_
              refine scall1 rfl fn23 (opnds_cons rfl (opnds_cons rfl opnds_nil)) (pubC rfl) (cmp_c) ?_
              refine son rfl rfl rfl ?_
              refine sv rfl (opv_leq rfl rfl) ?_
              first | (refine sv rfl (opv_pick_t rfl rfl) ?_) | (refine sv rfl (opv_pick_f rfl rfl) ?_)
              first | (refine sv rfl (opv_as rfl) ?_) | (refine sv rfl (opv_ast rfl) ?_)
              refine snil ?_
              refine cret ?_
              refine ⟨Or.inr rfl, _, _, _, (resVs_cons (ResV.tmp _ _ rfl) resVs_nil), (pubA_id rfl), ?_⟩
              refine avb ?_
              first | (rw [hc1]; rfl) | (rw [hc1]; exact (empty_none hg2 hg4).symm) | (rw [hc1]; exact (empty_other (fun h => hg2 (by rw [h.1]; rfl))).symm) | (rw [hc1]; exact (empty_other (fun h => hg3 (by rw [h.2]; rfl))).symm) | (rw [hc1]; exact (empty_other (fun h => hg4 (by rw [(List.cons.inj h.2).1]; rfl))).symm)))

theorem short_c {lo hi : List UInt8} {o : Bool} : CallsA Try.prog 11 [rsv lo hi o] (· = .s (.one (.b (decide (lo.length ≤ 100 ∧ hi.length ≤ 100))))) := by
  refine callsA_of Try.func11 rfl (nt := 13) rfl (Nat.le_of_ble_eq_true rfl) ?_
  intro w0 S0
  refine cseq ?_
  refine cregion ?_
  refine sbox rfl rfl ?_
  first | (refine sv rfl (opv_as rfl) ?_) | (refine sv rfl (opv_ast rfl) ?_)
  refine snil ?_
  refine cseq ?_
  refine cregion ?_
  first | (refine sv rfl (opv_fieldAddr_lp fi24_0 rfl) ?_) | (refine sv rfl (opv_fieldAddr_cp fi24_0 rfl) ?_) | (refine sv rfl (opv_fieldAddr_ap fi24_0 rfl rfl (by first | rfl | omega)) ?_)
  first | (refine sv rfl (opv_load1 ti22 rfl (.lp _ _ _ rfl) rfl) ?_) | (refine sv rfl (opv_load1 ti22 rfl (.cp _) rfl) ?_) | (refine sv rfl (opv_load1 ti22 rfl (.ap _ _ _ _ _ _ _ rfl (by first | rfl | omega)) rfl) ?_)
  first | (refine sv rfl (opv_len_sl si22 rfl) ?_) | (refine sv rfl (opv_len_nil si22 rfl) ?_) | (refine sv rfl (opv_len_ls si22 rfl rfl (by first | rfl | omega)) ?_)
  refine sv rfl (opv_leq rfl rfl) ?_
  first | (refine sv rfl (opv_mv rfl) ?_) | (refine sv rfl (opv_mvt rfl) ?_)
  refine ssplit 7 rfl (fun hg1 => ?_) (fun hg1 => ?_)
  · replace hg1 := of_decide_eq_true hg1
    first
    | (exfalso; first | omega | contradiction)
    | (
        refine son rfl rfl rfl ?_
        first | (refine sv rfl (opv_fieldAddr_lp fi24_1 rfl) ?_) | (refine sv rfl (opv_fieldAddr_cp fi24_1 rfl) ?_) | (refine sv rfl (opv_fieldAddr_ap fi24_1 rfl rfl (by first | rfl | omega)) ?_)
        refine son rfl rfl rfl ?_
        first | (refine sv rfl (opv_load1 ti22 rfl (.lp _ _ _ rfl) rfl) ?_) | (refine sv rfl (opv_load1 ti22 rfl (.cp _) rfl) ?_) | (refine sv rfl (opv_load1 ti22 rfl (.ap _ _ _ _ _ _ _ rfl (by first | rfl | omega)) rfl) ?_)
        refine son rfl rfl rfl ?_
        first | (refine sv rfl (opv_len_sl si22 rfl) ?_) | (refine sv rfl (opv_len_nil si22 rfl) ?_) | (refine sv rfl (opv_len_ls si22 rfl rfl (by first | rfl | omega)) ?_)
        refine son rfl rfl rfl ?_
        refine sv rfl (opv_leq rfl rfl) ?_
        first | (refine sv rfl (opv_pick_t rfl rfl) ?_) | (refine sv rfl (opv_pick_f rfl rfl) ?_)
        first | (refine sv rfl (opv_as rfl) ?_) | (refine sv rfl (opv_ast rfl) ?_)
        refine snil ?_
        refine cret ?_
        refine ⟨Or.inr rfl, _, _, _, (resVs_cons (ResV.tmp _ _ rfl) resVs_nil), (pubA_id rfl), ?_⟩
        refine avb ?_
        first | (rw [decide_eq_decide]; omega) | (symm; exact decide_eq_false (by omega)))
  · replace hg1 := of_decide_eq_false hg1
    first
    | (exfalso; first | omega | contradiction)
    | (
        refine soff rfl rfl rfl rfl ?_
        refine soff rfl rfl rfl rfl ?_
        refine soff rfl rfl rfl rfl ?_
        refine soff rfl rfl rfl rfl ?_
        first | (refine sv rfl (opv_pick_t rfl rfl) ?_) | (refine sv rfl (opv_pick_f rfl rfl) ?_)
        first | (refine sv rfl (opv_as rfl) ?_) | (refine sv rfl (opv_ast rfl) ?_)
        refine snil ?_
        refine cret ?_
        refine ⟨Or.inr rfl, _, _, _, (resVs_cons (ResV.tmp _ _ rfl) resVs_nil), (pubA_id rfl), ?_⟩
        refine avb ?_
        first | (rw [decide_eq_decide]; omega) | (symm; exact decide_eq_false (by omega)))

theorem meet_c {lo hi lo1 hi1 : List UInt8} {o o1 : Bool} : CallsA Try.prog 13 [rsv lo hi o, rsv lo1 hi1 o1] (· = .tup [rsv (mL lo hi o lo1 hi1 o1) (mH lo hi o lo1 hi1 o1) (mO lo hi o lo1 hi1 o1), .one (.b (!mE lo hi o lo1 hi1 o1))]) := by
  refine callsA_of Try.func13 rfl (nt := 40) rfl (Nat.le_of_ble_eq_true rfl) ?_
  intro w0 S0
  refine cseq ?_
  refine cregion ?_
  refine sbox rfl rfl ?_
  refine sbox rfl rfl ?_
  refine salloc rfl zi24 ?_
  first | (refine sv rfl (opv_as rfl) ?_) | (refine sv rfl (opv_ast rfl) ?_)
  refine snil ?_
  refine cseq ?_
  refine cregion ?_
  first | (refine sv rfl (opv_loadN ti24 rfl (.lp _ _ _ rfl) (Nat.le_of_ble_eq_true rfl)) ?_) | (refine sv rfl (opv_loadN ti24 rfl (.cp _) (Nat.le_of_ble_eq_true rfl)) ?_)
  refine salloc rfl zi24 ?_
  first | (refine sstore sz24 rfl rfl rfl rfl (Nat.le_of_ble_eq_true rfl) ?_) | (refine sstore_ap sz24 rfl rfl rfl (by first | rfl | omega) rfl (List.all_eq_true.1 rfl) (by omega) (by omega) ?_)
  refine snil ?_
  refine cseq ?_
  refine cseq ?_
  refine cregion ?_
  first | (refine sv rfl (opv_fieldAddr_lp fi24_0 rfl) ?_) | (refine sv rfl (opv_fieldAddr_cp fi24_0 rfl) ?_) | (refine sv rfl (opv_fieldAddr_ap fi24_0 rfl rfl (by first | rfl | omega)) ?_)
  first | (refine sv rfl (opv_load1 ti22 rfl (.lp _ _ _ rfl) rfl) ?_) | (refine sv rfl (opv_load1 ti22 rfl (.cp _) rfl) ?_) | (refine sv rfl (opv_load1 ti22 rfl (.ap _ _ _ _ _ _ _ rfl (by first | rfl | omega)) rfl) ?_)
  first | (refine sv rfl (opv_fieldAddr_lp fi24_0 rfl) ?_) | (refine sv rfl (opv_fieldAddr_cp fi24_0 rfl) ?_) | (refine sv rfl (opv_fieldAddr_ap fi24_0 rfl rfl (by first | rfl | omega)) ?_)
  first | (refine sv rfl (opv_load1 ti22 rfl (.lp _ _ _ rfl) rfl) ?_) | (refine sv rfl (opv_load1 ti22 rfl (.cp _) rfl) ?_) | (refine sv rfl (opv_load1 ti22 rfl (.ap _ _ _ _ _ _ _ rfl (by first | rfl | omega)) rfl) ?_)
  refine scall1 rfl fn23 (opnds_cons rfl (opnds_cons rfl opnds_nil)) (pubC rfl) (cmp_c) ?_
  refine sv rfl (opv_gtr rfl rfl) ?_
  refine snil ?_
  refine ccond rfl (fun hc1 => ?_) (fun hc1 => ?_)
  · replace hc1 := of_decide_eq_true hc1
    first
    | (exfalso; first | omega | contradiction)
    | (
        refine cregion ?_
        first | (refine sv rfl (opv_fieldAddr_lp fi24_0 rfl) ?_) | (refine sv rfl (opv_fieldAddr_cp fi24_0 rfl) ?_) | (refine sv rfl (opv_fieldAddr_ap fi24_0 rfl rfl (by first | rfl | omega)) ?_)
        first | (refine sv rfl (opv_load1 ti22 rfl (.lp _ _ _ rfl) rfl) ?_) | (refine sv rfl (opv_load1 ti22 rfl (.cp _) rfl) ?_) | (refine sv rfl (opv_load1 ti22 rfl (.ap _ _ _ _ _ _ _ rfl (by first | rfl | omega)) rfl) ?_)
        first | (refine sv rfl (opv_fieldAddr_lp fi24_0 rfl) ?_) | (refine sv rfl (opv_fieldAddr_cp fi24_0 rfl) ?_) | (refine sv rfl (opv_fieldAddr_ap fi24_0 rfl rfl (by first | rfl | omega)) ?_)
        first | (refine sstore sz22 rfl rfl rfl rfl (Nat.le_of_ble_eq_true rfl) ?_) | (refine sstore_ap sz22 rfl rfl rfl (by first | rfl | omega) rfl (List.all_eq_true.1 rfl) (by omega) (by omega) ?_)
        refine snil ?_
        refine cseq ?_
        refine cseq ?_
        refine cregion ?_
        first | (refine sv rfl (opv_fieldAddr_lp fi24_2 rfl) ?_) | (refine sv rfl (opv_fieldAddr_cp fi24_2 rfl) ?_) | (refine sv rfl (opv_fieldAddr_ap fi24_2 rfl rfl (by first | rfl | omega)) ?_)
        first | (refine sv rfl (opv_load1 ti4 rfl (.lp _ _ _ rfl) rfl) ?_) | (refine sv rfl (opv_load1 ti4 rfl (.cp _) rfl) ?_) | (refine sv rfl (opv_load1 ti4 rfl (.ap _ _ _ _ _ _ _ rfl (by first | rfl | omega)) rfl) ?_)
        refine sv rfl (opv_not rfl) ?_
        first | (refine sv rfl (opv_mv rfl) ?_) | (refine sv rfl (opv_mvt rfl) ?_)
        refine ssplit 20 rfl (fun hg2 => ?_) (fun hg2 => ?_)
        · replace hg2 := bnot_t hg2
          first
          | (exfalso; first | omega | contradiction)
          | (
              refine son rfl rfl rfl ?_
              first | (refine sv rfl (opv_fieldAddr_lp fi24_2 rfl) ?_) | (refine sv rfl (opv_fieldAddr_cp fi24_2 rfl) ?_) | (refine sv rfl (opv_fieldAddr_ap fi24_2 rfl rfl (by first | rfl | omega)) ?_)
              refine son rfl rfl rfl ?_
              first | (refine sv rfl (opv_load1 ti4 rfl (.lp _ _ _ rfl) rfl) ?_) | (refine sv rfl (opv_load1 ti4 rfl (.cp _) rfl) ?_) | (refine sv rfl (opv_load1 ti4 rfl (.ap _ _ _ _ _ _ _ rfl (by first | rfl | omega)) rfl) ?_)
              refine son rfl rfl rfl ?_
              first | (refine sv rfl (opv_mv rfl) ?_) | (refine sv rfl (opv_mvt rfl) ?_)
              refine ssplit 23 rfl (fun hg3 => ?_) (fun hg3 => ?_)
              · first
                | (exfalso; first | omega | contradiction)
                | (
                    refine soff rfl rfl rfl rfl ?_
                    refine soff rfl rfl rfl rfl ?_
                    refine soff rfl rfl rfl rfl ?_
                    refine soff rfl rfl rfl rfl ?_
                    refine soff rfl rfl rfl rfl ?_
                    refine soff rfl rfl rfl rfl ?_
                    refine son rfl rfl rfl ?_
                    first | (refine sv rfl (opv_pick_t rfl rfl) ?_) | (refine sv rfl (opv_pick_f rfl rfl) ?_)
                    first | (refine sv rfl (opv_pick_t rfl rfl) ?_) | (refine sv rfl (opv_pick_f rfl rfl) ?_)
                    refine snil ?_
                    refine ccond rfl (fun _ => ?_) (fun hx => Bool.noConfusion hx)
                    refine cregion ?_
                    first | (refine sv rfl (opv_fieldAddr_lp fi24_1 rfl) ?_) | (refine sv rfl (opv_fieldAddr_cp fi24_1 rfl) ?_) | (refine sv rfl (opv_fieldAddr_ap fi24_1 rfl rfl (by first | rfl | omega)) ?_)
                    first | (refine sv rfl (opv_load1 ti22 rfl (.lp _ _ _ rfl) rfl) ?_) | (refine sv rfl (opv_load1 ti22 rfl (.cp _) rfl) ?_) | (refine sv rfl (opv_load1 ti22 rfl (.ap _ _ _ _ _ _ _ rfl (by first | rfl | omega)) rfl) ?_)
                    first | (refine sv rfl (opv_fieldAddr_lp fi24_1 rfl) ?_) | (refine sv rfl (opv_fieldAddr_cp fi24_1 rfl) ?_) | (refine sv rfl (opv_fieldAddr_ap fi24_1 rfl rfl (by first | rfl | omega)) ?_)
                    first | (refine sstore sz22 rfl rfl rfl rfl (Nat.le_of_ble_eq_true rfl) ?_) | (refine sstore_ap sz22 rfl rfl rfl (by first | rfl | omega) rfl (List.all_eq_true.1 rfl) (by omega) (by omega) ?_)
                    first | (refine sv rfl (opv_fieldAddr_lp fi24_2 rfl) ?_) | (refine sv rfl (opv_fieldAddr_cp fi24_2 rfl) ?_) | (refine sv rfl (opv_fieldAddr_ap fi24_2 rfl rfl (by first | rfl | omega)) ?_)
                    first | (refine sstore sz4 rfl rfl rfl rfl (Nat.le_of_ble_eq_true rfl) ?_) | (refine sstore_ap sz4 rfl rfl rfl (by first | rfl | omega) rfl (List.all_eq_true.1 rfl) (by omega) (by omega) ?_)
                    refine snil ?_
                    refine cseq ?_
                    refine cseq ?_
                    refine cregion ?_
                    first | (refine sv rfl (opv_loadN ti24 rfl (.lp _ _ _ rfl) (Nat.le_of_ble_eq_true rfl)) ?_) | (refine sv rfl (opv_loadN ti24 rfl (.cp _) (Nat.le_of_ble_eq_true rfl)) ?_)
                    refine scall1 rfl fn31 (opnds_cons rfl opnds_nil) (pubC rfl) (empty_c) ?_
                    refine snil ?_
                    refine ccond rfl (fun hc4 => ?_) (fun hc4 => ?_)
                    · first
                      | (exfalso; first | omega | contradiction)
                      | (
                          refine cseq ?_
                          refine cregion ?_
                          refine sv rfl (opv_build zi24 pi24 parts_nil (.nil _)) ?_
                          first | (refine sstore sz24 rfl rfl rfl rfl (Nat.le_of_ble_eq_true rfl) ?_) | (refine sstore_ap sz24 rfl rfl rfl (by first | rfl | omega) rfl (List.all_eq_true.1 rfl) (by omega) (by omega) ?_)
                          first | (refine sv rfl (opv_as rfl) ?_) | (refine sv rfl (opv_ast rfl) ?_)
                          refine snil ?_
                          refine cret ?_
                          refine then_ret ?_
                          refine ⟨Or.inr rfl, _, _, _, (resVs_cons (ResV.agg _ _ _ _ _ ti24 rfl (.lp _ _ _ rfl) (Nat.le_of_ble_eq_true rfl)) (resVs_cons (ResV.tmp _ _ rfl) resVs_nil)), (pubC rfl), ?_⟩
                          first | (have e := meet_full (lo := lo) (hi := hi) (o := o) (lo1 := lo1) (hi1 := hi1) (o1 := o1) (if_pos hc1) (take_yes (hi := hi) (hi1 := hi1) (o := o) (o1 := o1) (by simp_all [meetTake])).1 (take_yes (hi := hi) (hi1 := hi1) (o := o) (o1 := o1) (by simp_all [meetTake])).2 (by assumption); show _ = AV.tup _; rw [e.1, e.2.1, e.2.2.1, e.2.2.2]; rfl) | (have e := meet_full (lo := lo) (hi := hi) (o := o) (lo1 := lo1) (hi1 := hi1) (o1 := o1) (if_pos hc1) (take_no (hi := hi) (hi1 := hi1) (o := o) (o1 := o1) (by simp_all [meetTake])).1 (take_no (hi := hi) (hi1 := hi1) (o := o) (o1 := o1) (by simp_all [meetTake])).2 (by assumption); show _ = AV.tup _; rw [e.1, e.2.1, e.2.2.1, e.2.2.2]; rfl) | (have e := meet_full (lo := lo) (hi := hi) (o := o) (lo1 := lo1) (hi1 := hi1) (o1 := o1) (if_neg hc1) (take_yes (hi := hi) (hi1 := hi1) (o := o) (o1 := o1) (by simp_all [meetTake])).1 (take_yes (hi := hi) (hi1 := hi1) (o := o) (o1 := o1) (by simp_all [meetTake])).2 (by assumption); show _ = AV.tup _; rw [e.1, e.2.1, e.2.2.1, e.2.2.2]; rfl) | (have e := meet_full (lo := lo) (hi := hi) (o := o) (lo1 := lo1) (hi1 := hi1) (o1 := o1) (if_neg hc1) (take_no (hi := hi) (hi1 := hi1) (o := o) (o1 := o1) (by simp_all [meetTake])).1 (take_no (hi := hi) (hi1 := hi1) (o := o) (o1 := o1) (by simp_all [meetTake])).2 (by assumption); show _ = AV.tup _; rw [e.1, e.2.1, e.2.2.1, e.2.2.2]; rfl) | (have e := meet_empty (lo := lo) (hi := hi) (o := o) (lo1 := lo1) (hi1 := hi1) (o1 := o1) (if_pos hc1) (take_yes (hi := hi) (hi1 := hi1) (o := o) (o1 := o1) (by simp_all [meetTake])).1 (take_yes (hi := hi) (hi1 := hi1) (o := o) (o1 := o1) (by simp_all [meetTake])).2 (by assumption); show _ = AV.tup _; rw [e.1, e.2.1, e.2.2.1, e.2.2.2]; rfl) | (have e := meet_empty (lo := lo) (hi := hi) (o := o) (lo1 := lo1) (hi1 := hi1) (o1 := o1) (if_pos hc1) (take_no (hi := hi) (hi1 := hi1) (o := o) (o1 := o1) (by simp_all [meetTake])).1 (take_no (hi := hi) (hi1 := hi1) (o := o) (o1 := o1) (by simp_all [meetTake])).2 (by assumption); show _ = AV.tup _; rw [e.1, e.2.1, e.2.2.1, e.2.2.2]; rfl) | (have e := meet_empty (lo := lo) (hi := hi) (o := o) (lo1 := lo1) (hi1 := hi1) (o1 := o1) (if_neg hc1) (take_yes (hi := hi) (hi1 := hi1) (o := o) (o1 := o1) (by simp_all [meetTake])).1 (take_yes (hi := hi) (hi1 := hi1) (o := o) (o1 := o1) (by simp_all [meetTake])).2 (by assumption); show _ = AV.tup _; rw [e.1, e.2.1, e.2.2.1, e.2.2.2]; rfl) | (have e := meet_empty (lo := lo) (hi := hi) (o := o) (lo1 := lo1) (hi1 := hi1) (o1 := o1) (if_neg hc1) (take_no (hi := hi) (hi1 := hi1) (o := o) (o1 := o1) (by simp_all [meetTake])).1 (take_no (hi := hi) (hi1 := hi1) (o := o) (o1 := o1) (by simp_all [meetTake])).2 (by assumption); show _ = AV.tup _; rw [e.1, e.2.1, e.2.2.1, e.2.2.2]; rfl))
                    · first
                      | (exfalso; first | omega | contradiction)
                      | (
                          refine cskip ?_
                          refine then_normal ?_
                          refine cseq ?_
                          refine cregion ?_
                          first | (refine sv rfl (opv_loadN ti24 rfl (.lp _ _ _ rfl) (Nat.le_of_ble_eq_true rfl)) ?_) | (refine sv rfl (opv_loadN ti24 rfl (.cp _) (Nat.le_of_ble_eq_true rfl)) ?_)
                          first | (refine sstore sz24 rfl rfl rfl rfl (Nat.le_of_ble_eq_true rfl) ?_) | (refine sstore_ap sz24 rfl rfl rfl (by first | rfl | omega) rfl (List.all_eq_true.1 rfl) (by omega) (by omega) ?_)
                          first | (refine sv rfl (opv_as rfl) ?_) | (refine sv rfl (opv_ast rfl) ?_)
                          refine snil ?_
                          refine cret ?_
                          refine ⟨Or.inr rfl, _, _, _, (resVs_cons (ResV.agg _ _ _ _ _ ti24 rfl (.lp _ _ _ rfl) (Nat.le_of_ble_eq_true rfl)) (resVs_cons (ResV.tmp _ _ rfl) resVs_nil)), (pubC rfl), ?_⟩
                          first | (have e := meet_full (lo := lo) (hi := hi) (o := o) (lo1 := lo1) (hi1 := hi1) (o1 := o1) (if_pos hc1) (take_yes (hi := hi) (hi1 := hi1) (o := o) (o1 := o1) (by simp_all [meetTake])).1 (take_yes (hi := hi) (hi1 := hi1) (o := o) (o1 := o1) (by simp_all [meetTake])).2 (by assumption); show _ = AV.tup _; rw [e.1, e.2.1, e.2.2.1, e.2.2.2]; rfl) | (have e := meet_full (lo := lo) (hi := hi) (o := o) (lo1 := lo1) (hi1 := hi1) (o1 := o1) (if_pos hc1) (take_no (hi := hi) (hi1 := hi1) (o := o) (o1 := o1) (by simp_all [meetTake])).1 (take_no (hi := hi) (hi1 := hi1) (o := o) (o1 := o1) (by simp_all [meetTake])).2 (by assumption); show _ = AV.tup _; rw [e.1, e.2.1, e.2.2.1, e.2.2.2]; rfl) | (have e := meet_full (lo := lo) (hi := hi) (o := o) (lo1 := lo1) (hi1 := hi1) (o1 := o1) (if_neg hc1) (take_yes (hi := hi) (hi1 := hi1) (o := o) (o1 := o1) (by simp_all [meetTake])).1 (take_yes (hi := hi) (hi1 := hi1) (o := o) (o1 := o1) (by simp_all [meetTake])).2 (by assumption); show _ = AV.tup _; rw [e.1, e.2.1, e.2.2.1, e.2.2.2]; rfl) | (have e := meet_full (lo := lo) (hi := hi) (o := o) (lo1 := lo1) (hi1 := hi1) (o1 := o1) (if_neg hc1) (take_no (hi := hi) (hi1 := hi1) (o := o) (o1 := o1) (by simp_all [meetTake])).1 (take_no (hi := hi) (hi1 := hi1) (o := o) (o1 := o1) (by simp_all [meetTake])).2 (by assumption); show _ = AV.tup _; rw [e.1, e.2.1, e.2.2.1, e.2.2.2]; rfl) | (have e := meet_empty (lo := lo) (hi := hi) (o := o) (lo1 := lo1) (hi1 := hi1) (o1 := o1) (if_pos hc1) (take_yes (hi := hi) (hi1 := hi1) (o := o) (o1 := o1) (by simp_all [meetTake])).1 (take_yes (hi := hi) (hi1 := hi1) (o := o) (o1 := o1) (by simp_all [meetTake])).2 (by assumption); show _ = AV.tup _; rw [e.1, e.2.1, e.2.2.1, e.2.2.2]; rfl) | (have e := meet_empty (lo := lo) (hi := hi) (o := o) (lo1 := lo1) (hi1 := hi1) (o1 := o1) (if_pos hc1) (take_no (hi := hi) (hi1 := hi1) (o := o) (o1 := o1) (by simp_all [meetTake])).1 (take_no (hi := hi) (hi1 := hi1) (o := o) (o1 := o1) (by simp_all [meetTake])).2 (by assumption); show _ = AV.tup _; rw [e.1, e.2.1, e.2.2.1, e.2.2.2]; rfl) | (have e := meet_empty (lo := lo) (hi := hi) (o := o) (lo1 := lo1) (hi1 := hi1) (o1 := o1) (if_neg hc1) (take_yes (hi := hi) (hi1 := hi1) (o := o) (o1 := o1) (by simp_all [meetTake])).1 (take_yes (hi := hi) (hi1 := hi1) (o := o) (o1 := o1) (by simp_all [meetTake])).2 (by assumption); show _ = AV.tup _; rw [e.1, e.2.1, e.2.2.1, e.2.2.2]; rfl) | (have e := meet_empty (lo := lo) (hi := hi) (o := o) (lo1 := lo1) (hi1 := hi1) (o1 := o1) (if_neg hc1) (take_no (hi := hi) (hi1 := hi1) (o := o) (o1 := o1) (by simp_all [meetTake])).1 (take_no (hi := hi) (hi1 := hi1) (o := o) (o1 := o1) (by simp_all [meetTake])).2 (by assumption); show _ = AV.tup _; rw [e.1, e.2.1, e.2.2.1, e.2.2.2]; rfl)))
              · first
                | (exfalso; first | omega | contradiction)
                | (
                    refine son rfl rfl rfl ?_
                    first | (refine sv rfl (opv_fieldAddr_lp fi24_1 rfl) ?_) | (refine sv rfl (opv_fieldAddr_cp fi24_1 rfl) ?_) | (refine sv rfl (opv_fieldAddr_ap fi24_1 rfl rfl (by first | rfl | omega)) ?_)
                    refine son rfl rfl rfl ?_
                    first | (refine sv rfl (opv_load1 ti22 rfl (.lp _ _ _ rfl) rfl) ?_) | (refine sv rfl (opv_load1 ti22 rfl (.cp _) rfl) ?_) | (refine sv rfl (opv_load1 ti22 rfl (.ap _ _ _ _ _ _ _ rfl (by first | rfl | omega)) rfl) ?_)
                    refine son rfl rfl rfl ?_
                    first | (refine sv rfl (opv_fieldAddr_lp fi24_1 rfl) ?_) | (refine sv rfl (opv_fieldAddr_cp fi24_1 rfl) ?_) | (refine sv rfl (opv_fieldAddr_ap fi24_1 rfl rfl (by first | rfl | omega)) ?_)
                    refine son rfl rfl rfl ?_
                    first | (refine sv rfl (opv_load1 ti22 rfl (.lp _ _ _ rfl) rfl) ?_) | (refine sv rfl (opv_load1 ti22 rfl (.cp _) rfl) ?_) | (refine sv rfl (opv_load1 ti22 rfl (.ap _ _ _ _ _ _ _ rfl (by first | rfl | omega)) rfl) ?_)
                    refine son rfl rfl rfl ?_
                    refine scall1 rfl fn23 (opnds_cons rfl (opnds_cons rfl opnds_nil)) (pubC rfl) (cmp_c) ?_
                    refine son rfl rfl rfl ?_
                    refine sv rfl (opv_lss rfl rfl) ?_
                    refine son rfl rfl rfl ?_
                    first | (refine sv rfl (opv_pick_t rfl rfl) ?_) | (refine sv rfl (opv_pick_f rfl rfl) ?_)
                    first | (refine sv rfl (opv_pick_t rfl rfl) ?_) | (refine sv rfl (opv_pick_f rfl rfl) ?_)
                    refine snil ?_
                    refine ccond rfl (fun hc5 => ?_) (fun hc5 => ?_)
                    · replace hc5 := of_decide_eq_true hc5
                      first
                      | (exfalso; first | omega | contradiction)
                      | (
                          refine cregion ?_
                          first | (refine sv rfl (opv_fieldAddr_lp fi24_1 rfl) ?_) | (refine sv rfl (opv_fieldAddr_cp fi24_1 rfl) ?_) | (refine sv rfl (opv_fieldAddr_ap fi24_1 rfl rfl (by first | rfl | omega)) ?_)
                          first | (refine sv rfl (opv_load1 ti22 rfl (.lp _ _ _ rfl) rfl) ?_) | (refine sv rfl (opv_load1 ti22 rfl (.cp _) rfl) ?_) | (refine sv rfl (opv_load1 ti22 rfl (.ap _ _ _ _ _ _ _ rfl (by first | rfl | omega)) rfl) ?_)
                          first | (refine sv rfl (opv_fieldAddr_lp fi24_1 rfl) ?_) | (refine sv rfl (opv_fieldAddr_cp fi24_1 rfl) ?_) | (refine sv rfl (opv_fieldAddr_ap fi24_1 rfl rfl (by first | rfl | omega)) ?_)
                          first | (refine sstore sz22 rfl rfl rfl rfl (Nat.le_of_ble_eq_true rfl) ?_) | (refine sstore_ap sz22 rfl rfl rfl (by first | rfl | omega) rfl (List.all_eq_true.1 rfl) (by omega) (by omega) ?_)
                          first | (refine sv rfl (opv_fieldAddr_lp fi24_2 rfl) ?_) | (refine sv rfl (opv_fieldAddr_cp fi24_2 rfl) ?_) | (refine sv rfl (opv_fieldAddr_ap fi24_2 rfl rfl (by first | rfl | omega)) ?_)
                          first | (refine sstore sz4 rfl rfl rfl rfl (Nat.le_of_ble_eq_true rfl) ?_) | (refine sstore_ap sz4 rfl rfl rfl (by first | rfl | omega) rfl (List.all_eq_true.1 rfl) (by omega) (by omega) ?_)
                          refine snil ?_
                          refine cseq ?_
                          refine cseq ?_
                          refine cregion ?_
                          first | (refine sv rfl (opv_loadN ti24 rfl (.lp _ _ _ rfl) (Nat.le_of_ble_eq_true rfl)) ?_) | (refine sv rfl (opv_loadN ti24 rfl (.cp _) (Nat.le_of_ble_eq_true rfl)) ?_)
                          refine scall1 rfl fn31 (opnds_cons rfl opnds_nil) (pubC rfl) (empty_c) ?_
                          refine snil ?_
                          refine ccond rfl (fun hc6 => ?_) (fun hc6 => ?_)
                          · first
                            | (exfalso; first | omega | contradiction)
                            | (
                                refine cseq ?_
                                refine cregion ?_
                                refine sv rfl (opv_build zi24 pi24 parts_nil (.nil _)) ?_
                                first | (refine sstore sz24 rfl rfl rfl rfl (Nat.le_of_ble_eq_true rfl) ?_) | (refine sstore_ap sz24 rfl rfl rfl (by first | rfl | omega) rfl (List.all_eq_true.1 rfl) (by omega) (by omega) ?_)
                                first | (refine sv rfl (opv_as rfl) ?_) | (refine sv rfl (opv_ast rfl) ?_)
                                refine snil ?_
                                refine cret ?_
                                refine then_ret ?_
                                refine ⟨Or.inr rfl, _, _, _, (resVs_cons (ResV.agg _ _ _ _ _ ti24 rfl (.lp _ _ _ rfl) (Nat.le_of_ble_eq_true rfl)) (resVs_cons (ResV.tmp _ _ rfl) resVs_nil)), (pubC rfl), ?_⟩
                                first | (have e := meet_full (lo := lo) (hi := hi) (o := o) (lo1 := lo1) (hi1 := hi1) (o1 := o1) (if_pos hc1) (take_yes (hi := hi) (hi1 := hi1) (o := o) (o1 := o1) (by simp_all [meetTake])).1 (take_yes (hi := hi) (hi1 := hi1) (o := o) (o1 := o1) (by simp_all [meetTake])).2 (by assumption); show _ = AV.tup _; rw [e.1, e.2.1, e.2.2.1, e.2.2.2]; rfl) | (have e := meet_full (lo := lo) (hi := hi) (o := o) (lo1 := lo1) (hi1 := hi1) (o1 := o1) (if_pos hc1) (take_no (hi := hi) (hi1 := hi1) (o := o) (o1 := o1) (by simp_all [meetTake])).1 (take_no (hi := hi) (hi1 := hi1) (o := o) (o1 := o1) (by simp_all [meetTake])).2 (by assumption); show _ = AV.tup _; rw [e.1, e.2.1, e.2.2.1, e.2.2.2]; rfl) | (have e := meet_full (lo := lo) (hi := hi) (o := o) (lo1 := lo1) (hi1 := hi1) (o1 := o1) (if_neg hc1) (take_yes (hi := hi) (hi1 := hi1) (o := o) (o1 := o1) (by simp_all [meetTake])).1 (take_yes (hi := hi) (hi1 := hi1) (o := o) (o1 := o1) (by simp_all [meetTake])).2 (by assumption); show _ = AV.tup _; rw [e.1, e.2.1, e.2.2.1, e.2.2.2]; rfl) | (have e := meet_full (lo := lo) (hi := hi) (o := o) (lo1 := lo1) (hi1 := hi1) (o1 := o1) (if_neg hc1) (take_no (hi := hi) (hi1 := hi1) (o := o) (o1 := o1) (by simp_all [meetTake])).1 (take_no (hi := hi) (hi1 := hi1) (o := o) (o1 := o1) (by simp_all [meetTake])).2 (by assumption); show _ = AV.tup _; rw [e.1, e.2.1, e.2.2.1, e.2.2.2]; rfl) | (have e := meet_empty (lo := lo) (hi := hi) (o := o) (lo1 := lo1) (hi1 := hi1) (o1 := o1) (if_pos hc1) (take_yes (hi := hi) (hi1 := hi1) (o := o) (o1 := o1) (by simp_all [meetTake])).1 (take_yes (hi := hi) (hi1 := hi1) (o := o) (o1 := o1) (by simp_all [meetTake])).2 (by assumption); show _ = AV.tup _; rw [e.1, e.2.1, e.2.2.1, e.2.2.2]; rfl) | (have e := meet_empty (lo := lo) (hi := hi) (o := o) (lo1 := lo1) (hi1 := hi1) (o1 := o1) (if_pos hc1) (take_no (hi := hi) (hi1 := hi1) (o := o) (o1 := o1) (by simp_all [meetTake])).1 (take_no (hi := hi) (hi1 := hi1) (o := o) (o1 := o1) (by simp_all [meetTake])).2 (by assumption); show _ = AV.tup _; rw [e.1, e.2.1, e.2.2.1, e.2.2.2]; rfl) | (have e := meet_empty (lo := lo) (hi := hi) (o := o) (lo1 := lo1) (hi1 := hi1) (o1 := o1) (if_neg hc1) (take_yes (hi := hi) (hi1 := hi1) (o := o) (o1 := o1) (by simp_all [meetTake])).1 (take_yes (hi := hi) (hi1 := hi1) (o := o) (o1 := o1) (by simp_all [meetTake])).2 (by assumption); show _ = AV.tup _; rw [e.1, e.2.1, e.2.2.1, e.2.2.2]; rfl) | (have e := meet_empty (lo := lo) (hi := hi) (o := o) (lo1 := lo1) (hi1 := hi1) (o1 := o1) (if_neg hc1) (take_no (hi := hi) (hi1 := hi1) (o := o) (o1 := o1) (by simp_all [meetTake])).1 (take_no (hi := hi) (hi1 := hi1) (o := o) (o1 := o1) (by simp_all [meetTake])).2 (by assumption); show _ = AV.tup _; rw [e.1, e.2.1, e.2.2.1, e.2.2.2]; rfl))
                          · first
                            | (exfalso; first | omega | contradiction)
                            | (
                                refine cskip ?_
                                refine then_normal ?_
                                refine cseq ?_
                                refine cregion ?_
                                first | (refine sv rfl (opv_loadN ti24 rfl (.lp _ _ _ rfl) (Nat.le_of_ble_eq_true rfl)) ?_) | (refine sv rfl (opv_loadN ti24 rfl (.cp _) (Nat.le_of_ble_eq_true rfl)) ?_)
                                first | (refine sstore sz24 rfl rfl rfl rfl (Nat.le_of_ble_eq_true rfl) ?_) | (refine sstore_ap sz24 rfl rfl rfl (by first | rfl | omega) rfl (List.all_eq_true.1 rfl) (by omega) (by omega) ?_)
                                first | (refine sv rfl (opv_as rfl) ?_) | (refine sv rfl (opv_ast rfl) ?_)
                                refine snil ?_
                                refine cret ?_
                                refine ⟨Or.inr rfl, _, _, _, (resVs_cons (ResV.agg _ _ _ _ _ ti24 rfl (.lp _ _ _ rfl) (Nat.le_of_ble_eq_true rfl)) (resVs_cons (ResV.tmp _ _ rfl) resVs_nil)), (pubC rfl), ?_⟩
                                first | (have e := meet_full (lo := lo) (hi := hi) (o := o) (lo1 := lo1) (hi1 := hi1) (o1 := o1) (if_pos hc1) (take_yes (hi := hi) (hi1 := hi1) (o := o) (o1 := o1) (by simp_all [meetTake])).1 (take_yes (hi := hi) (hi1 := hi1) (o := o) (o1 := o1) (by simp_all [meetTake])).2 (by assumption); show _ = AV.tup _; rw [e.1, e.2.1, e.2.2.1, e.2.2.2]; rfl) | (have e := meet_full (lo := lo) (hi := hi) (o := o) (lo1 := lo1) (hi1 := hi1) (o1 := o1) (if_pos hc1) (take_no (hi := hi) (hi1 := hi1) (o := o) (o1 := o1) (by simp_all [meetTake])).1 (take_no (hi := hi) (hi1 := hi1) (o := o) (o1 := o1) (by simp_all [meetTake])).2 (by assumption); show _ = AV.tup _; rw [e.1, e.2.1, e.2.2.1, e.2.2.2]; rfl) | (have e := meet_full (lo := lo) (hi := hi) (o := o) (lo1 := lo1) (hi1 := hi1) (o1 := o1) (if_neg hc1) (take_yes (hi := hi) (hi1 := hi1) (o := o) (o1 := o1) (by simp_all [meetTake])).1 (take_yes (hi := hi) (hi1 := hi1) (o := o) (o1 := o1) (by simp_all [meetTake])).2 (by assumption); show _ = AV.tup _; rw [e.1, e.2.1, e.2.2.1, e.2.2.2]; rfl) | (have e := meet_full (lo := lo) (hi := hi) (o := o) (lo1 := lo1) (hi1 := hi1) (o1 := o1) (if_neg hc1) (take_no (hi := hi) (hi1 := hi1) (o := o) (o1 := o1) (by simp_all [meetTake])).1 (take_no (hi := hi) (hi1 := hi1) (o := o) (o1 := o1) (by simp_all [meetTake])).2 (by assumption); show _ = AV.tup _; rw [e.1, e.2.1, e.2.2.1, e.2.2.2]; rfl) | (have e := meet_empty (lo := lo) (hi := hi) (o := o) (lo1 := lo1) (hi1 := hi1) (o1 := o1) (if_pos hc1) (take_yes (hi := hi) (hi1 := hi1) (o := o) (o1 := o1) (by simp_all [meetTake])).1 (take_yes (hi := hi) (hi1 := hi1) (o := o) (o1 := o1) (by simp_all [meetTake])).2 (by assumption); show _ = AV.tup _; rw [e.1, e.2.1, e.2.2.1, e.2.2.2]; rfl) | (have e := meet_empty (lo := lo) (hi := hi) (o := o) (lo1 := lo1) (hi1 := hi1) (o1 := o1) (if_pos hc1) (take_no (hi := hi) (hi1 := hi1) (o := o) (o1 := o1) (by simp_all [meetTake])).1 (take_no (hi := hi) (hi1 := hi1) (o := o) (o1 := o1) (by simp_all [meetTake])).2 (by assumption); show _ = AV.tup _; rw [e.1, e.2.1, e.2.2.1, e.2.2.2]; rfl) | (have e := meet_empty (lo := lo) (hi := hi) (o := o) (lo1 := lo1) (hi1 := hi1) (o1 := o1) (if_neg hc1) (take_yes (hi := hi) (hi1 := hi1) (o := o) (o1 := o1) (by simp_all [meetTake])).1 (take_yes (hi := hi) (hi1 := hi1) (o := o) (o1 := o1) (by simp_all [meetTake])).2 (by assumption); show _ = AV.tup _; rw [e.1, e.2.1, e.2.2.1, e.2.2.2]; rfl) | (have e := meet_empty (lo := lo) (hi := hi) (o := o) (lo1 := lo1) (hi1 := hi1) (o1 := o1) (if_neg hc1) (take_no (hi := hi) (hi1 := hi1) (o := o) (o1 := o1) (by simp_all [meetTake])).1 (take_no (hi := hi) (hi1 := hi1) (o := o) (o1 := o1) (by simp_all [meetTake])).2 (by assumption); show _ = AV.tup _; rw [e.1, e.2.1, e.2.2.1, e.2.2.2]; rfl)))
                    · replace hc5 := of_decide_eq_false hc5
                      first
                      | (exfalso; first | omega | contradiction)
                      | (
                          refine cskip ?_
                          refine then_normal ?_
                          refine cseq ?_
                          refine cseq ?_
                          refine cregion ?_
                          first | (refine sv rfl (opv_loadN ti24 rfl (.lp _ _ _ rfl) (Nat.le_of_ble_eq_true rfl)) ?_) | (refine sv rfl (opv_loadN ti24 rfl (.cp _) (Nat.le_of_ble_eq_true rfl)) ?_)
                          refine scall1 rfl fn31 (opnds_cons rfl opnds_nil) (pubC rfl) (empty_c) ?_
                          refine snil ?_
                          refine ccond rfl (fun hc7 => ?_) (fun hc7 => ?_)
                          · first
                            | (exfalso; first | omega | contradiction)
                            | (
                                refine cseq ?_
                                refine cregion ?_
                                refine sv rfl (opv_build zi24 pi24 parts_nil (.nil _)) ?_
                                first | (refine sstore sz24 rfl rfl rfl rfl (Nat.le_of_ble_eq_true rfl) ?_) | (refine sstore_ap sz24 rfl rfl rfl (by first | rfl | omega) rfl (List.all_eq_true.1 rfl) (by omega) (by omega) ?_)
                                first | (refine sv rfl (opv_as rfl) ?_) | (refine sv rfl (opv_ast rfl) ?_)
                                refine snil ?_
                                refine cret ?_
                                refine then_ret ?_
                                refine ⟨Or.inr rfl, _, _, _, (resVs_cons (ResV.agg _ _ _ _ _ ti24 rfl (.lp _ _ _ rfl) (Nat.le_of_ble_eq_true rfl)) (resVs_cons (ResV.tmp _ _ rfl) resVs_nil)), (pubC rfl), ?_⟩
                                first | (have e := meet_full (lo := lo) (hi := hi) (o := o) (lo1 := lo1) (hi1 := hi1) (o1 := o1) (if_pos hc1) (take_yes (hi := hi) (hi1 := hi1) (o := o) (o1 := o1) (by simp_all [meetTake])).1 (take_yes (hi := hi) (hi1 := hi1) (o := o) (o1 := o1) (by simp_all [meetTake])).2 (by assumption); show _ = AV.tup _; rw [e.1, e.2.1, e.2.2.1, e.2.2.2]; rfl) | (have e := meet_full (lo := lo) (hi := hi) (o := o) (lo1 := lo1) (hi1 := hi1) (o1 := o1) (if_pos hc1) (take_no (hi := hi) (hi1 := hi1) (o := o) (o1 := o1) (by simp_all [meetTake])).1 (take_no (hi := hi) (hi1 := hi1) (o := o) (o1 := o1) (by simp_all [meetTake])).2 (by assumption); show _ = AV.tup _; rw [e.1, e.2.1, e.2.2.1, e.2.2.2]; rfl) | (have e := meet_full (lo := lo) (hi := hi) (o := o) (lo1 := lo1) (hi1 := hi1) (o1 := o1) (if_neg hc1) (take_yes (hi := hi) (hi1 := hi1) (o := o) (o1 := o1) (by simp_all [meetTake])).1 (take_yes (hi := hi) (hi1 := hi1) (o := o) (o1 := o1) (by simp_all [meetTake])).2 (by assumption); show _ = AV.tup _; rw [e.1, e.2.1, e.2.2.1, e.2.2.2]; rfl) | (have e := meet_full (lo := lo) (hi := hi) (o := o) (lo1 := lo1) (hi1 := hi1) (o1 := o1) (if_neg hc1) (take_no (hi := hi) (hi1 := hi1) (o := o) (o1 := o1) (by simp_all [meetTake])).1 (take_no (hi := hi) (hi1 := hi1) (o := o) (o1 := o1) (by simp_all [meetTake])).2 (by assumption); show _ = AV.tup _; rw [e.1, e.2.1, e.2.2.1, e.2.2.2]; rfl) | (have e := meet_empty (lo := lo) (hi := hi) (o := o) (lo1 := lo1) (hi1 := hi1) (o1 := o1) (if_pos hc1) (take_yes (hi := hi) (hi1 := hi1) (o := o) (o1 := o1) (by simp_all [meetTake])).1 (take_yes (hi := hi) (hi1 := hi1) (o := o) (o1 := o1) (by simp_all [meetTake])).2 (by assumption); show _ = AV.tup _; rw [e.1, e.2.1, e.2.2.1, e.2.2.2]; rfl) | (have e := meet_empty (lo := lo) (hi := hi) (o := o) (lo1 := lo1) (hi1 := hi1) (o1 := o1) (if_pos hc1) (take_no (hi := hi) (hi1 := hi1) (o := o) (o1 := o1) (by simp_all [meetTake])).1 (take_no (hi := hi) (hi1 := hi1) (o := o) (o1 := o1) (by simp_all [meetTake])).2 (by assumption); show _ = AV.tup _; rw [e.1, e.2.1, e.2.2.1, e.2.2.2]; rfl) | (have e := meet_empty (lo := lo) (hi := hi) (o := o) (lo1 := lo1) (hi1 := hi1) (o1 := o1) (if_neg hc1) (take_yes (hi := hi) (hi1 := hi1) (o := o) (o1 := o1) (by simp_all [meetTake])).1 (take_yes (hi := hi) (hi1 := hi1) (o := o) (o1 := o1) (by simp_all [meetTake])).2 (by assumption); show _ = AV.tup _; rw [e.1, e.2.1, e.2.2.1, e.2.2.2]; rfl) | (have e := meet_empty (lo := lo) (hi := hi) (o := o) (lo1 := lo1) (hi1 := hi1) (o1 := o1) (if_neg hc1) (take_no (hi := hi) (hi1 := hi1) (o := o) (o1 := o1) (by simp_all [meetTake])).1 (take_no (hi := hi) (hi1 := hi1) (o := o) (o1 := o1) (by simp_all [meetTake])).2 (by assumption); show _ = AV.tup _; rw [e.1, e.2.1, e.2.2.1, e.2.2.2]; rfl))
                          · first
                            | (exfalso; first | omega | contradiction)
                            | (
                                refine cskip ?_
                                refine then_normal ?_
                                refine cseq ?_
                                refine cregion ?_
                                first | (refine sv rfl (opv_loadN ti24 rfl (.lp _ _ _ rfl) (Nat.le_of_ble_eq_true rfl)) ?_) | (refine sv rfl (opv_loadN ti24 rfl (.cp _) (Nat.le_of_ble_eq_true rfl)) ?_)
                                first | (refine sstore sz24 rfl rfl rfl rfl (Nat.le_of_ble_eq_true rfl) ?_) | (refine sstore_ap sz24 rfl rfl rfl (by first | rfl | omega) rfl (List.all_eq_true.1 rfl) (by omega) (by omega) ?_)
                                first | (refine sv rfl (opv_as rfl) ?_) | (refine sv rfl (opv_ast rfl) ?_)
                                refine snil ?_
                                refine cret ?_
                                refine ⟨Or.inr rfl, _, _, _, (resVs_cons (ResV.agg _ _ _ _ _ ti24 rfl (.lp _ _ _ rfl) (Nat.le_of_ble_eq_true rfl)) (resVs_cons (ResV.tmp _ _ rfl) resVs_nil)), (pubC rfl), ?_⟩
                                first | (have e := meet_full (lo := lo) (hi := hi) (o := o) (lo1 := lo1) (hi1 := hi1) (o1 := o1) (if_pos hc1) (take_yes (hi := hi) (hi1 := hi1) (o := o) (o1 := o1) (by simp_all [meetTake])).1 (take_yes (hi := hi) (hi1 := hi1) (o := o) (o1 := o1) (by simp_all [meetTake])).2 (by assumption); show _ = AV.tup _; rw [e.1, e.2.1, e.2.2.1, e.2.2.2]; rfl) | (have e := meet_full (lo := lo) (hi := hi) (o := o) (lo1 := lo1) (hi1 := hi1) (o1 := o1) (if_pos hc1) (take_no (hi := hi) (hi1 := hi1) (o := o) (o1 := o1) (by simp_all [meetTake])).1 (take_no (hi := hi) (hi1 := hi1) (o := o) (o1 := o1) (by simp_all [meetTake])).2 (by assumption); show _ = AV.tup _; rw [e.1, e.2.1, e.2.2.1, e.2.2.2]; rfl) | (have e := meet_full (lo := lo) (hi := hi) (o := o) (lo1 := lo1) (hi1 := hi1) (o1 := o1) (if_neg hc1) (take_yes (hi := hi) (hi1 := hi1) (o := o) (o1 := o1) (by simp_all [meetTake])).1 (take_yes (hi := hi) (hi1 := hi1) (o := o) (o1 := o1) (by simp_all [meetTake])).2 (by assumption); show _ = AV.tup _; rw [e.1, e.2.1, e.2.2.1, e.2.2.2]; rfl) | (have e := meet_full (lo := lo) (hi := hi) (o := o) (lo1 := lo1) (hi1 := hi1) (o1 := o1) (if_neg hc1) (take_no (hi := hi) (hi1 := hi1) (o := o) (o1 := o1) (by simp_all [meetTake])).1 (take_no (hi := hi) (hi1 := hi1) (o := o) (o1 := o1) (by simp_all [meetTake])).2 (by assumption); show _ = AV.tup _; rw [e.1, e.2.1, e.2.2.1, e.2.2.2]; rfl) | (have e := meet_empty (lo := lo) (hi := hi) (o := o) (lo1 := lo1) (hi1 := hi1) (o1 := o1) (if_pos hc1) (take_yes (hi := hi) (hi1 := hi1) (o := o) (o1 := o1) (by simp_all [meetTake])).1 (take_yes (hi := hi) (hi1 := hi1) (o := o) (o1 := o1) (by simp_all [meetTake])).2 (by assumption); show _ = AV.tup _; rw [e.1, e.2.1, e.2.2.1, e.2.2.2]; rfl) | (have e := meet_empty (lo := lo) (hi := hi) (o := o) (lo1 := lo1) (hi1 := hi1) (o1 := o1) (if_pos hc1) (take_no (hi := hi) (hi1 := hi1) (o := o) (o1 := o1) (by simp_all [meetTake])).1 (take_no (hi := hi) (hi1 := hi1) (o := o) (o1 := o1) (by simp_all [meetTake])).2 (by assumption); show _ = AV.tup _; rw [e.1, e.2.1, e.2.2.1, e.2.2.2]; rfl) | (have e := meet_empty (lo := lo) (hi := hi) (o := o) (lo1 := lo1) (hi1 := hi1) (o1 := o1) (if_neg hc1) (take_yes (hi := hi) (hi1 := hi1) (o := o) (o1 := o1) (by simp_all [meetTake])).1 (take_yes (hi := hi) (hi1 := hi1) (o := o) (o1 := o1) (by simp_all [meetTake])).2 (by assumption); show _ = AV.tup _; rw [e.1, e.2.1, e.2.2.1, e.2.2.2]; rfl) | (have e := meet_empty (lo := lo) (hi := hi) (o := o) (lo1 := lo1) (hi1 := hi1) (o1 := o1) (if_neg hc1) (take_no (hi := hi) (hi1 := hi1) (o := o) (o1 := o1) (by simp_all [meetTake])).1 (take_no (hi := hi) (hi1 := hi1) (o := o) (o1 := o1) (by simp_all [meetTake])).2 (by assumption); show _ = AV.tup _; rw [e.1, e.2.1, e.2.2.1, e.2.2.2]; rfl)))))
        · replace hg2 := bnot_f hg2
          first
          | (exfalso; first | omega | contradiction)
          | (
              refine soff rfl rfl rfl rfl ?_
              refine soff rfl rfl rfl rfl ?_
              refine soff rfl rfl rfl rfl ?_
              refine soffu rfl rfl rfl ?_
              refine soffu rfl rfl rfl ?_
              refine soffu rfl rfl rfl ?_
              refine soffu rfl rfl rfl ?_
              refine soffu rfl rfl rfl ?_
              refine soffu rfl rfl rfl ?_
              refine soff rfl rfl rfl rfl ?_
              first | (refine sv rfl (opv_pick_t rfl rfl) ?_) | (refine sv rfl (opv_pick_f rfl rfl) ?_)
              refine snil ?_
              refine ccond rfl (fun hx => Bool.noConfusion hx) (fun _ => ?_)
              refine cskip ?_
              refine then_normal ?_
              refine cseq ?_
              refine cseq ?_
              refine cregion ?_
              first | (refine sv rfl (opv_loadN ti24 rfl (.lp _ _ _ rfl) (Nat.le_of_ble_eq_true rfl)) ?_) | (refine sv rfl (opv_loadN ti24 rfl (.cp _) (Nat.le_of_ble_eq_true rfl)) ?_)
              refine scall1 rfl fn31 (opnds_cons rfl opnds_nil) (pubC rfl) (empty_c) ?_
              refine snil ?_
              refine ccond rfl (fun hc8 => ?_) (fun hc8 => ?_)
              · first
                | (exfalso; first | omega | contradiction)
                | (
                    refine cseq ?_
                    refine cregion ?_
                    refine sv rfl (opv_build zi24 pi24 parts_nil (.nil _)) ?_
                    first | (refine sstore sz24 rfl rfl rfl rfl (Nat.le_of_ble_eq_true rfl) ?_) | (refine sstore_ap sz24 rfl rfl rfl (by first | rfl | omega) rfl (List.all_eq_true.1 rfl) (by omega) (by omega) ?_)
                    first | (refine sv rfl (opv_as rfl) ?_) | (refine sv rfl (opv_ast rfl) ?_)
                    refine snil ?_
                    refine cret ?_
                    refine then_ret ?_
                    refine ⟨Or.inr rfl, _, _, _, (resVs_cons (ResV.agg _ _ _ _ _ ti24 rfl (.lp _ _ _ rfl) (Nat.le_of_ble_eq_true rfl)) (resVs_cons (ResV.tmp _ _ rfl) resVs_nil)), (pubC rfl), ?_⟩
                    first | (have e := meet_full (lo := lo) (hi := hi) (o := o) (lo1 := lo1) (hi1 := hi1) (o1 := o1) (if_pos hc1) (take_yes (hi := hi) (hi1 := hi1) (o := o) (o1 := o1) (by simp_all [meetTake])).1 (take_yes (hi := hi) (hi1 := hi1) (o := o) (o1 := o1) (by simp_all [meetTake])).2 (by assumption); show _ = AV.tup _; rw [e.1, e.2.1, e.2.2.1, e.2.2.2]; rfl) | (have e := meet_full (lo := lo) (hi := hi) (o := o) (lo1 := lo1) (hi1 := hi1) (o1 := o1) (if_pos hc1) (take_no (hi := hi) (hi1 := hi1) (o := o) (o1 := o1) (by simp_all [meetTake])).1 (take_no (hi := hi) (hi1 := hi1) (o := o) (o1 := o1) (by simp_all [meetTake])).2 (by assumption); show _ = AV.tup _; rw [e.1, e.2.1, e.2.2.1, e.2.2.2]; rfl) | (have e := meet_full (lo := lo) (hi := hi) (o := o) (lo1 := lo1) (hi1 := hi1) (o1 := o1) (if_neg hc1) (take_yes (hi := hi) (hi1 := hi1) (o := o) (o1 := o1) (by simp_all [meetTake])).1 (take_yes (hi := hi) (hi1 := hi1) (o := o) (o1 := o1) (by simp_all [meetTake])).2 (by assumption); show _ = AV.tup _; rw [e.1, e.2.1, e.2.2.1, e.2.2.2]; rfl) | (have e := meet_full (lo := lo) (hi := hi) (o := o) (lo1 := lo1) (hi1 := hi1) (o1 := o1) (if_neg hc1) (take_no (hi := hi) (hi1 := hi1) (o := o) (o1 := o1) (by simp_all [meetTake])).1 (take_no (hi := hi) (hi1 := hi1) (o := o) (o1 := o1) (by simp_all [meetTake])).2 (by assumption); show _ = AV.tup _; rw [e.1, e.2.1, e.2.2.1, e.2.2.2]; rfl) | (have e := meet_empty (lo := lo) (hi := hi) (o := o) (lo1 := lo1) (hi1 := hi1) (o1 := o1) (if_pos hc1) (take_yes (hi := hi) (hi1 := hi1) (o := o) (o1 := o1) (by simp_all [meetTake])).1 (take_yes (hi := hi) (hi1 := hi1) (o := o) (o1 := o1) (by simp_all [meetTake])).2 (by assumption); show _ = AV.tup _; rw [e.1, e.2.1, e.2.2.1, e.2.2.2]; rfl) | (have e := meet_empty (lo := lo) (hi := hi) (o := o) (lo1 := lo1) (hi1 := hi1) (o1 := o1) (if_pos hc1) (take_no (hi := hi) (hi1 := hi1) (o := o) (o1 := o1) (by simp_all [meetTake])).1 (take_no (hi := hi) (hi1 := hi1) (o := o) (o1 := o1) (by simp_all [meetTake])).2 (by assumption); show _ = AV.tup _; rw [e.1, e.2.1, e.2.2.1, e.2.2.2]; rfl) | (have e := meet_empty (lo := lo) (hi := hi) (o := o) (lo1 := lo1) (hi1 := hi1) (o1 := o1) (if_neg hc1) (take_yes (hi := hi) (hi1 := hi1) (o := o) (o1 := o1) (by simp_all [meetTake])).1 (take_yes (hi := hi) (hi1 := hi1) (o := o) (o1 := o1) (by simp_all [meetTake])).2 (by assumption); show _ = AV.tup _; rw [e.1, e.2.1, e.2.2.1, e.2.2.2]; rfl) | (have e := meet_empty (lo := lo) (hi := hi) (o := o) (lo1 := lo1) (hi1 := hi1) (o1 := o1) (if_neg hc1) (take_no (hi := hi) (hi1 := hi1) (o := o) (o1 := o1) (by simp_all [meetTake])).1 (take_no (hi := hi) (hi1 := hi1) (o := o) (o1 := o1) (by simp_all [meetTake])).2 (by assumption); show _ = AV.tup _; rw [e.1, e.2.1, e.2.2.1, e.2.2.2]; rfl))
              · first
                | (exfalso; first | omega | contradiction)
                | (
                    refine cskip ?_
                    refine then_normal ?_
                    refine cseq ?_
                    refine cregion ?_
                    first | (refine sv rfl (opv_loadN ti24 rfl (.lp _ _ _ rfl) (Nat.le_of_ble_eq_true rfl)) ?_) | (refine sv rfl (opv_loadN ti24 rfl (.cp _) (Nat.le_of_ble_eq_true rfl)) ?_)
                    first | (refine sstore sz24 rfl rfl rfl rfl (Nat.le_of_ble_eq_true rfl) ?_) | (refine sstore_ap sz24 rfl rfl rfl (by first | rfl | omega) rfl (List.all_eq_true.1 rfl) (by omega) (by omega) ?_)
                    first | (refine sv rfl (opv_as rfl) ?_) | (refine sv rfl (opv_ast rfl) ?_)
                    refine snil ?_
                    refine cret ?_
                    refine ⟨Or.inr rfl, _, _, _, (resVs_cons (ResV.agg _ _ _ _ _ ti24 rfl (.lp _ _ _ rfl) (Nat.le_of_ble_eq_true rfl)) (resVs_cons (ResV.tmp _ _ rfl) resVs_nil)), (pubC rfl), ?_⟩
                    first | (have e := meet_full (lo := lo) (hi := hi) (o := o) (lo1 := lo1) (hi1 := hi1) (o1 := o1) (if_pos hc1) (take_yes (hi := hi) (hi1 := hi1) (o := o) (o1 := o1) (by simp_all [meetTake])).1 (take_yes (hi := hi) (hi1 := hi1) (o := o) (o1 := o1) (by simp_all [meetTake])).2 (by assumption); show _ = AV.tup _; rw [e.1, e.2.1, e.2.2.1, e.2.2.2]; rfl) | (have e := meet_full (lo := lo) (hi := hi) (o := o) (lo1 := lo1) (hi1 := hi1) (o1 := o1) (if_pos hc1) (take_no (hi := hi) (hi1 := hi1) (o := o) (o1 := o1) (by simp_all [meetTake])).1 (take_no (hi := hi) (hi1 := hi1) (o := o) (o1 := o1) (by simp_all [meetTake])).2 (by assumption); show _ = AV.tup _; rw [e.1, e.2.1, e.2.2.1, e.2.2.2]; rfl) | (have e := meet_full (lo := lo) (hi := hi) (o := o) (lo1 := lo1) (hi1 := hi1) (o1 := o1) (if_neg hc1) (take_yes (hi := hi) (hi1 := hi1) (o := o) (o1 := o1) (by simp_all [meetTake])).1 (take_yes (hi := hi) (hi1 := hi1) (o := o) (o1 := o1) (by simp_all [meetTake])).2 (by assumption); show _ = AV.tup _; rw [e.1, e.2.1, e.2.2.1, e.2.2.2]; rfl) | (have e := meet_full (lo := lo) (hi := hi) (o := o) (lo1 := lo1) (hi1 := hi1) (o1 := o1) (if_neg hc1) (take_no (hi := hi) (hi1 := hi1) (o := o) (o1 := o1) (by simp_all [meetTake])).1 (take_no (hi := hi) (hi1 := hi1) (o := o) (o1 := o1) (by simp_all [meetTake])).2 (by assumption); show _ = AV.tup _; rw [e.1, e.2.1, e.2.2.1, e.2.2.2]; rfl) | (have e := meet_empty (lo := lo) (hi := hi) (o := o) (lo1 := lo1) (hi1 := hi1) (o1 := o1) (if_pos hc1) (take_yes (hi := hi) (hi1 := hi1) (o := o) (o1 := o1) (by simp_all [meetTake])).1 (take_yes (hi := hi) (hi1 := hi1) (o := o) (o1 := o1) (by simp_all [meetTake])).2 (by assumption); show _ = AV.tup _; rw [e.1, e.2.1, e.2.2.1, e.2.2.2]; rfl) | (have e := meet_empty (lo := lo) (hi := hi) (o := o) (lo1 := lo1) (hi1 := hi1) (o1 := o1) (if_pos hc1) (take_no (hi := hi) (hi1 := hi1) (o := o) (o1 := o1) (by simp_all [meetTake])).1 (take_no (hi := hi) (hi1 := hi1) (o := o) (o1 := o1) (by simp_all [meetTake])).2 (by assumption); show _ = AV.tup _; rw [e.1, e.2.1, e.2.2.1, e.2.2.2]; rfl) | (have e := meet_empty (lo := lo) (hi := hi) (o := o) (lo1 := lo1) (hi1 := hi1) (o1 := o1) (if_neg hc1) (take_yes (hi := hi) (hi1 := hi1) (o := o) (o1 := o1) (by simp_all [meetTake])).1 (take_yes (hi := hi) (hi1 := hi1) (o := o) (o1 := o1) (by simp_all [meetTake])).2 (by assumption); show _ = AV.tup _; rw [e.1, e.2.1, e.2.2.1, e.2.2.2]; rfl) | (have e := meet_empty (lo := lo) (hi := hi) (o := o) (lo1 := lo1) (hi1 := hi1) (o1 := o1) (if_neg hc1) (take_no (hi := hi) (hi1 := hi1) (o := o) (o1 := o1) (by simp_all [meetTake])).1 (take_no (hi := hi) (hi1 := hi1) (o := o) (o1 := o1) (by simp_all [meetTake])).2 (by assumption); show _ = AV.tup _; rw [e.1, e.2.1, e.2.2.1, e.2.2.2]; rfl))))
  · replace hc1 := of_decide_eq_false hc1
    first
    | (exfalso; first | omega | contradiction)
    | (
        refine cskip ?_
        refine then_normal ?_
        refine cseq ?_
        refine cseq ?_
        refine cregion ?_
        first | (refine sv rfl (opv_fieldAddr_lp fi24_2 rfl) ?_) | (refine sv rfl (opv_fieldAddr_cp fi24_2 rfl) ?_) | (refine sv rfl (opv_fieldAddr_ap fi24_2 rfl rfl (by first | rfl | omega)) ?_)
        first | (refine sv rfl (opv_load1 ti4 rfl (.lp _ _ _ rfl) rfl) ?_) | (refine sv rfl (opv_load1 ti4 rfl (.cp _) rfl) ?_) | (refine sv rfl (opv_load1 ti4 rfl (.ap _ _ _ _ _ _ _ rfl (by first | rfl | omega)) rfl) ?_)
        refine sv rfl (opv_not rfl) ?_
        first | (refine sv rfl (opv_mv rfl) ?_) | (refine sv rfl (opv_mvt rfl) ?_)
        refine ssplit 20 rfl (fun hg9 => ?_) (fun hg9 => ?_)
        · replace hg9 := bnot_t hg9
          first
          | (exfalso; first | omega | contradiction)
          | (
              refine son rfl rfl rfl ?_
              first | (refine sv rfl (opv_fieldAddr_lp fi24_2 rfl) ?_) | (refine sv rfl (opv_fieldAddr_cp fi24_2 rfl) ?_) | (refine sv rfl (opv_fieldAddr_ap fi24_2 rfl rfl (by first | rfl | omega)) ?_)
              refine son rfl rfl rfl ?_
              first | (refine sv rfl (opv_load1 ti4 rfl (.lp _ _ _ rfl) rfl) ?_) | (refine sv rfl (opv_load1 ti4 rfl (.cp _) rfl) ?_) | (refine sv rfl (opv_load1 ti4 rfl (.ap _ _ _ _ _ _ _ rfl (by first | rfl | omega)) rfl) ?_)
              refine son rfl rfl rfl ?_
              first | (refine sv rfl (opv_mv rfl) ?_) | (refine sv rfl (opv_mvt rfl) ?_)
              refine ssplit 23 rfl (fun hg10 => ?_) (fun hg10 => ?_)
              · first
                | (exfalso; first | omega | contradiction)
                | (
                    refine soff rfl rfl rfl rfl ?_
                    refine soff rfl rfl rfl rfl ?_
                    refine soff rfl rfl rfl rfl ?_
                    refine soff rfl rfl rfl rfl ?_
                    refine soff rfl rfl rfl rfl ?_
                    refine soff rfl rfl rfl rfl ?_
                    refine son rfl rfl rfl ?_
                    first | (refine sv rfl (opv_pick_t rfl rfl) ?_) | (refine sv rfl (opv_pick_f rfl rfl) ?_)
                    first | (refine sv rfl (opv_pick_t rfl rfl) ?_) | (refine sv rfl (opv_pick_f rfl rfl) ?_)
                    refine snil ?_
                    refine ccond rfl (fun _ => ?_) (fun hx => Bool.noConfusion hx)
                    refine cregion ?_
                    first | (refine sv rfl (opv_fieldAddr_lp fi24_1 rfl) ?_) | (refine sv rfl (opv_fieldAddr_cp fi24_1 rfl) ?_) | (refine sv rfl (opv_fieldAddr_ap fi24_1 rfl rfl (by first | rfl | omega)) ?_)
                    first | (refine sv rfl (opv_load1 ti22 rfl (.lp _ _ _ rfl) rfl) ?_) | (refine sv rfl (opv_load1 ti22 rfl (.cp _) rfl) ?_) | (refine sv rfl (opv_load1 ti22 rfl (.ap _ _ _ _ _ _ _ rfl (by first | rfl | omega)) rfl) ?_)
                    first | (refine sv rfl (opv_fieldAddr_lp fi24_1 rfl) ?_) | (refine sv rfl (opv_fieldAddr_cp fi24_1 rfl) ?_) | (refine sv rfl (opv_fieldAddr_ap fi24_1 rfl rfl (by first | rfl | omega)) ?_)
                    first | (refine sstore sz22 rfl rfl rfl rfl (Nat.le_of_ble_eq_true rfl) ?_) | (refine sstore_ap sz22 rfl rfl rfl (by first | rfl | omega) rfl (List.all_eq_true.1 rfl) (by omega) (by omega) ?_)
                    first | (refine sv rfl (opv_fieldAddr_lp fi24_2 rfl) ?_) | (refine sv rfl (opv_fieldAddr_cp fi24_2 rfl) ?_) | (refine sv rfl (opv_fieldAddr_ap fi24_2 rfl rfl (by first | rfl | omega)) ?_)
                    first | (refine sstore sz4 rfl rfl rfl rfl (Nat.le_of_ble_eq_true rfl) ?_) | (refine sstore_ap sz4 rfl rfl rfl (by first | rfl | omega) rfl (List.all_eq_true.1 rfl) (by omega) (by omega) ?_)
                    refine snil ?_
                    refine cseq ?_
                    refine cseq ?_
                    refine cregion ?_
                    first | (refine sv rfl (opv_loadN ti24 rfl (.lp _ _ _ rfl) (Nat.le_of_ble_eq_true rfl)) ?_) | (refine sv rfl (opv_loadN ti24 rfl (.cp _) (Nat.le_of_ble_eq_true rfl)) ?_)
                    refine scall1 rfl fn31 (opnds_cons rfl opnds_nil) (pubC rfl) (empty_c) ?_
                    refine snil ?_
                    refine ccond rfl (fun hc11 => ?_) (fun hc11 => ?_)
                    · first
                      | (exfalso; first | omega | contradiction)
                      | (
                          refine cseq ?_
                          refine cregion ?_
                          refine sv rfl (opv_build zi24 pi24 parts_nil (.nil _)) ?_
                          first | (refine sstore sz24 rfl rfl rfl rfl (Nat.le_of_ble_eq_true rfl) ?_) | (refine sstore_ap sz24 rfl rfl rfl (by first | rfl | omega) rfl (List.all_eq_true.1 rfl) (by omega) (by omega) ?_)
                          first | (refine sv rfl (opv_as rfl) ?_) | (refine sv rfl (opv_ast rfl) ?_)
                          refine snil ?_
                          refine cret ?_
                          refine then_ret ?_
                          refine ⟨Or.inr rfl, _, _, _, (resVs_cons (ResV.agg _ _ _ _ _ ti24 rfl (.lp _ _ _ rfl) (Nat.le_of_ble_eq_true rfl)) (resVs_cons (ResV.tmp _ _ rfl) resVs_nil)), (pubC rfl), ?_⟩
                          first | (have e := meet_full (lo := lo) (hi := hi) (o := o) (lo1 := lo1) (hi1 := hi1) (o1 := o1) (if_pos hc1) (take_yes (hi := hi) (hi1 := hi1) (o := o) (o1 := o1) (by simp_all [meetTake])).1 (take_yes (hi := hi) (hi1 := hi1) (o := o) (o1 := o1) (by simp_all [meetTake])).2 (by assumption); show _ = AV.tup _; rw [e.1, e.2.1, e.2.2.1, e.2.2.2]; rfl) | (have e := meet_full (lo := lo) (hi := hi) (o := o) (lo1 := lo1) (hi1 := hi1) (o1 := o1) (if_pos hc1) (take_no (hi := hi) (hi1 := hi1) (o := o) (o1 := o1) (by simp_all [meetTake])).1 (take_no (hi := hi) (hi1 := hi1) (o := o) (o1 := o1) (by simp_all [meetTake])).2 (by assumption); show _ = AV.tup _; rw [e.1, e.2.1, e.2.2.1, e.2.2.2]; rfl) | (have e := meet_full (lo := lo) (hi := hi) (o := o) (lo1 := lo1) (hi1 := hi1) (o1 := o1) (if_neg hc1) (take_yes (hi := hi) (hi1 := hi1) (o := o) (o1 := o1) (by simp_all [meetTake])).1 (take_yes (hi := hi) (hi1 := hi1) (o := o) (o1 := o1) (by simp_all [meetTake])).2 (by assumption); show _ = AV.tup _; rw [e.1, e.2.1, e.2.2.1, e.2.2.2]; rfl) | (have e := meet_full (lo := lo) (hi := hi) (o := o) (lo1 := lo1) (hi1 := hi1) (o1 := o1) (if_neg hc1) (take_no (hi := hi) (hi1 := hi1) (o := o) (o1 := o1) (by simp_all [meetTake])).1 (take_no (hi := hi) (hi1 := hi1) (o := o) (o1 := o1) (by simp_all [meetTake])).2 (by assumption); show _ = AV.tup _; rw [e.1, e.2.1, e.2.2.1, e.2.2.2]; rfl) | (have e := meet_empty (lo := lo) (hi := hi) (o := o) (lo1 := lo1) (hi1 := hi1) (o1 := o1) (if_pos hc1) (take_yes (hi := hi) (hi1 := hi1) (o := o) (o1 := o1) (by simp_all [meetTake])).1 (take_yes (hi := hi) (hi1 := hi1) (o := o) (o1 := o1) (by simp_all [meetTake])).2 (by assumption); show _ = AV.tup _; rw [e.1, e.2.1, e.2.2.1, e.2.2.2]; rfl) | (have e := meet_empty (lo := lo) (hi := hi) (o := o) (lo1 := lo1) (hi1 := hi1) (o1 := o1) (if_pos hc1) (take_no (hi := hi) (hi1 := hi1) (o := o) (o1 := o1) (by simp_all [meetTake])).1 (take_no (hi := hi) (hi1 := hi1) (o := o) (o1 := o1) (by simp_all [meetTake])).2 (by assumption); show _ = AV.tup _; rw [e.1, e.2.1, e.2.2.1, e.2.2.2]; rfl) | (have e := meet_empty (lo := lo) (hi := hi) (o := o) (lo1 := lo1) (hi1 := hi1) (o1 := o1) (if_neg hc1) (take_yes (hi := hi) (hi1 := hi1) (o := o) (o1 := o1) (by simp_all [meetTake])).1 (take_yes (hi := hi) (hi1 := hi1) (o := o) (o1 := o1) (by simp_all [meetTake])).2 (by assumption); show _ = AV.tup _; rw [e.1, e.2.1, e.2.2.1, e.2.2.2]; rfl) | (have e := meet_empty (lo := lo) (hi := hi) (o := o) (lo1 := lo1) (hi1 := hi1) (o1 := o1) (if_neg hc1) (take_no (hi := hi) (hi1 := hi1) (o := o) (o1 := o1) (by simp_all [meetTake])).1 (take_no (hi := hi) (hi1 := hi1) (o := o) (o1 := o1) (by simp_all [meetTake])).2 (by assumption); show _ = AV.tup _; rw [e.1, e.2.1, e.2.2.1, e.2.2.2]; rfl))
                    · first
                      | (exfalso; first | omega | contradiction)
                      | (
                          refine cskip ?_
                          refine then_normal ?_
                          refine cseq ?_
                          refine cregion ?_
                          first | (refine sv rfl (opv_loadN ti24 rfl (.lp _ _ _ rfl) (Nat.le_of_ble_eq_true rfl)) ?_) | (refine sv rfl (opv_loadN ti24 rfl (.cp _) (Nat.le_of_ble_eq_true rfl)) ?_)
                          first | (refine sstore sz24 rfl rfl rfl rfl (Nat.le_of_ble_eq_true rfl) ?_) | (refine sstore_ap sz24 rfl rfl rfl (by first | rfl | omega) rfl (List.all_eq_true.1 rfl) (by omega) (by omega) ?_)
                          first | (refine sv rfl (opv_as rfl) ?_) | (refine sv rfl (opv_ast rfl) ?_)
                          refine snil ?_
                          refine cret ?_
                          refine ⟨Or.inr rfl, _, _, _, (resVs_cons (ResV.agg _ _ _ _ _ ti24 rfl (.lp _ _ _ rfl) (Nat.le_of_ble_eq_true rfl)) (resVs_cons (ResV.tmp _ _ rfl) resVs_nil)), (pubC rfl), ?_⟩
                          first | (have e := meet_full (lo := lo) (hi := hi) (o := o) (lo1 := lo1) (hi1 := hi1) (o1 := o1) (if_pos hc1) (take_yes (hi := hi) (hi1 := hi1) (o := o) (o1 := o1) (by simp_all [meetTake])).1 (take_yes (hi := hi) (hi1 := hi1) (o := o) (o1 := o1) (by simp_all [meetTake])).2 (by assumption); show _ = AV.tup _; rw [e.1, e.2.1, e.2.2.1, e.2.2.2]; rfl) | (have e := meet_full (lo := lo) (hi := hi) (o := o) (lo1 := lo1) (hi1 := hi1) (o1 := o1) (if_pos hc1) (take_no (hi := hi) (hi1 := hi1) (o := o) (o1 := o1) (by simp_all [meetTake])).1 (take_no (hi := hi) (hi1 := hi1) (o := o) (o1 := o1) (by simp_all [meetTake])).2 (by assumption); show _ = AV.tup _; rw [e.1, e.2.1, e.2.2.1, e.2.2.2]; rfl) | (have e := meet_full (lo := lo) (hi := hi) (o := o) (lo1 := lo1) (hi1 := hi1) (o1 := o1) (if_neg hc1) (take_yes (hi := hi) (hi1 := hi1) (o := o) (o1 := o1) (by simp_all [meetTake])).1 (take_yes (hi := hi) (hi1 := hi1) (o := o) (o1 := o1) (by simp_all [meetTake])).2 (by assumption); show _ = AV.tup _; rw [e.1, e.2.1, e.2.2.1, e.2.2.2]; rfl) | (have e := meet_full (lo := lo) (hi := hi) (o := o) (lo1 := lo1) (hi1 := hi1) (o1 := o1) (if_neg hc1) (take_no (hi := hi) (hi1 := hi1) (o := o) (o1 := o1) (by simp_all [meetTake])).1 (take_no (hi := hi) (hi1 := hi1) (o := o) (o1 := o1) (by simp_all [meetTake])).2 (by assumption); show _ = AV.tup _; rw [e.1, e.2.1, e.2.2.1, e.2.2.2]; rfl) | (have e := meet_empty (lo := lo) (hi := hi) (o := o) (lo1 := lo1) (hi1 := hi1) (o1 := o1) (if_pos hc1) (take_yes (hi := hi) (hi1 := hi1) (o := o) (o1 := o1) (by simp_all [meetTake])).1 (take_yes (hi := hi) (hi1 := hi1) (o := o) (o1 := o1) (by simp_all [meetTake])).2 (by assumption); show _ = AV.tup _; rw [e.1, e.2.1, e.2.2.1, e.2.2.2]; rfl) | (have e := meet_empty (lo := lo) (hi := hi) (o := o) (lo1 := lo1) (hi1 := hi1) (o1 := o1) (if_pos hc1) (take_no (hi := hi) (hi1 := hi1) (o := o) (o1 := o1) (by simp_all [meetTake])).1 (take_no (hi := hi) (hi1 := hi1) (o := o) (o1 := o1) (by simp_all [meetTake])).2 (by assumption); show _ = AV.tup _; rw [e.1, e.2.1, e.2.2.1, e.2.2.2]; rfl) | (have e := meet_empty (lo := lo) (hi := hi) (o := o) (lo1 := lo1) (hi1 := hi1) (o1 := o1) (if_neg hc1) (take_yes (hi := hi) (hi1 := hi1) (o := o) (o1 := o1) (by simp_all [meetTake])).1 (take_yes (hi := hi) (hi1 := hi1) (o := o) (o1 := o1) (by simp_all [meetTake])).2 (by assumption); show _ = AV.tup _; rw [e.1, e.2.1, e.2.2.1, e.2.2.2]; rfl) | (have e := meet_empty (lo := lo) (hi := hi) (o := o) (lo1 := lo1) (hi1 := hi1) (o1 := o1) (if_neg hc1) (take_no (hi := hi) (hi1 := hi1) (o := o) (o1 := o1) (by simp_all [meetTake])).1 (take_no (hi := hi) (hi1 := hi1) (o := o) (o1 := o1) (by simp_all [meetTake])).2 (by assumption); show _ = AV.tup _; rw [e.1, e.2.1, e.2.2.1, e.2.2.2]; rfl)))
              · first
                | (exfalso; first | omega | contradiction)
                | (
                    refine son rfl rfl rfl ?_
                    first | (refine sv rfl (opv_fieldAddr_lp fi24_1 rfl) ?_) | (refine sv rfl (opv_fieldAddr_cp fi24_1 rfl) ?_) | (refine sv rfl (opv_fieldAddr_ap fi24_1 rfl rfl (by first | rfl | omega)) ?_)
                    refine son rfl rfl rfl ?_
                    first | (refine sv rfl (opv_load1 ti22 rfl (.lp _ _ _ rfl) rfl) ?_) | (refine sv rfl (opv_load1 ti22 rfl (.cp _) rfl) ?_) | (refine sv rfl (opv_load1 ti22 rfl (.ap _ _ _ _ _ _ _ rfl (by first | rfl | omega)) rfl) ?_)
                    refine son rfl rfl rfl ?_
                    first | (refine sv rfl (opv_fieldAddr_lp fi24_1 rfl) ?_) | (refine sv rfl (opv_fieldAddr_cp fi24_1 rfl) ?_) | (refine sv rfl (opv_fieldAddr_ap fi24_1 rfl rfl (by first | rfl | omega)) ?_)
                    refine son rfl rfl rfl ?_
                    first | (refine sv rfl (opv_load1 ti22 rfl (.lp _ _ _ rfl) rfl) ?_) | (refine sv rfl (opv_load1 ti22 rfl (.cp _) rfl) ?_) | (refine sv rfl (opv_load1 ti22 rfl (.ap _ _ _ _ _ _ _ rfl (by first | rfl | omega)) rfl) ?_)
                    refine son rfl rfl rfl ?_
                    refine scall1 rfl fn23 (opnds_cons rfl (opnds_cons rfl opnds_nil)) (pubC rfl) (cmp_c) ?_
                    refine son rfl rfl rfl ?_
                    refine sv rfl (opv_lss rfl rfl) ?_
                    refine son rfl rfl rfl ?_
                    first | (refine sv rfl (opv_pick_t rfl rfl) ?_) | (refine sv rfl (opv_pick_f rfl rfl) ?_)
                    first | (refine sv rfl (opv_pick_t rfl rfl) ?_) | (refine sv rfl (opv_pick_f rfl rfl) ?_)
                    refine snil ?_
                    refine ccond rfl (fun hc12 => ?_) (fun hc12 => ?_)
                    · replace hc12 := of_decide_eq_true hc12
                      first
                      | (exfalso; first | omega | contradiction)
                      | (
                          refine cregion ?_
                          first | (refine sv rfl (opv_fieldAddr_lp fi24_1 rfl) ?_) | (refine sv rfl (opv_fieldAddr_cp fi24_1 rfl) ?_) | (refine sv rfl (opv_fieldAddr_ap fi24_1 rfl rfl (by first | rfl | omega)) ?_)
                          first | (refine sv rfl (opv_load1 ti22 rfl (.lp _ _ _ rfl) rfl) ?_) | (refine sv rfl (opv_load1 ti22 rfl (.cp _) rfl) ?_) | (refine sv rfl (opv_load1 ti22 rfl (.ap _ _ _ _ _ _ _ rfl (by first | rfl | omega)) rfl) ?_)
                          first | (refine sv rfl (opv_fieldAddr_lp fi24_1 rfl) ?_) | (refine sv rfl (opv_fieldAddr_cp fi24_1 rfl) ?_) | (refine sv rfl (opv_fieldAddr_ap fi24_1 rfl rfl (by first | rfl | omega)) ?_)
                          first | (refine sstore sz22 rfl rfl rfl rfl (Nat.le_of_ble_eq_true rfl) ?_) | (refine sstore_ap sz22 rfl rfl rfl (by first | rfl | omega) rfl (List.all_eq_true.1 rfl) (by omega) (by omega) ?_)
                          first | (refine sv rfl (opv_fieldAddr_lp fi24_2 rfl) ?_) | (refine sv rfl (opv_fieldAddr_cp fi24_2 rfl) ?_) | (refine sv rfl (opv_fieldAddr_ap fi24_2 rfl rfl (by first | rfl | omega)) ?_)
                          first | (refine sstore sz4 rfl rfl rfl rfl (Nat.le_of_ble_eq_true rfl) ?_) | (refine sstore_ap sz4 rfl rfl rfl (by first | rfl | omega) rfl (List.all_eq_true.1 rfl) (by omega) (by omega) ?_)
                          refine snil ?_
                          refine cseq ?_
                          refine cseq ?_
                          refine cregion ?_
                          first | (refine sv rfl (opv_loadN ti24 rfl (.lp _ _ _ rfl) (Nat.le_of_ble_eq_true rfl)) ?_) | (refine sv rfl (opv_loadN ti24 rfl (.cp _) (Nat.le_of_ble_eq_true rfl)) ?_)
                          refine scall1 rfl fn31 (opnds_cons rfl opnds_nil) (pubC rfl) (empty_c) ?_
                          refine snil ?_
                          refine ccond rfl (fun hc13 => ?_) (fun hc13 => ?_)
                          · first
                            | (exfalso; first | omega | contradiction)
                            | (
                                refine cseq ?_
                                refine cregion ?_
                                refine sv rfl (opv_build zi24 pi24 parts_nil (.nil _)) ?_
                                first | (refine sstore sz24 rfl rfl rfl rfl (Nat.le_of_ble_eq_true rfl) ?_) | (refine sstore_ap sz24 rfl rfl rfl (by first | rfl | omega) rfl (List.all_eq_true.1 rfl) (by omega) (by omega) ?_)
                                first | (refine sv rfl (opv_as rfl) ?_) | (refine sv rfl (opv_ast rfl) ?_)
                                refine snil ?_
                                refine cret ?_
                                refine then_ret ?_
                                refine ⟨Or.inr rfl, _, _, _, (resVs_cons (ResV.agg _ _ _ _ _ ti24 rfl (.lp _ _ _ rfl) (Nat.le_of_ble_eq_true rfl)) (resVs_cons (ResV.tmp _ _ rfl) resVs_nil)), (pubC rfl), ?_⟩
                                first | (have e := meet_full (lo := lo) (hi := hi) (o := o) (lo1 := lo1) (hi1 := hi1) (o1 := o1) (if_pos hc1) (take_yes (hi := hi) (hi1 := hi1) (o := o) (o1 := o1) (by simp_all [meetTake])).1 (take_yes (hi := hi) (hi1 := hi1) (o := o) (o1 := o1) (by simp_all [meetTake])).2 (by assumption); show _ = AV.tup _; rw [e.1, e.2.1, e.2.2.1, e.2.2.2]; rfl) | (have e := meet_full (lo := lo) (hi := hi) (o := o) (lo1 := lo1) (hi1 := hi1) (o1 := o1) (if_pos hc1) (take_no (hi := hi) (hi1 := hi1) (o := o) (o1 := o1) (by simp_all [meetTake])).1 (take_no (hi := hi) (hi1 := hi1) (o := o) (o1 := o1) (by simp_all [meetTake])).2 (by assumption); show _ = AV.tup _; rw [e.1, e.2.1, e.2.2.1, e.2.2.2]; rfl) | (have e := meet_full (lo := lo) (hi := hi) (o := o) (lo1 := lo1) (hi1 := hi1) (o1 := o1) (if_neg hc1) (take_yes (hi := hi) (hi1 := hi1) (o := o) (o1 := o1) (by simp_all [meetTake])).1 (take_yes (hi := hi) (hi1 := hi1) (o := o) (o1 := o1) (by simp_all [meetTake])).2 (by assumption); show _ = AV.tup _; rw [e.1, e.2.1, e.2.2.1, e.2.2.2]; rfl) | (have e := meet_full (lo := lo) (hi := hi) (o := o) (lo1 := lo1) (hi1 := hi1) (o1 := o1) (if_neg hc1) (take_no (hi := hi) (hi1 := hi1) (o := o) (o1 := o1) (by simp_all [meetTake])).1 (take_no (hi := hi) (hi1 := hi1) (o := o) (o1 := o1) (by simp_all [meetTake])).2 (by assumption); show _ = AV.tup _; rw [e.1, e.2.1, e.2.2.1, e.2.2.2]; rfl) | (have e := meet_empty (lo := lo) (hi := hi) (o := o) (lo1 := lo1) (hi1 := hi1) (o1 := o1) (if_pos hc1) (take_yes (hi := hi) (hi1 := hi1) (o := o) (o1 := o1) (by simp_all [meetTake])).1 (take_yes (hi := hi) (hi1 := hi1) (o := o) (o1 := o1) (by simp_all [meetTake])).2 (by assumption); show _ = AV.tup _; rw [e.1, e.2.1, e.2.2.1, e.2.2.2]; rfl) | (have e := meet_empty (lo := lo) (hi := hi) (o := o) (lo1 := lo1) (hi1 := hi1) (o1 := o1) (if_pos hc1) (take_no (hi := hi) (hi1 := hi1) (o := o) (o1 := o1) (by simp_all [meetTake])).1 (take_no (hi := hi) (hi1 := hi1) (o := o) (o1 := o1) (by simp_all [meetTake])).2 (by assumption); show _ = AV.tup _; rw [e.1, e.2.1, e.2.2.1, e.2.2.2]; rfl) | (have e := meet_empty (lo := lo) (hi := hi) (o := o) (lo1 := lo1) (hi1 := hi1) (o1 := o1) (if_neg hc1) (take_yes (hi := hi) (hi1 := hi1) (o := o) (o1 := o1) (by simp_all [meetTake])).1 (take_yes (hi := hi) (hi1 := hi1) (o := o) (o1 := o1) (by simp_all [meetTake])).2 (by assumption); show _ = AV.tup _; rw [e.1, e.2.1, e.2.2.1, e.2.2.2]; rfl) | (have e := meet_empty (lo := lo) (hi := hi) (o := o) (lo1 := lo1) (hi1 := hi1) (o1 := o1) (if_neg hc1) (take_no (hi := hi) (hi1 := hi1) (o := o) (o1 := o1) (by simp_all [meetTake])).1 (take_no (hi := hi) (hi1 := hi1) (o := o) (o1 := o1) (by simp_all [meetTake])).2 (by assumption); show _ = AV.tup _; rw [e.1, e.2.1, e.2.2.1, e.2.2.2]; rfl))
                          · first
                            | (exfalso; first | omega | contradiction)
                            | (
                                refine cskip ?_
                                refine then_normal ?_
                                refine cseq ?_
                                refine cregion ?_
                                first | (refine sv rfl (opv_loadN ti24 rfl (.lp _ _ _ rfl) (Nat.le_of_ble_eq_true rfl)) ?_) | (refine sv rfl (opv_loadN ti24 rfl (.cp _) (Nat.le_of_ble_eq_true rfl)) ?_)
                                first | (refine sstore sz24 rfl rfl rfl rfl (Nat.le_of_ble_eq_true rfl) ?_) | (refine sstore_ap sz24 rfl rfl rfl (by first | rfl | omega) rfl (List.all_eq_true.1 rfl) (by omega) (by omega) ?_)
                                first | (refine sv rfl (opv_as rfl) ?_) | (refine sv rfl (opv_ast rfl) ?_)
                                refine snil ?_
                                refine cret ?_
                                refine ⟨Or.inr rfl, _, _, _, (resVs_cons (ResV.agg _ _ _ _ _ ti24 rfl (.lp _ _ _ rfl) (Nat.le_of_ble_eq_true rfl)) (resVs_cons (ResV.tmp _ _ rfl) resVs_nil)), (pubC rfl), ?_⟩
                                first | (have e := meet_full (lo := lo) (hi := hi) (o := o) (lo1 := lo1) (hi1 := hi1) (o1 := o1) (if_pos hc1) (take_yes (hi := hi) (hi1 := hi1) (o := o) (o1 := o1) (by simp_all [meetTake])).1 (take_yes (hi := hi) (hi1 := hi1) (o := o) (o1 := o1) (by simp_all [meetTake])).2 (by assumption); show _ = AV.tup _; rw [e.1, e.2.1, e.2.2.1, e.2.2.2]; rfl) | (have e := meet_full (lo := lo) (hi := hi) (o := o) (lo1 := lo1) (hi1 := hi1) (o1 := o1) (if_pos hc1) (take_no (hi := hi) (hi1 := hi1) (o := o) (o1 := o1) (by simp_all [meetTake])).1 (take_no (hi := hi) (hi1 := hi1) (o := o) (o1 := o1) (by simp_all [meetTake])).2 (by assumption); show _ = AV.tup _; rw [e.1, e.2.1, e.2.2.1, e.2.2.2]; rfl) | (have e := meet_full (lo := lo) (hi := hi) (o := o) (lo1 := lo1) (hi1 := hi1) (o1 := o1) (if_neg hc1) (take_yes (hi := hi) (hi1 := hi1) (o := o) (o1 := o1) (by simp_all [meetTake])).1 (take_yes (hi := hi) (hi1 := hi1) (o := o) (o1 := o1) (by simp_all [meetTake])).2 (by assumption); show _ = AV.tup _; rw [e.1, e.2.1, e.2.2.1, e.2.2.2]; rfl) | (have e := meet_full (lo := lo) (hi := hi) (o := o) (lo1 := lo1) (hi1 := hi1) (o1 := o1) (if_neg hc1) (take_no (hi := hi) (hi1 := hi1) (o := o) (o1 := o1) (by simp_all [meetTake])).1 (take_no (hi := hi) (hi1 := hi1) (o := o) (o1 := o1) (by simp_all [meetTake])).2 (by assumption); show _ = AV.tup _; rw [e.1, e.2.1, e.2.2.1, e.2.2.2]; rfl) | (have e := meet_empty (lo := lo) (hi := hi) (o := o) (lo1 := lo1) (hi1 := hi1) (o1 := o1) (if_pos hc1) (take_yes (hi := hi) (hi1 := hi1) (o := o) (o1 := o1) (by simp_all [meetTake])).1 (take_yes (hi := hi) (hi1 := hi1) (o := o) (o1 := o1) (by simp_all [meetTake])).2 (by assumption); show _ = AV.tup _; rw [e.1, e.2.1, e.2.2.1, e.2.2.2]; rfl) | (have e := meet_empty (lo := lo) (hi := hi) (o := o) (lo1 := lo1) (hi1 := hi1) (o1 := o1) (if_pos hc1) (take_no (hi := hi) (hi1 := hi1) (o := o) (o1 := o1) (by simp_all [meetTake])).1 (take_no (hi := hi) (hi1 := hi1) (o := o) (o1 := o1) (by simp_all [meetTake])).2 (by assumption); show _ = AV.tup _; rw [e.1, e.2.1, e.2.2.1, e.2.2.2]; rfl) | (have e := meet_empty (lo := lo) (hi := hi) (o := o) (lo1 := lo1) (hi1 := hi1) (o1 := o1) (if_neg hc1) (take_yes (hi := hi) (hi1 := hi1) (o := o) (o1 := o1) (by simp_all [meetTake])).1 (take_yes (hi := hi) (hi1 := hi1) (o := o) (o1 := o1) (by simp_all [meetTake])).2 (by assumption); show _ = AV.tup _; rw [e.1, e.2.1, e.2.2.1, e.2.2.2]; rfl) | (have e := meet_empty (lo := lo) (hi := hi) (o := o) (lo1 := lo1) (hi1 := hi1) (o1 := o1) (if_neg hc1) (take_no (hi := hi) (hi1 := hi1) (o := o) (o1 := o1) (by simp_all [meetTake])).1 (take_no (hi := hi) (hi1 := hi1) (o := o) (o1 := o1) (by simp_all [meetTake])).2 (by assumption); show _ = AV.tup _; rw [e.1, e.2.1, e.2.2.1, e.2.2.2]; rfl)))
                    · replace hc12 := of_decide_eq_false hc12
                      first
                      | (exfalso; first | omega | contradiction)
                      | (
                          refine cskip ?_
                          refine then_normal ?_
                          refine cseq ?_
                          refine cseq ?_
                          refine cregion ?_
                          first | (refine sv rfl (opv_loadN ti24 rfl (.lp _ _ _ rfl) (Nat.le_of_ble_eq_true rfl)) ?_) | (refine sv rfl (opv_loadN ti24 rfl (.cp _) (Nat.le_of_ble_eq_true rfl)) ?_)
                          refine scall1 rfl fn31 (opnds_cons rfl opnds_nil) (pubC rfl) (empty_c) ?_
                          refine snil ?_
                          refine ccond rfl (fun hc14 => ?_) (fun hc14 => ?_)
                          · first
                            | (exfalso; first | omega | contradiction)
                            | (
                                refine cseq ?_
                                refine cregion ?_
                                refine sv rfl (opv_build zi24 pi24 parts_nil (.nil _)) ?_
                                first | (refine sstore sz24 rfl rfl rfl rfl (Nat.le_of_ble_eq_true rfl) ?_) | (refine sstore_ap sz24 rfl rfl rfl (by first | rfl | omega) rfl (List.all_eq_true.1 rfl) (by omega) (by omega) ?_)
                                first | (refine sv rfl (opv_as rfl) ?_) | (refine sv rfl (opv_ast rfl) ?_)
                                refine snil ?_
                                refine cret ?_
                                refine then_ret ?_
                                refine ⟨Or.inr rfl, _, _, _, (resVs_cons (ResV.agg _ _ _ _ _ ti24 rfl (.lp _ _ _ rfl) (Nat.le_of_ble_eq_true rfl)) (resVs_cons (ResV.tmp _ _ rfl) resVs_nil)), (pubC rfl), ?_⟩
                                first | (have e := meet_full (lo := lo) (hi := hi) (o := o) (lo1 := lo1) (hi1 := hi1) (o1 := o1) (if_pos hc1) (take_yes (hi := hi) (hi1 := hi1) (o := o) (o1 := o1) (by simp_all [meetTake])).1 (take_yes (hi := hi) (hi1 := hi1) (o := o) (o1 := o1) (by simp_all [meetTake])).2 (by assumption); show _ = AV.tup _; rw [e.1, e.2.1, e.2.2.1, e.2.2.2]; rfl) | (have e := meet_full (lo := lo) (hi := hi) (o := o) (lo1 := lo1) (hi1 := hi1) (o1 := o1) (if_pos hc1) (take_no (hi := hi) (hi1 := hi1) (o := o) (o1 := o1) (by simp_all [meetTake])).1 (take_no (hi := hi) (hi1 := hi1) (o := o) (o1 := o1) (by simp_all [meetTake])).2 (by assumption); show _ = AV.tup _; rw [e.1, e.2.1, e.2.2.1, e.2.2.2]; rfl) | (have e := meet_full (lo := lo) (hi := hi) (o := o) (lo1 := lo1) (hi1 := hi1) (o1 := o1) (if_neg hc1) (take_yes (hi := hi) (hi1 := hi1) (o := o) (o1 := o1) (by simp_all [meetTake])).1 (take_yes (hi := hi) (hi1 := hi1) (o := o) (o1 := o1) (by simp_all [meetTake])).2 (by assumption); show _ = AV.tup _; rw [e.1, e.2.1, e.2.2.1, e.2.2.2]; rfl) | (have e := meet_full (lo := lo) (hi := hi) (o := o) (lo1 := lo1) (hi1 := hi1) (o1 := o1) (if_neg hc1) (take_no (hi := hi) (hi1 := hi1) (o := o) (o1 := o1) (by simp_all [meetTake])).1 (take_no (hi := hi) (hi1 := hi1) (o := o) (o1 := o1) (by simp_all [meetTake])).2 (by assumption); show _ = AV.tup _; rw [e.1, e.2.1, e.2.2.1, e.2.2.2]; rfl) | (have e := meet_empty (lo := lo) (hi := hi) (o := o) (lo1 := lo1) (hi1 := hi1) (o1 := o1) (if_pos hc1) (take_yes (hi := hi) (hi1 := hi1) (o := o) (o1 := o1) (by simp_all [meetTake])).1 (take_yes (hi := hi) (hi1 := hi1) (o := o) (o1 := o1) (by simp_all [meetTake])).2 (by assumption); show _ = AV.tup _; rw [e.1, e.2.1, e.2.2.1, e.2.2.2]; rfl) | (have e := meet_empty (lo := lo) (hi := hi) (o := o) (lo1 := lo1) (hi1 := hi1) (o1 := o1) (if_pos hc1) (take_no (hi := hi) (hi1 := hi1) (o := o) (o1 := o1) (by simp_all [meetTake])).1 (take_no (hi := hi) (hi1 := hi1) (o := o) (o1 := o1) (by simp_all [meetTake])).2 (by assumption); show _ = AV.tup _; rw [e.1, e.2.1, e.2.2.1, e.2.2.2]; rfl) | (have e := meet_empty (lo := lo) (hi := hi) (o := o) (lo1 := lo1) (hi1 := hi1) (o1 := o1) (if_neg hc1) (take_yes (hi := hi) (hi1 := hi1) (o := o) (o1 := o1) (by simp_all [meetTake])).1 (take_yes (hi := hi) (hi1 := hi1) (o := o) (o1 := o1) (by simp_all [meetTake])).2 (by assumption); show _ = AV.tup _; rw [e.1, e.2.1, e.2.2.1, e.2.2.2]; rfl) | (have e := meet_empty (lo := lo) (hi := hi) (o := o) (lo1 := lo1) (hi1 := hi1) (o1 := o1) (if_neg hc1) (take_no (hi := hi) (hi1 := hi1) (o := o) (o1 := o1) (by simp_all [meetTake])).1 (take_no (hi := hi) (hi1 := hi1) (o := o) (o1 := o1) (by simp_all [meetTake])).2 (by assumption); show _ = AV.tup _; rw [e.1, e.2.1, e.2.2.1, e.2.2.2]; rfl))
                          · first
                            | (exfalso; first | omega | contradiction)
                            | (
                                refine cskip ?_
                                refine then_normal ?_
                                refine cseq ?_
                                refine cregion ?_
                                first | (refine sv rfl (opv_loadN ti24 rfl (.lp _ _ _ rfl) (Nat.le_of_ble_eq_true rfl)) ?_) | (refine sv rfl (opv_loadN ti24 rfl (.cp _) (Nat.le_of_ble_eq_true rfl)) ?_)
                                first | (refine sstore sz24 rfl rfl rfl rfl (Nat.le_of_ble_eq_true rfl) ?_) | (refine sstore_ap sz24 rfl rfl rfl (by first | rfl | omega) rfl (List.all_eq_true.1 rfl) (by omega) (by omega) ?_)
                                first | (refine sv rfl (opv_as rfl) ?_) | (refine sv rfl (opv_ast rfl) ?_)
                                refine snil ?_
                                refine cret ?_
                                refine ⟨Or.inr rfl, _, _, _, (resVs_cons (ResV.agg _ _ _ _ _ ti24 rfl (.lp _ _ _ rfl) (Nat.le_of_ble_eq_true rfl)) (resVs_cons (ResV.tmp _ _ rfl) resVs_nil)), (pubC rfl), ?_⟩
                                first | (have e := meet_full (lo := lo) (hi := hi) (o := o) (lo1 := lo1) (hi1 := hi1) (o1 := o1) (if_pos hc1) (take_yes (hi := hi) (hi1 := hi1) (o := o) (o1 := o1) (by simp_all [meetTake])).1 (take_yes (hi := hi) (hi1 := hi1) (o := o) (o1 := o1) (by simp_all [meetTake])).2 (by assumption); show _ = AV.tup _; rw [e.1, e.2.1, e.2.2.1, e.2.2.2]; rfl) | (have e := meet_full (lo := lo) (hi := hi) (o := o) (lo1 := lo1) (hi1 := hi1) (o1 := o1) (if_pos hc1) (take_no (hi := hi) (hi1 := hi1) (o := o) (o1 := o1) (by simp_all [meetTake])).1 (take_no (hi := hi) (hi1 := hi1) (o := o) (o1 := o1) (by simp_all [meetTake])).2 (by assumption); show _ = AV.tup _; rw [e.1, e.2.1, e.2.2.1, e.2.2.2]; rfl) | (have e := meet_full (lo := lo) (hi := hi) (o := o) (lo1 := lo1) (hi1 := hi1) (o1 := o1) (if_neg hc1) (take_yes (hi := hi) (hi1 := hi1) (o := o) (o1 := o1) (by simp_all [meetTake])).1 (take_yes (hi := hi) (hi1 := hi1) (o := o) (o1 := o1) (by simp_all [meetTake])).2 (by assumption); show _ = AV.tup _; rw [e.1, e.2.1, e.2.2.1, e.2.2.2]; rfl) | (have e := meet_full (lo := lo) (hi := hi) (o := o) (lo1 := lo1) (hi1 := hi1) (o1 := o1) (if_neg hc1) (take_no (hi := hi) (hi1 := hi1) (o := o) (o1 := o1) (by simp_all [meetTake])).1 (take_no (hi := hi) (hi1 := hi1) (o := o) (o1 := o1) (by simp_all [meetTake])).2 (by assumption); show _ = AV.tup _; rw [e.1, e.2.1, e.2.2.1, e.2.2.2]; rfl) | (have e := meet_empty (lo := lo) (hi := hi) (o := o) (lo1 := lo1) (hi1 := hi1) (o1 := o1) (if_pos hc1) (take_yes (hi := hi) (hi1 := hi1) (o := o) (o1 := o1) (by simp_all [meetTake])).1 (take_yes (hi := hi) (hi1 := hi1) (o := o) (o1 := o1) (by simp_all [meetTake])).2 (by assumption); show _ = AV.tup _; rw [e.1, e.2.1, e.2.2.1, e.2.2.2]; rfl) | (have e := meet_empty (lo := lo) (hi := hi) (o := o) (lo1 := lo1) (hi1 := hi1) (o1 := o1) (if_pos hc1) (take_no (hi := hi) (hi1 := hi1) (o := o) (o1 := o1) (by simp_all [meetTake])).1 (take_no (hi := hi) (hi1 := hi1) (o := o) (o1 := o1) (by simp_all [meetTake])).2 (by assumption); show _ = AV.tup _; rw [e.1, e.2.1, e.2.2.1, e.2.2.2]; rfl) | (have e := meet_empty (lo := lo) (hi := hi) (o := o) (lo1 := lo1) (hi1 := hi1) (o1 := o1) (if_neg hc1) (take_yes (hi := hi) (hi1 := hi1) (o := o) (o1 := o1) (by simp_all [meetTake])).1 (take_yes (hi := hi) (hi1 := hi1) (o := o) (o1 := o1) (by simp_all [meetTake])).2 (by assumption); show _ = AV.tup _; rw [e.1, e.2.1, e.2.2.1, e.2.2.2]; rfl) | (have e := meet_empty (lo := lo) (hi := hi) (o := o) (lo1 := lo1) (hi1 := hi1) (o1 := o1) (if_neg hc1) (take_no (hi := hi) (hi1 := hi1) (o := o) (o1 := o1) (by simp_all [meetTake])).1 (take_no (hi := hi) (hi1 := hi1) (o := o) (o1 := o1) (by simp_all [meetTake])).2 (by assumption); show _ = AV.tup _; rw [e.1, e.2.1, e.2.2.1, e.2.2.2]; rfl)))))
        · replace hg9 := bnot_f hg9
          first
          | (exfalso; first | omega | contradiction)
          | (
              refine soff rfl rfl rfl rfl ?_
              refine soff rfl rfl rfl rfl ?_
              refine soff rfl rfl rfl rfl ?_
              refine soffu rfl rfl rfl ?_
              refine soffu rfl rfl rfl ?_
              refine soffu rfl rfl rfl ?_
              refine soffu rfl rfl rfl ?_
              refine soffu rfl rfl rfl ?_
              refine soffu rfl rfl rfl ?_
              refine soff rfl rfl rfl rfl ?_
              first | (refine sv rfl (opv_pick_t rfl rfl) ?_) | (refine sv rfl (opv_pick_f rfl rfl) ?_)
              refine snil ?_
              refine ccond rfl (fun hx => Bool.noConfusion hx) (fun _ => ?_)
              refine cskip ?_
              refine then_normal ?_
              refine cseq ?_
              refine cseq ?_
              refine cregion ?_
              first | (refine sv rfl (opv_loadN ti24 rfl (.lp _ _ _ rfl) (Nat.le_of_ble_eq_true rfl)) ?_) | (refine sv rfl (opv_loadN ti24 rfl (.cp _) (Nat.le_of_ble_eq_true rfl)) ?_)
              refine scall1 rfl fn31 (opnds_cons rfl opnds_nil) (pubC rfl) (empty_c) ?_
              refine snil ?_
              refine ccond rfl (fun hc15 => ?_) (fun hc15 => ?_)
              · first
                | (exfalso; first | omega | contradiction)
                | (
                    refine cseq ?_
                    refine cregion ?_
                    refine sv rfl (opv_build zi24 pi24 parts_nil (.nil _)) ?_
                    first | (refine sstore sz24 rfl rfl rfl rfl (Nat.le_of_ble_eq_true rfl) ?_) | (refine sstore_ap sz24 rfl rfl rfl (by first | rfl | omega) rfl (List.all_eq_true.1 rfl) (by omega) (by omega) ?_)
                    first | (refine sv rfl (opv_as rfl) ?_) | (refine sv rfl (opv_ast rfl) ?_)
                    refine snil ?_
                    refine cret ?_
                    refine then_ret ?_
                    refine ⟨Or.inr rfl, _, _, _, (resVs_cons (ResV.agg _ _ _ _ _ ti24 rfl (.lp _ _ _ rfl) (Nat.le_of_ble_eq_true rfl)) (resVs_cons (ResV.tmp _ _ rfl) resVs_nil)), (pubC rfl), ?_⟩
                    first | (have e := meet_full (lo := lo) (hi := hi) (o := o) (lo1 := lo1) (hi1 := hi1) (o1 := o1) (if_pos hc1) (take_yes (hi := hi) (hi1 := hi1) (o := o) (o1 := o1) (by simp_all [meetTake])).1 (take_yes (hi := hi) (hi1 := hi1) (o := o) (o1 := o1) (by simp_all [meetTake])).2 (by assumption); show _ = AV.tup _; rw [e.1, e.2.1, e.2.2.1, e.2.2.2]; rfl) | (have e := meet_full (lo := lo) (hi := hi) (o := o) (lo1 := lo1) (hi1 := hi1) (o1 := o1) (if_pos hc1) (take_no (hi := hi) (hi1 := hi1) (o := o) (o1 := o1) (by simp_all [meetTake])).1 (take_no (hi := hi) (hi1 := hi1) (o := o) (o1 := o1) (by simp_all [meetTake])).2 (by assumption); show _ = AV.tup _; rw [e.1, e.2.1, e.2.2.1, e.2.2.2]; rfl) | (have e := meet_full (lo := lo) (hi := hi) (o := o) (lo1 := lo1) (hi1 := hi1) (o1 := o1) (if_neg hc1) (take_yes (hi := hi) (hi1 := hi1) (o := o) (o1 := o1) (by simp_all [meetTake])).1 (take_yes (hi := hi) (hi1 := hi1) (o := o) (o1 := o1) (by simp_all [meetTake])).2 (by assumption); show _ = AV.tup _; rw [e.1, e.2.1, e.2.2.1, e.2.2.2]; rfl) | (have e := meet_full (lo := lo) (hi := hi) (o := o) (lo1 := lo1) (hi1 := hi1) (o1 := o1) (if_neg hc1) (take_no (hi := hi) (hi1 := hi1) (o := o) (o1 := o1) (by simp_all [meetTake])).1 (take_no (hi := hi) (hi1 := hi1) (o := o) (o1 := o1) (by simp_all [meetTake])).2 (by assumption); show _ = AV.tup _; rw [e.1, e.2.1, e.2.2.1, e.2.2.2]; rfl) | (have e := meet_empty (lo := lo) (hi := hi) (o := o) (lo1 := lo1) (hi1 := hi1) (o1 := o1) (if_pos hc1) (take_yes (hi := hi) (hi1 := hi1) (o := o) (o1 := o1) (by simp_all [meetTake])).1 (take_yes (hi := hi) (hi1 := hi1) (o := o) (o1 := o1) (by simp_all [meetTake])).2 (by assumption); show _ = AV.tup _; rw [e.1, e.2.1, e.2.2.1, e.2.2.2]; rfl) | (have e := meet_empty (lo := lo) (hi := hi) (o := o) (lo1 := lo1) (hi1 := hi1) (o1 := o1) (if_pos hc1) (take_no (hi := hi) (hi1 := hi1) (o := o) (o1 := o1) (by simp_all [meetTake])).1 (take_no (hi := hi) (hi1 := hi1) (o := o) (o1 := o1) (by simp_all [meetTake])).2 (by assumption); show _ = AV.tup _; rw [e.1, e.2.1, e.2.2.1, e.2.2.2]; rfl) | (have e := meet_empty (lo := lo) (hi := hi) (o := o) (lo1 := lo1) (hi1 := hi1) (o1 := o1) (if_neg hc1) (take_yes (hi := hi) (hi1 := hi1) (o := o) (o1 := o1) (by simp_all [meetTake])).1 (take_yes (hi := hi) (hi1 := hi1) (o := o) (o1 := o1) (by simp_all [meetTake])).2 (by assumption); show _ = AV.tup _; rw [e.1, e.2.1, e.2.2.1, e.2.2.2]; rfl) | (have e := meet_empty (lo := lo) (hi := hi) (o := o) (lo1 := lo1) (hi1 := hi1) (o1 := o1) (if_neg hc1) (take_no (hi := hi) (hi1 := hi1) (o := o) (o1 := o1) (by simp_all [meetTake])).1 (take_no (hi := hi) (hi1 := hi1) (o := o) (o1 := o1) (by simp_all [meetTake])).2 (by assumption); show _ = AV.tup _; rw [e.1, e.2.1, e.2.2.1, e.2.2.2]; rfl))
              · first
                | (exfalso; first | omega | contradiction)
                | (
                    refine cskip ?_
                    refine then_normal ?_
                    refine cseq ?_
                    refine cregion ?_
                    first | (refine sv rfl (opv_loadN ti24 rfl (.lp _ _ _ rfl) (Nat.le_of_ble_eq_true rfl)) ?_) | (refine sv rfl (opv_loadN ti24 rfl (.cp _) (Nat.le_of_ble_eq_true rfl)) ?_)
                    first | (refine sstore sz24 rfl rfl rfl rfl (Nat.le_of_ble_eq_true rfl) ?_) | (refine sstore_ap sz24 rfl rfl rfl (by first | rfl | omega) rfl (List.all_eq_true.1 rfl) (by omega) (by omega) ?_)
                    first | (refine sv rfl (opv_as rfl) ?_) | (refine sv rfl (opv_ast rfl) ?_)
                    refine snil ?_
                    refine cret ?_
                    refine ⟨Or.inr rfl, _, _, _, (resVs_cons (ResV.agg _ _ _ _ _ ti24 rfl (.lp _ _ _ rfl) (Nat.le_of_ble_eq_true rfl)) (resVs_cons (ResV.tmp _ _ rfl) resVs_nil)), (pubC rfl), ?_⟩
                    first | (have e := meet_full (lo := lo) (hi := hi) (o := o) (lo1 := lo1) (hi1 := hi1) (o1 := o1) (if_pos hc1) (take_yes (hi := hi) (hi1 := hi1) (o := o) (o1 := o1) (by simp_all [meetTake])).1 (take_yes (hi := hi) (hi1 := hi1) (o := o) (o1 := o1) (by simp_all [meetTake])).2 (by assumption); show _ = AV.tup _; rw [e.1, e.2.1, e.2.2.1, e.2.2.2]; rfl) | (have e := meet_full (lo := lo) (hi := hi) (o := o) (lo1 := lo1) (hi1 := hi1) (o1 := o1) (if_pos hc1) (take_no (hi := hi) (hi1 := hi1) (o := o) (o1 := o1) (by simp_all [meetTake])).1 (take_no (hi := hi) (hi1 := hi1) (o := o) (o1 := o1) (by simp_all [meetTake])).2 (by assumption); show _ = AV.tup _; rw [e.1, e.2.1, e.2.2.1, e.2.2.2]; rfl) | (have e := meet_full (lo := lo) (hi := hi) (o := o) (lo1 := lo1) (hi1 := hi1) (o1 := o1) (if_neg hc1) (take_yes (hi := hi) (hi1 := hi1) (o := o) (o1 := o1) (by simp_all [meetTake])).1 (take_yes (hi := hi) (hi1 := hi1) (o := o) (o1 := o1) (by simp_all [meetTake])).2 (by assumption); show _ = AV.tup _; rw [e.1, e.2.1, e.2.2.1, e.2.2.2]; rfl) | (have e := meet_full (lo := lo) (hi := hi) (o := o) (lo1 := lo1) (hi1 := hi1) (o1 := o1) (if_neg hc1) (take_no (hi := hi) (hi1 := hi1) (o := o) (o1 := o1) (by simp_all [meetTake])).1 (take_no (hi := hi) (hi1 := hi1) (o := o) (o1 := o1) (by simp_all [meetTake])).2 (by assumption); show _ = AV.tup _; rw [e.1, e.2.1, e.2.2.1, e.2.2.2]; rfl) | (have e := meet_empty (lo := lo) (hi := hi) (o := o) (lo1 := lo1) (hi1 := hi1) (o1 := o1) (if_pos hc1) (take_yes (hi := hi) (hi1 := hi1) (o := o) (o1 := o1) (by simp_all [meetTake])).1 (take_yes (hi := hi) (hi1 := hi1) (o := o) (o1 := o1) (by simp_all [meetTake])).2 (by assumption); show _ = AV.tup _; rw [e.1, e.2.1, e.2.2.1, e.2.2.2]; rfl) | (have e := meet_empty (lo := lo) (hi := hi) (o := o) (lo1 := lo1) (hi1 := hi1) (o1 := o1) (if_pos hc1) (take_no (hi := hi) (hi1 := hi1) (o := o) (o1 := o1) (by simp_all [meetTake])).1 (take_no (hi := hi) (hi1 := hi1) (o := o) (o1 := o1) (by simp_all [meetTake])).2 (by assumption); show _ = AV.tup _; rw [e.1, e.2.1, e.2.2.1, e.2.2.2]; rfl) | (have e := meet_empty (lo := lo) (hi := hi) (o := o) (lo1 := lo1) (hi1 := hi1) (o1 := o1) (if_neg hc1) (take_yes (hi := hi) (hi1 := hi1) (o := o) (o1 := o1) (by simp_all [meetTake])).1 (take_yes (hi := hi) (hi1 := hi1) (o := o) (o1 := o1) (by simp_all [meetTake])).2 (by assumption); show _ = AV.tup _; rw [e.1, e.2.1, e.2.2.1, e.2.2.2]; rfl) | (have e := meet_empty (lo := lo) (hi := hi) (o := o) (lo1 := lo1) (hi1 := hi1) (o1 := o1) (if_neg hc1) (take_no (hi := hi) (hi1 := hi1) (o := o) (o1 := o1) (by simp_all [meetTake])).1 (take_no (hi := hi) (hi1 := hi1) (o := o) (o1 := o1) (by simp_all [meetTake])).2 (by assumption); show _ = AV.tup _; rw [e.1, e.2.1, e.2.2.1, e.2.2.2]; rfl))))

theorem cmp_k {a b : List UInt8} {x y : SV} {n : Int} (ha : x = .one (bsv a)) (hb : y = .one (bsv b)) (h : cmpL a b = n) : CallsA Try.prog 23 [x, y] (· = .s (.one (.i .i64 n))) := by
  subst ha; subst hb; subst h; exact cmp_c
theorem has_k {lo hi a : List UInt8} {o r : Bool} {x y : SV} (hx : x = rsv lo hi o) (hy : y = .one (bsv a)) (h : hasM lo hi o a = r) : CallsA Try.prog 29 [x, y] (· = .s (.one (.b r))) := by
  subst hx; subst hy; subst h; exact has_c
theorem ksane_k {a : List UInt8} {r : Bool} {x : SV} (hx : x = .one (bsv a)) (h : decide (1 ≤ a.length ∧ a.length ≤ 16) = r) : CallsA Try.prog 25 [x] (· = .s (.one (.b r))) := by
  subst hx; subst h; exact ksane_c

theorem awake_c  : CallsA Try.prog 10 [] (· = .s (.one (.b true))) := by
  refine callsA_of Try.func10 rfl (nt := 29) rfl (Nat.le_of_ble_eq_true rfl) ?_
  intro w0 S0
  refine cseq ?_
  refine cregion ?_
  first | (refine sv rfl (opv_as rfl) ?_) | (refine sv rfl (opv_ast rfl) ?_)
  refine snil ?_
  refine cseq ?_
  refine cregion ?_
  refine sbuild1 rfl Try.underlying22 ei5 rfl rfl (List.all_eq_true.1 rfl) (by decide) ?_
  refine sconv_id rfl Try.underlying22 Try.underlying5 rfl rfl rfl (by decide) ?_
  refine sv rfl (opv_build zi24 pi24 (parts_cons rfl parts_nil) (.cons _ _ _ _ _ _ _ rfl rfl (Nat.le_of_ble_eq_true rfl) (.nil _))) ?_
  refine salloc rfl zi24 ?_
  first | (refine sstore sz24 rfl rfl rfl rfl (Nat.le_of_ble_eq_true rfl) ?_) | (refine sstore_ap sz24 rfl rfl rfl (by first | rfl | omega) rfl (List.all_eq_true.1 rfl) (by omega) (by omega) ?_)
  refine snil ?_
  refine cseq ?_
  refine cregion ?_
  first | (refine sv rfl (opv_loadN ti24 rfl (.lp _ _ _ rfl) (Nat.le_of_ble_eq_true rfl)) ?_) | (refine sv rfl (opv_loadN ti24 rfl (.cp _) (Nat.le_of_ble_eq_true rfl)) ?_)
  refine sbuild1 rfl Try.underlying22 ei5 rfl rfl (List.all_eq_true.1 rfl) (by decide) ?_
  refine sconv_id rfl Try.underlying22 Try.underlying5 rfl rfl rfl (by decide) ?_
  refine scall1 rfl fn29 (opnds_cons rfl (opnds_cons rfl opnds_nil)) (by (repeat' first | exact PubA.nil _ | apply PubA.cons | apply PubV.one | apply PubV.agg | exact PubL.nil | exact PubL.id _ rfl | exact PubL.ls _ _ _ _ _ _ rfl (by first | rfl | omega) | exact PubLs.nil _ | apply PubLs.cons | exact PubLs.all _ _ (List.all_eq_true.1 rfl))) (has_k (lo := []) (hi := [98]) (o := false) (a := [97]) (r := true) rfl rfl (by decide)) ?_
  first | (refine sv rfl (opv_mv rfl) ?_) | (refine sv rfl (opv_mvt rfl) ?_)
  refine ssplit 9 rfl (fun hg1 => ?_) (fun hg1 => ?_)
  · first
    | (exfalso; first | omega | contradiction)
    | (
        refine son rfl rfl rfl ?_
        first | (refine sv rfl (opv_loadN ti24 rfl (.lp _ _ _ rfl) (Nat.le_of_ble_eq_true rfl)) ?_) | (refine sv rfl (opv_loadN ti24 rfl (.cp _) (Nat.le_of_ble_eq_true rfl)) ?_)
        refine son rfl rfl rfl ?_
        refine sbuild1 rfl Try.underlying22 ei5 rfl rfl (List.all_eq_true.1 rfl) (by decide) ?_
        refine son rfl rfl rfl ?_
        refine sconv_id rfl Try.underlying22 Try.underlying5 rfl rfl rfl (by decide) ?_
        refine son rfl rfl rfl ?_
        refine scall1 rfl fn29 (opnds_cons rfl (opnds_cons rfl opnds_nil)) (by (repeat' first | exact PubA.nil _ | apply PubA.cons | apply PubV.one | apply PubV.agg | exact PubL.nil | exact PubL.id _ rfl | exact PubL.ls _ _ _ _ _ _ rfl (by first | rfl | omega) | exact PubLs.nil _ | apply PubLs.cons | exact PubLs.all _ _ (List.all_eq_true.1 rfl))) (has_k (lo := []) (hi := [98]) (o := false) (a := [98]) (r := false) rfl rfl (by decide)) ?_
        refine son rfl rfl rfl ?_
        refine sv rfl (opv_not rfl) ?_
        first | (refine sv rfl (opv_pick_t rfl rfl) ?_) | (refine sv rfl (opv_pick_f rfl rfl) ?_)
        first | (refine sv rfl (opv_mv rfl) ?_) | (refine sv rfl (opv_mvt rfl) ?_)
        refine ssplit 16 rfl (fun hg2 => ?_) (fun hg2 => ?_)
        · replace hg2 := bnot_t hg2
          first
          | (exfalso; first | omega | contradiction)
          | (
              refine son rfl rfl rfl ?_
              refine sbuild1 rfl Try.underlying22 ei5 rfl rfl (List.all_eq_true.1 rfl) (by decide) ?_
              refine son rfl rfl rfl ?_
              refine sconv_id rfl Try.underlying22 Try.underlying5 rfl rfl rfl (by decide) ?_
              refine son rfl rfl rfl ?_
              refine sbuild2 rfl Try.underlying22 ei5 rfl rfl rfl ?_
              refine son rfl rfl rfl ?_
              refine sconv_id rfl Try.underlying22 Try.underlying5 rfl rfl rfl (by decide) ?_
              refine son rfl rfl rfl ?_
              refine scall1 rfl fn23 (opnds_cons rfl (opnds_cons rfl opnds_nil)) (by (repeat' first | exact PubA.nil _ | apply PubA.cons | apply PubV.one | apply PubV.agg | exact PubL.nil | exact PubL.id _ rfl | exact PubL.ls _ _ _ _ _ _ rfl (by first | rfl | omega) | exact PubLs.nil _ | apply PubLs.cons | exact PubLs.all _ _ (List.all_eq_true.1 rfl))) (cmp_k (a := [97]) (b := [97, 98]) (n := -1) rfl rfl (by decide)) ?_
              refine son rfl rfl rfl ?_
              refine sv rfl (opv_ieql rfl rfl) ?_
              first | (refine sv rfl (opv_pick_t rfl rfl) ?_) | (refine sv rfl (opv_pick_f rfl rfl) ?_)
              first | (refine sv rfl (opv_mv rfl) ?_) | (refine sv rfl (opv_mvt rfl) ?_)
              refine ssplit 24 rfl (fun hg3 => ?_) (fun hg3 => ?_)
              · replace hg3 := of_decide_eq_true hg3
                first
                | (exfalso; first | omega | contradiction)
                | (
                    refine son rfl rfl rfl ?_
                    refine sbuild1 rfl Try.underlying22 ei5 rfl rfl (List.all_eq_true.1 rfl) (by decide) ?_
                    refine son rfl rfl rfl ?_
                    refine sconv_id rfl Try.underlying22 Try.underlying5 rfl rfl rfl (by decide) ?_
                    refine son rfl rfl rfl ?_
                    refine scall1 rfl fn25 (opnds_cons rfl opnds_nil) (by (repeat' first | exact PubA.nil _ | apply PubA.cons | apply PubV.one | apply PubV.agg | exact PubL.nil | exact PubL.id _ rfl | exact PubL.ls _ _ _ _ _ _ rfl (by first | rfl | omega) | exact PubLs.nil _ | apply PubLs.cons | exact PubLs.all _ _ (List.all_eq_true.1 rfl))) (ksane_k (a := [97]) (r := true) rfl (by decide)) ?_
                    first | (refine sv rfl (opv_pick_t rfl rfl) ?_) | (refine sv rfl (opv_pick_f rfl rfl) ?_)
                    first | (refine sv rfl (opv_as rfl) ?_) | (refine sv rfl (opv_ast rfl) ?_)
                    refine snil ?_
                    refine cret ?_
                    refine ⟨Or.inr rfl, _, _, _, (resVs_cons (ResV.tmp _ _ rfl) resVs_nil), (pubA_id rfl), ?_⟩
                    rfl)
              · replace hg3 := of_decide_eq_false hg3
                first
                | (exfalso; first | omega | contradiction)
                | (
                    refine soff rfl rfl rfl rfl ?_
                    refine soff rfl rfl rfl rfl ?_
                    refine soff rfl rfl rfl rfl ?_
                    first | (refine sv rfl (opv_pick_t rfl rfl) ?_) | (refine sv rfl (opv_pick_f rfl rfl) ?_)
                    first | (refine sv rfl (opv_as rfl) ?_) | (refine sv rfl (opv_ast rfl) ?_)
                    refine snil ?_
                    refine cret ?_
                    refine ⟨Or.inr rfl, _, _, _, (resVs_cons (ResV.tmp _ _ rfl) resVs_nil), (pubA_id rfl), ?_⟩
                    rfl))
        · replace hg2 := bnot_f hg2
          first
          | (exfalso; first | omega | contradiction)
          | (
              refine soff rfl rfl rfl rfl ?_
              refine soff rfl rfl rfl rfl ?_
              refine soff rfl rfl rfl rfl ?_
              refine soff rfl rfl rfl rfl ?_
              refine soff rfl rfl rfl rfl ?_
              refine soff rfl rfl rfl rfl ?_
              first | (refine sv rfl (opv_pick_t rfl rfl) ?_) | (refine sv rfl (opv_pick_f rfl rfl) ?_)
              first | (refine sv rfl (opv_mv rfl) ?_) | (refine sv rfl (opv_mvt rfl) ?_)
              refine soff rfl rfl rfl rfl ?_
              refine soff rfl rfl rfl rfl ?_
              refine soff rfl rfl rfl rfl ?_
              first | (refine sv rfl (opv_pick_t rfl rfl) ?_) | (refine sv rfl (opv_pick_f rfl rfl) ?_)
              first | (refine sv rfl (opv_as rfl) ?_) | (refine sv rfl (opv_ast rfl) ?_)
              refine snil ?_
              refine cret ?_
              refine ⟨Or.inr rfl, _, _, _, (resVs_cons (ResV.tmp _ _ rfl) resVs_nil), (pubA_id rfl), ?_⟩
              rfl))
  · first
    | (exfalso; first | omega | contradiction)
    | (
        refine soff rfl rfl rfl rfl ?_
        refine soff rfl rfl rfl rfl ?_
        refine soff rfl rfl rfl rfl ?_
        refine soff rfl rfl rfl rfl ?_
        refine soff rfl rfl rfl rfl ?_
        first | (refine sv rfl (opv_pick_t rfl rfl) ?_) | (refine sv rfl (opv_pick_f rfl rfl) ?_)
        first | (refine sv rfl (opv_mv rfl) ?_) | (refine sv rfl (opv_mvt rfl) ?_)
        refine soff rfl rfl rfl rfl ?_
        refine soff rfl rfl rfl rfl ?_
        refine soff rfl rfl rfl rfl ?_
        refine soff rfl rfl rfl rfl ?_
        refine soff rfl rfl rfl rfl ?_
        refine soff rfl rfl rfl rfl ?_
        first | (refine sv rfl (opv_pick_t rfl rfl) ?_) | (refine sv rfl (opv_pick_f rfl rfl) ?_)
        first | (refine sv rfl (opv_mv rfl) ?_) | (refine sv rfl (opv_mvt rfl) ?_)
        refine soff rfl rfl rfl rfl ?_
        refine soff rfl rfl rfl rfl ?_
        refine soff rfl rfl rfl rfl ?_
        first | (refine sv rfl (opv_pick_t rfl rfl) ?_) | (refine sv rfl (opv_pick_f rfl rfl) ?_)
        first | (refine sv rfl (opv_as rfl) ?_) | (refine sv rfl (opv_ast rfl) ?_)
        refine snil ?_
        refine cret ?_
        refine ⟨Or.inr rfl, _, _, _, (resVs_cons (ResV.tmp _ _ rfl) resVs_nil), (pubA_id rfl), ?_⟩
        rfl)

end Go.Proofs.Ytiadgkkebmclgaa.Abs
