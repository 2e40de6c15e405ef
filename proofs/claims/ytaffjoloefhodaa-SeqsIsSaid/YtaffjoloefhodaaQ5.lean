/-
  Lists of integers
-/
import Derived.Test.YtaffjoloefhodaaQ4
namespace Go.Proofs.Ytaffjoloefhodaa.Abs
open Go.RowKit Go.Proofs
set_option maxRecDepth 100000



theorem nil_arg2 {P : Program} {f : FuncId} {x : SV} {R : AV → Prop} (h : CallsA P f [x, .one (.sl 0 [])] R) : CallsA P f [x, .one (.raw (.slice none 0 0))] R := by
  intro w S vs hS hv
  refine h w S vs hS ⟨hv.1, fun j y v h1 h2 => ?_⟩
  match j, h1 with
  | 0, h1 => exact hv.2 0 y v h1 h2
  | 1, h1 =>
    cases h1
    have := rep_raw (hv.2 1 (.one (.raw (.slice none 0 0))) v rfl h2)
    subst this
    exact Rep.sl0 _ _
theorem ints_eq {xs ys : List Int} (hl : xs.length = ys.length) (h : ∀ j, j < xs.length → xs[j]? = ys[j]?) : xs = ys := by
  apply List.ext_getElem? 
  intro j
  by_cases hj : j < xs.length
  · exact h j hj
  · rw [List.getElem?_eq_none (by omega), List.getElem?_eq_none (by omega)]

theorem ints_c {xs ys : List Int} (hml : xs.length ≤ 9223372036854775807) : CallsA Try.prog 17 [.one (.sl xs.length (il xs)), .one (.sl ys.length (il ys))] (· = .s (.one (.b (decide (xs = ys))))) := by
  refine callsA_of Try.func17 rfl (nt := 26) rfl (Nat.le_of_ble_eq_true rfl) ?_
  intro w0 S0
  refine cseq ?_
  refine cregion ?_
  first | (refine sv rfl (opv_as rfl) ?_) | (refine sv rfl (opv_ast rfl) ?_)
  refine snil ?_
  refine cseq ?_
  refine cseq ?_
  refine cregion ?_
  first | (refine sv rfl (opv_mv rfl) ?_) | (refine sv rfl (opv_mvt rfl) ?_)
  first | (refine sv rfl (opv_len_sl si39 rfl) ?_) | (refine sv rfl (opv_len_nil si39 rfl) ?_) | (refine sv rfl (opv_len_ls si39 rfl rfl (by first | rfl | omega)) ?_)
  first | (refine sv rfl (opv_mv rfl) ?_) | (refine sv rfl (opv_mvt rfl) ?_)
  first | (refine sv rfl (opv_len_sl si39 rfl) ?_) | (refine sv rfl (opv_len_nil si39 rfl) ?_) | (refine sv rfl (opv_len_ls si39 rfl rfl (by first | rfl | omega)) ?_)
  refine sv rfl (opv_ineq rfl rfl) ?_
  refine snil ?_
  refine ccond rfl (fun hc1 => ?_) (fun hc1 => ?_)
  · replace hc1 := ndec_t hc1
    first
    | (exfalso; first | omega | contradiction)
    | (
        refine cseq ?_
        refine cregion ?_
        first | (refine sv rfl (opv_as rfl) ?_) | (refine sv rfl (opv_ast rfl) ?_)
        refine snil ?_
        refine cret ?_
        refine then_ret ?_
        refine ⟨Or.inr rfl, _, _, _, (resVs_cons (ResV.tmp _ _ rfl) resVs_nil), (pubA_id rfl), ?_⟩
        refine avb ?_
        first | exact (decide_eq_true (ints_eq (by omega) (fun j hj => hp.2 j (by omega)))).symm | exact (decide_eq_false (fun e => by subst e; omega)).symm | exact (decide_eq_false (fun e => by subst e; rw [hx] at hy; cases hy; omega)).symm)
  · replace hc1 := ndec_f hc1
    first
    | (exfalso; first | omega | contradiction)
    | (
        refine cskip ?_
        refine then_normal ?_
        refine cseq ?_
        refine cseq ?_
        refine cregion ?_
        first | (refine sv rfl (opv_as rfl) ?_) | (refine sv rfl (opv_ast rfl) ?_)
        refine snil ?_
        refine cblock ?_
        refine awc_loop (G := Nat) (fun i => [(0, .s (.one (.sl xs.length (il xs)))), (1, .s (.one (.sl ys.length (il ys)))), (5, .s (.one (.i .i64 (i : Int))))]) (fun i => []) (fun i => i ≤ xs.length ∧ ∀ j, j < i → xs[j]? = ys[j]?) (fun i => xs.length - i) 0 ⟨Nat.zero_le _, fun j hj => absurd hj (Nat.not_lt_zero _)⟩ ⟨rfl, rfl, rfl, trivial⟩ _ rfl (fun _ _ => ⟨rfl, rfl, rfl, trivial⟩) (fun _ _ b h => by cases h) ?_
        intro i hp
        refine cseq ?_
        refine cseq ?_
        refine cregion ?_
        first | (refine sv rfl (opv_mv rfl) ?_) | (refine sv rfl (opv_mvt rfl) ?_)
        first | (refine sv rfl (opv_mv rfl) ?_) | (refine sv rfl (opv_mvt rfl) ?_)
        first | (refine sv rfl (opv_len_sl si39 rfl) ?_) | (refine sv rfl (opv_len_nil si39 rfl) ?_) | (refine sv rfl (opv_len_ls si39 rfl rfl (by first | rfl | omega)) ?_)
        refine sv rfl (opv_lss rfl rfl) ?_
        refine snil ?_
        refine ccond rfl (fun hc2 => ?_) (fun hc2 => ?_)
        · replace hc2 := of_decide_eq_true hc2
          obtain ⟨x, hx⟩ : ∃ x, xs[i]? = some x := ⟨_, List.getElem?_eq_getElem (by omega)⟩
          obtain ⟨y, hy⟩ : ∃ y, ys[i]? = some y := ⟨_, List.getElem?_eq_getElem (by omega)⟩
          first
          | (exfalso; first | omega | contradiction)
          | (
              refine cskip ?_
              refine then_normal ?_
              refine cseq ?_
              refine cblock ?_
              refine cseq ?_
              refine cdraw mixed (by kernel_rfl) ?_
              first | (refine dv rfl (opv_mv rfl) ?_) | (refine dv rfl (opv_mvt rfl) ?_)
              first | (refine dv rfl (opv_mv rfl) ?_) | (refine dv rfl (opv_mvt rfl) ?_)
              first | (refine dv rfl (opv_indexAddr_sl si39 rfl rfl (by omega) (by omega)) ?_) | (refine dv rfl (opv_indexAddr_ls si39 rfl rfl rfl (by first | rfl | omega) (by omega) (by omega)) ?_)
              first | (refine dv rfl (opv_load1 ti3 rfl (.lp _ _ _ rfl) rfl) ?_) | (refine dv rfl (opv_load1 ti3 rfl (.cp _) rfl) ?_) | (refine dv rfl (opv_load1 ti3 rfl (.cp _) (il_drop hx)) ?_) | (refine dv rfl (opv_load1 ti3 rfl (.cp _) (il_drop hy)) ?_) | (refine dv rfl (opv_load1 ti3 rfl (.ap _ _ _ _ _ _ _ rfl (by first | rfl | omega)) rfl) ?_)
              first | (refine dv rfl (opv_mv rfl) ?_) | (refine dv rfl (opv_mvt rfl) ?_)
              first | (refine dv rfl (opv_mv rfl) ?_) | (refine dv rfl (opv_mvt rfl) ?_)
              first | (refine dv rfl (opv_indexAddr_sl si39 rfl rfl (by omega) (by omega)) ?_) | (refine dv rfl (opv_indexAddr_ls si39 rfl rfl rfl (by first | rfl | omega) (by omega) (by omega)) ?_)
              first | (refine dv rfl (opv_load1 ti3 rfl (.lp _ _ _ rfl) rfl) ?_) | (refine dv rfl (opv_load1 ti3 rfl (.cp _) rfl) ?_) | (refine dv rfl (opv_load1 ti3 rfl (.cp _) (il_drop hx)) ?_) | (refine dv rfl (opv_load1 ti3 rfl (.cp _) (il_drop hy)) ?_) | (refine dv rfl (opv_load1 ti3 rfl (.ap _ _ _ _ _ _ _ rfl (by first | rfl | omega)) rfl) ?_)
              refine dv rfl (opv_ineq rfl rfl) ?_
              refine dnil ?_
              refine then_normal ?_
              refine ccond rfl (fun hc3 => ?_) (fun hc3 => ?_)
              · replace hc3 := ndec_t hc3
                first
                | (exfalso; first | omega | contradiction)
                | (
                    refine cseq ?_
                    refine cregion ?_
                    first | (refine sv rfl (opv_as rfl) ?_) | (refine sv rfl (opv_ast rfl) ?_)
                    refine snil ?_
                    refine cret ?_
                    refine block_ret ?_
                    refine then_ret ?_
                    refine then_ret ?_
                    refine block_ret ?_
                    refine then_ret ?_
                    refine ⟨Or.inr rfl, _, _, _, (resVs_cons (ResV.tmp _ _ rfl) resVs_nil), (pubA_id rfl), ?_⟩
                    refine avb ?_
                    first | exact (decide_eq_true (ints_eq (by omega) (fun j hj => hp.2 j (by omega)))).symm | exact (decide_eq_false (fun e => by subst e; omega)).symm | exact (decide_eq_false (fun e => by subst e; rw [hx] at hy; cases hy; omega)).symm)
              · replace hc3 := ndec_f hc3
                first
                | (exfalso; first | omega | contradiction)
                | (
                    refine cskip ?_
                    refine block_normal ?_
                    refine then_normal ?_
                    refine cregion ?_
                    first | (refine sv rfl (opv_mv rfl) ?_) | (refine sv rfl (opv_mvt rfl) ?_)
                    refine sv rfl (opv_add_ok rfl rfl (wrap_i64 (by omega) (by omega))) ?_
                    first | (refine sv rfl (opv_as rfl) ?_) | (refine sv rfl (opv_ast rfl) ?_)
                    refine snil ?_
                    refine ⟨i + 1, [], ⟨by omega, fun j hj => ?_⟩, ⟨rfl, rfl, rfl, trivial⟩, rfl, by omega⟩
                    by_cases e : j = i
                    · rw [e, hx, hy]; congr 1
                    · exact hp.2 j (by omega)))
        · replace hc2 := of_decide_eq_false hc2
          first
          | (exfalso; first | omega | contradiction)
          | (
              refine cexit ?_
              refine then_exit ?_
              refine then_exit ?_
              refine block_hit ?_
              refine then_normal ?_
              refine cseq ?_
              refine cregion ?_
              first | (refine sv rfl (opv_as rfl) ?_) | (refine sv rfl (opv_ast rfl) ?_)
              refine snil ?_
              refine cret ?_
              refine ⟨Or.inr rfl, _, _, _, (resVs_cons (ResV.tmp _ _ rfl) resVs_nil), (pubA_id rfl), ?_⟩
              refine avb ?_
              first | exact (decide_eq_true (ints_eq (by omega) (fun j hj => hp.2 j (by omega)))).symm | exact (decide_eq_false (fun e => by subst e; omega)).symm | exact (decide_eq_false (fun e => by subst e; rw [hx] at hy; cases hy; omega)).symm))

end Go.Proofs.Ytaffjoloefhodaa.Abs
