/-
  t
-/
import Derived.Test.YtlpanhfojeaamaaDoorT16a
namespace Go.Proofs.YtlpanhfojeaamaaDoor.Abs
open Go.RowKit Go.Proofs
def m40_pipe_passed (a0 : List GMsgReply) (a1 : GMsgReply) : Option (List GMsgReply) :=
  if (0 : Int) ≤ (wI ((a0.length : Int) + 1)) ∧ (wI ((a0.length : Int) + 1)) ≤ (wI ((a0.length : Int) + 1)) ∧ ((88 : Nat) : Int) * (wI ((a0.length : Int) + 1)) ≤ 281474976710656 then ((idx (a0.take (List.replicate (wI ((a0.length : Int) + 1)).toNat (GMsgReply.mk 0 0 0 0 false ([] : List UInt8) ([] : List GApiKV))).length ++ (List.replicate (wI ((a0.length : Int) + 1)).toNat (GMsgReply.mk 0 0 0 0 false ([] : List UInt8) ([] : List GApiKV))).drop a0.length) (wI ((wI ((a0.length : Int) + 1)) - 1))).bind fun u2 => if (decide ((wI ((a0.length : Int) + 1)) ≤ 8)) then ((cut ((a0.take (List.replicate (wI ((a0.length : Int) + 1)).toNat (GMsgReply.mk 0 0 0 0 false ([] : List UInt8) ([] : List GApiKV))).length ++ (List.replicate (wI ((a0.length : Int) + 1)).toNat (GMsgReply.mk 0 0 0 0 false ([] : List UInt8) ([] : List GApiKV))).drop a0.length).set ((wI ((wI ((a0.length : Int) + 1)) - 1)).toNat) a1) 0 (wI ((a0.length : Int) + 1))).bind fun c3 => if (wI ((a0.length : Int) + 1)) ≤ (wI ((a0.length : Int) + 1)) ∧ (wI ((a0.length : Int) + 1)) ≤ (((a0.take (List.replicate (wI ((a0.length : Int) + 1)).toNat (GMsgReply.mk 0 0 0 0 false ([] : List UInt8) ([] : List GApiKV))).length ++ (List.replicate (wI ((a0.length : Int) + 1)).toNat (GMsgReply.mk 0 0 0 0 false ([] : List UInt8) ([] : List GApiKV))).drop a0.length).set ((wI ((wI ((a0.length : Int) + 1)) - 1)).toNat) a1).length : Int) then (some c3) else none) else (if 0 ≤ (1 : Int) ∧ (1 : Int) ≤ (((a0.take (List.replicate (wI ((a0.length : Int) + 1)).toNat (GMsgReply.mk 0 0 0 0 false ([] : List UInt8) ([] : List GApiKV))).length ++ (List.replicate (wI ((a0.length : Int) + 1)).toNat (GMsgReply.mk 0 0 0 0 false ([] : List UInt8) ([] : List GApiKV))).drop a0.length).set ((wI ((wI ((a0.length : Int) + 1)) - 1)).toNat) a1).length : Int) ∧ 0 < ((a0.take (List.replicate (wI ((a0.length : Int) + 1)).toNat (GMsgReply.mk 0 0 0 0 false ([] : List UInt8) ([] : List GApiKV))).length ++ (List.replicate (wI ((a0.length : Int) + 1)).toNat (GMsgReply.mk 0 0 0 0 false ([] : List UInt8) ([] : List GApiKV))).drop a0.length).set ((wI ((wI ((a0.length : Int) + 1)) - 1)).toNat) a1).length then ((cut (((a0.take (List.replicate (wI ((a0.length : Int) + 1)).toNat (GMsgReply.mk 0 0 0 0 false ([] : List UInt8) ([] : List GApiKV))).length ++ (List.replicate (wI ((a0.length : Int) + 1)).toNat (GMsgReply.mk 0 0 0 0 false ([] : List UInt8) ([] : List GApiKV))).drop a0.length).set ((wI ((wI ((a0.length : Int) + 1)) - 1)).toNat) a1).drop (1 : Int).toNat ++ ((a0.take (List.replicate (wI ((a0.length : Int) + 1)).toNat (GMsgReply.mk 0 0 0 0 false ([] : List UInt8) ([] : List GApiKV))).length ++ (List.replicate (wI ((a0.length : Int) + 1)).toNat (GMsgReply.mk 0 0 0 0 false ([] : List UInt8) ([] : List GApiKV))).drop a0.length).set ((wI ((wI ((a0.length : Int) + 1)) - 1)).toNat) a1).drop (((a0.take (List.replicate (wI ((a0.length : Int) + 1)).toNat (GMsgReply.mk 0 0 0 0 false ([] : List UInt8) ([] : List GApiKV))).length ++ (List.replicate (wI ((a0.length : Int) + 1)).toNat (GMsgReply.mk 0 0 0 0 false ([] : List UInt8) ([] : List GApiKV))).drop a0.length).set ((wI ((wI ((a0.length : Int) + 1)) - 1)).toNat) a1).length - (1 : Int).toNat)) 0 (wI ((wI ((a0.length : Int) + 1)) - 1))).bind fun c6 => if (wI ((wI ((a0.length : Int) + 1)) - 1)) ≤ (wI ((wI ((a0.length : Int) + 1)) - 1)) ∧ (wI ((wI ((a0.length : Int) + 1)) - 1)) ≤ ((((a0.take (List.replicate (wI ((a0.length : Int) + 1)).toNat (GMsgReply.mk 0 0 0 0 false ([] : List UInt8) ([] : List GApiKV))).length ++ (List.replicate (wI ((a0.length : Int) + 1)).toNat (GMsgReply.mk 0 0 0 0 false ([] : List UInt8) ([] : List GApiKV))).drop a0.length).set ((wI ((wI ((a0.length : Int) + 1)) - 1)).toNat) a1).drop (1 : Int).toNat ++ ((a0.take (List.replicate (wI ((a0.length : Int) + 1)).toNat (GMsgReply.mk 0 0 0 0 false ([] : List UInt8) ([] : List GApiKV))).length ++ (List.replicate (wI ((a0.length : Int) + 1)).toNat (GMsgReply.mk 0 0 0 0 false ([] : List UInt8) ([] : List GApiKV))).drop a0.length).set ((wI ((wI ((a0.length : Int) + 1)) - 1)).toNat) a1).drop (((a0.take (List.replicate (wI ((a0.length : Int) + 1)).toNat (GMsgReply.mk 0 0 0 0 false ([] : List UInt8) ([] : List GApiKV))).length ++ (List.replicate (wI ((a0.length : Int) + 1)).toNat (GMsgReply.mk 0 0 0 0 false ([] : List UInt8) ([] : List GApiKV))).drop a0.length).set ((wI ((wI ((a0.length : Int) + 1)) - 1)).toNat) a1).length - (1 : Int).toNat)).length : Int) then (some c6) else none) else none)) else none

set_option maxRecDepth 100000 in
theorem m40_pipe_passed_c {a0 : List GMsgReply} {a1 : GMsgReply} {r : (List GMsgReply)} (h : m40_pipe_passed a0 a1 = some r) : CallsA Tryd.prog 40 [.one (.sl a0.length (a0.flatMap eGMsgReply)), .agg [.i .i64 a1.Kind, .i .i64 a1.Seq, .i .i64 a1.Code, .i .i64 a1.N, .b a1.Found, .sl a1.Val.length (a1.Val.flatMap eU8), .sl a1.List.length (a1.List.flatMap eGApiKV)]] (· = .s (.one (.sl r.length (r.flatMap eGMsgReply)))) := by
  unfold m40_pipe_passed at h
  refine callsA_of Tryd.func40 rfl (nt := 36) rfl (Nat.le_of_ble_eq_true rfl) ?_
  intro w0 S0
  refine cseq ?_
  refine cregion ?_
  refine sbox rfl rfl ?_
  refine sv rfl (opv_as rfl) ?_
  refine snil ?_
  refine cseq ?_
  refine cregion ?_
  refine sv rfl (opv_mv rfl) ?_
  refine sv rfl (opv_len_sl si44 rfl) ?_
  refine sv rfl (opv_add rfl rfl) ?_
  refine sv rfl (opv_as rfl) ?_
  refine snil ?_
  refine cseq ?_
  refine cregion ?_
  refine sv rfl (opv_mv rfl) ?_
  obtain ⟨hm1, h⟩ := chk_eq h
  refine smkc (f := eGMsgReply) (z := (GMsgReply.mk 0 0 0 0 false ([] : List UInt8) ([] : List GApiKV))) rfl Tryd.underlying44 ei48 (fun _ => rfl) rfl rfl rfl hm1 (by decide) ?_
  refine sv rfl (opv_as rfl) ?_
  refine snil ?_
  refine cseq ?_
  refine cregion ?_
  refine sv rfl (opv_mv rfl) ?_
  refine sv rfl (opv_mv rfl) ?_
  refine scopy (f := eGMsgReply) (xs := (List.replicate (wI ((a0.length : Int) + 1)).toNat (GMsgReply.mk 0 0 0 0 false ([] : List UInt8) ([] : List GApiKV)))) (us := a0) rfl Tryd.underlying44 (by kernel_rfl) (fun _ => rfl) rfl rfl rfl rfl rfl rfl rfl ?_
  refine stell 11 (y := .s (.one (.ls 1 (List.replicate (wI ((a0.length : Int) + 1)).toNat (GMsgReply.mk 0 0 0 0 false ([] : List UInt8) ([] : List GApiKV))).length))) (.s (.one (.ls 1 (a0.take (List.replicate (wI ((a0.length : Int) + 1)).toNat (GMsgReply.mk 0 0 0 0 false ([] : List UInt8) ([] : List GApiKV))).length ++ (List.replicate (wI ((a0.length : Int) + 1)).toNat (GMsgReply.mk 0 0 0 0 false ([] : List UInt8) ([] : List GApiKV))).drop a0.length).length))) rfl (congrArg (fun n => AV.s (.one (.ls 1 n))) (copy_len _ _)) ?_
  refine stell 6 (y := .s (.one (.ls 1 (List.replicate (wI ((a0.length : Int) + 1)).toNat (GMsgReply.mk 0 0 0 0 false ([] : List UInt8) ([] : List GApiKV))).length))) (.s (.one (.ls 1 (a0.take (List.replicate (wI ((a0.length : Int) + 1)).toNat (GMsgReply.mk 0 0 0 0 false ([] : List UInt8) ([] : List GApiKV))).length ++ (List.replicate (wI ((a0.length : Int) + 1)).toNat (GMsgReply.mk 0 0 0 0 false ([] : List UInt8) ([] : List GApiKV))).drop a0.length).length))) rfl (congrArg (fun n => AV.s (.one (.ls 1 n))) (copy_len _ _)) ?_
  refine stell 12 (y := .s (.one (.ls 1 (List.replicate (wI ((a0.length : Int) + 1)).toNat (GMsgReply.mk 0 0 0 0 false ([] : List UInt8) ([] : List GApiKV))).length))) (.s (.one (.ls 1 (a0.take (List.replicate (wI ((a0.length : Int) + 1)).toNat (GMsgReply.mk 0 0 0 0 false ([] : List UInt8) ([] : List GApiKV))).length ++ (List.replicate (wI ((a0.length : Int) + 1)).toNat (GMsgReply.mk 0 0 0 0 false ([] : List UInt8) ([] : List GApiKV))).drop a0.length).length))) rfl (congrArg (fun n => AV.s (.one (.ls 1 n))) (copy_len _ _)) ?_
  refine snil ?_
  refine cseq ?_
  refine cregion ?_
  refine sv rfl (opv_mv rfl) ?_
  refine sv rfl (opv_mv rfl) ?_
  refine sv rfl (opv_sub rfl rfl) ?_
  refine sv rfl (opv_loadN ti48 rfl (.lp _ _ _ rfl) (Nat.le_of_ble_eq_true rfl)) ?_
  obtain ⟨u2, hu2, h⟩ := bind_eq h
  refine sv rfl (opv_ixo (f := eGMsgReply) si44 (fun _ => rfl) rfl rfl rfl rfl rfl hu2) ?_
  refine sseto (f := eGMsgReply) (u' := a1) (sz := 7) 0 sz48 (fun _ => rfl) rfl rfl rfl rfl rfl rfl rfl (List.all_eq_true.1 rfl) (idx_eq hu2).2 (Nat.le_of_ble_eq_true rfl) rfl ?_
  refine stell 11 (y := .s (.one (.ls 1 (a0.take (List.replicate (wI ((a0.length : Int) + 1)).toNat (GMsgReply.mk 0 0 0 0 false ([] : List UInt8) ([] : List GApiKV))).length ++ (List.replicate (wI ((a0.length : Int) + 1)).toNat (GMsgReply.mk 0 0 0 0 false ([] : List UInt8) ([] : List GApiKV))).drop a0.length).length))) (.s (.one (.ls 1 ((a0.take (List.replicate (wI ((a0.length : Int) + 1)).toNat (GMsgReply.mk 0 0 0 0 false ([] : List UInt8) ([] : List GApiKV))).length ++ (List.replicate (wI ((a0.length : Int) + 1)).toNat (GMsgReply.mk 0 0 0 0 false ([] : List UInt8) ([] : List GApiKV))).drop a0.length).set ((wI ((wI ((a0.length : Int) + 1)) - 1)).toNat) a1).length))) rfl (congrArg (fun n => AV.s (.one (.ls 1 n))) List.length_set.symm) ?_
  refine stell 6 (y := .s (.one (.ls 1 (a0.take (List.replicate (wI ((a0.length : Int) + 1)).toNat (GMsgReply.mk 0 0 0 0 false ([] : List UInt8) ([] : List GApiKV))).length ++ (List.replicate (wI ((a0.length : Int) + 1)).toNat (GMsgReply.mk 0 0 0 0 false ([] : List UInt8) ([] : List GApiKV))).drop a0.length).length))) (.s (.one (.ls 1 ((a0.take (List.replicate (wI ((a0.length : Int) + 1)).toNat (GMsgReply.mk 0 0 0 0 false ([] : List UInt8) ([] : List GApiKV))).length ++ (List.replicate (wI ((a0.length : Int) + 1)).toNat (GMsgReply.mk 0 0 0 0 false ([] : List UInt8) ([] : List GApiKV))).drop a0.length).set ((wI ((wI ((a0.length : Int) + 1)) - 1)).toNat) a1).length))) rfl (congrArg (fun n => AV.s (.one (.ls 1 n))) List.length_set.symm) ?_
  refine stell 12 (y := .s (.one (.ls 1 (a0.take (List.replicate (wI ((a0.length : Int) + 1)).toNat (GMsgReply.mk 0 0 0 0 false ([] : List UInt8) ([] : List GApiKV))).length ++ (List.replicate (wI ((a0.length : Int) + 1)).toNat (GMsgReply.mk 0 0 0 0 false ([] : List UInt8) ([] : List GApiKV))).drop a0.length).length))) (.s (.one (.ls 1 ((a0.take (List.replicate (wI ((a0.length : Int) + 1)).toNat (GMsgReply.mk 0 0 0 0 false ([] : List UInt8) ([] : List GApiKV))).length ++ (List.replicate (wI ((a0.length : Int) + 1)).toNat (GMsgReply.mk 0 0 0 0 false ([] : List UInt8) ([] : List GApiKV))).drop a0.length).set ((wI ((wI ((a0.length : Int) + 1)) - 1)).toNat) a1).length))) rfl (congrArg (fun n => AV.s (.one (.ls 1 n))) List.length_set.symm) ?_
  refine stell 15 (y := .s (.one (.ls 1 (a0.take (List.replicate (wI ((a0.length : Int) + 1)).toNat (GMsgReply.mk 0 0 0 0 false ([] : List UInt8) ([] : List GApiKV))).length ++ (List.replicate (wI ((a0.length : Int) + 1)).toNat (GMsgReply.mk 0 0 0 0 false ([] : List UInt8) ([] : List GApiKV))).drop a0.length).length))) (.s (.one (.ls 1 ((a0.take (List.replicate (wI ((a0.length : Int) + 1)).toNat (GMsgReply.mk 0 0 0 0 false ([] : List UInt8) ([] : List GApiKV))).length ++ (List.replicate (wI ((a0.length : Int) + 1)).toNat (GMsgReply.mk 0 0 0 0 false ([] : List UInt8) ([] : List GApiKV))).drop a0.length).set ((wI ((wI ((a0.length : Int) + 1)) - 1)).toNat) a1).length))) rfl (congrArg (fun n => AV.s (.one (.ls 1 n))) List.length_set.symm) ?_
  refine snil ?_
  refine cseq ?_
  refine cseq ?_
  refine cregion ?_
  refine sv rfl (opv_mv rfl) ?_
  refine sv rfl (opv_leq rfl rfl) ?_
  refine snil ?_
  refine ccond rfl (fun hc => ?_) (fun hc => ?_)
  · replace h := ite_t hc h
    clear hc
    refine cseq ?_
    refine cregion ?_
    refine sv rfl (opv_mv rfl) ?_
    refine sv rfl (opv_mv rfl) ?_
    refine sv rfl (opv_mv rfl) ?_
    refine spub 22 rfl (by (repeat' first | exact PubA.nil _ | apply PubA.cons | apply PubV.one | apply PubV.agg | exact PubL.nil | exact PubL.ls _ _ _ _ _ _ rfl (flat_len (f := eGMsgReply) (fun _ => rfl) _).symm | exact PubL.id _ rfl | exact PubLs.nil _ | apply PubLs.cons)) ?_
    obtain ⟨c3, hc3, h⟩ := bind_eq h
    obtain ⟨hs4, h⟩ := chk_eq h
    refine sv rfl (opv_cut3 (f := eGMsgReply) (lo := 0) (hi := (wI ((a0.length : Int) + 1))) (mx := (wI ((a0.length : Int) + 1))) si44 (fun _ => rfl) rfl rfl rfl bound_none (bound_some rfl (Int.le_trans (cut_eq hc3).1.1 (cut_eq hc3).1.2.1)) (bound_some rfl (Int.le_trans (Int.le_trans (cut_eq hc3).1.1 (cut_eq hc3).1.2.1) hs4.1)) hc3 hs4) ?_
    refine sv rfl (opv_as rfl) ?_
    refine snil ?_
    refine cret ?_
    refine then_ret ?_
    obtain rfl := Option.some.inj h
    refine ⟨Or.inr rfl, _, _, _, (resVs_cons (ResV.tmp _ _ rfl) resVs_nil), (pubA_id rfl), ?_⟩
    rfl
  · replace h := ite_f hc h
    clear hc
    refine cskip ?_
    refine then_normal ?_
    refine cseq ?_
    refine cregion ?_
    refine sv rfl (opv_mv rfl) ?_
    refine sv rfl (opv_mv rfl) ?_
    obtain ⟨hj5, h⟩ := chk_eq h
    refine sslcopy (f := eGMsgReply) (xs := ((a0.take (List.replicate (wI ((a0.length : Int) + 1)).toNat (GMsgReply.mk 0 0 0 0 false ([] : List UInt8) ([] : List GApiKV))).length ++ (List.replicate (wI ((a0.length : Int) + 1)).toNat (GMsgReply.mk 0 0 0 0 false ([] : List UInt8) ([] : List GApiKV))).drop a0.length).set ((wI ((wI ((a0.length : Int) + 1)) - 1)).toNat) a1)) rfl rfl si44 (fun _ => rfl) rfl rfl rfl rfl rfl rfl hj5 ?_
    refine stell 11 (y := .s (.one (.ls 1 ((a0.take (List.replicate (wI ((a0.length : Int) + 1)).toNat (GMsgReply.mk 0 0 0 0 false ([] : List UInt8) ([] : List GApiKV))).length ++ (List.replicate (wI ((a0.length : Int) + 1)).toNat (GMsgReply.mk 0 0 0 0 false ([] : List UInt8) ([] : List GApiKV))).drop a0.length).set ((wI ((wI ((a0.length : Int) + 1)) - 1)).toNat) a1).length))) (.s (.one (.ls 1 (((a0.take (List.replicate (wI ((a0.length : Int) + 1)).toNat (GMsgReply.mk 0 0 0 0 false ([] : List UInt8) ([] : List GApiKV))).length ++ (List.replicate (wI ((a0.length : Int) + 1)).toNat (GMsgReply.mk 0 0 0 0 false ([] : List UInt8) ([] : List GApiKV))).drop a0.length).set ((wI ((wI ((a0.length : Int) + 1)) - 1)).toNat) a1).drop (1 : Int).toNat ++ ((a0.take (List.replicate (wI ((a0.length : Int) + 1)).toNat (GMsgReply.mk 0 0 0 0 false ([] : List UInt8) ([] : List GApiKV))).length ++ (List.replicate (wI ((a0.length : Int) + 1)).toNat (GMsgReply.mk 0 0 0 0 false ([] : List UInt8) ([] : List GApiKV))).drop a0.length).set ((wI ((wI ((a0.length : Int) + 1)) - 1)).toNat) a1).drop (((a0.take (List.replicate (wI ((a0.length : Int) + 1)).toNat (GMsgReply.mk 0 0 0 0 false ([] : List UInt8) ([] : List GApiKV))).length ++ (List.replicate (wI ((a0.length : Int) + 1)).toNat (GMsgReply.mk 0 0 0 0 false ([] : List UInt8) ([] : List GApiKV))).drop a0.length).set ((wI ((wI ((a0.length : Int) + 1)) - 1)).toNat) a1).length - (1 : Int).toNat)).length))) rfl (congrArg (fun n => AV.s (.one (.ls 1 n))) (slcopy_len hj5)) ?_
    refine stell 6 (y := .s (.one (.ls 1 ((a0.take (List.replicate (wI ((a0.length : Int) + 1)).toNat (GMsgReply.mk 0 0 0 0 false ([] : List UInt8) ([] : List GApiKV))).length ++ (List.replicate (wI ((a0.length : Int) + 1)).toNat (GMsgReply.mk 0 0 0 0 false ([] : List UInt8) ([] : List GApiKV))).drop a0.length).set ((wI ((wI ((a0.length : Int) + 1)) - 1)).toNat) a1).length))) (.s (.one (.ls 1 (((a0.take (List.replicate (wI ((a0.length : Int) + 1)).toNat (GMsgReply.mk 0 0 0 0 false ([] : List UInt8) ([] : List GApiKV))).length ++ (List.replicate (wI ((a0.length : Int) + 1)).toNat (GMsgReply.mk 0 0 0 0 false ([] : List UInt8) ([] : List GApiKV))).drop a0.length).set ((wI ((wI ((a0.length : Int) + 1)) - 1)).toNat) a1).drop (1 : Int).toNat ++ ((a0.take (List.replicate (wI ((a0.length : Int) + 1)).toNat (GMsgReply.mk 0 0 0 0 false ([] : List UInt8) ([] : List GApiKV))).length ++ (List.replicate (wI ((a0.length : Int) + 1)).toNat (GMsgReply.mk 0 0 0 0 false ([] : List UInt8) ([] : List GApiKV))).drop a0.length).set ((wI ((wI ((a0.length : Int) + 1)) - 1)).toNat) a1).drop (((a0.take (List.replicate (wI ((a0.length : Int) + 1)).toNat (GMsgReply.mk 0 0 0 0 false ([] : List UInt8) ([] : List GApiKV))).length ++ (List.replicate (wI ((a0.length : Int) + 1)).toNat (GMsgReply.mk 0 0 0 0 false ([] : List UInt8) ([] : List GApiKV))).drop a0.length).set ((wI ((wI ((a0.length : Int) + 1)) - 1)).toNat) a1).length - (1 : Int).toNat)).length))) rfl (congrArg (fun n => AV.s (.one (.ls 1 n))) (slcopy_len hj5)) ?_
    refine stell 12 (y := .s (.one (.ls 1 ((a0.take (List.replicate (wI ((a0.length : Int) + 1)).toNat (GMsgReply.mk 0 0 0 0 false ([] : List UInt8) ([] : List GApiKV))).length ++ (List.replicate (wI ((a0.length : Int) + 1)).toNat (GMsgReply.mk 0 0 0 0 false ([] : List UInt8) ([] : List GApiKV))).drop a0.length).set ((wI ((wI ((a0.length : Int) + 1)) - 1)).toNat) a1).length))) (.s (.one (.ls 1 (((a0.take (List.replicate (wI ((a0.length : Int) + 1)).toNat (GMsgReply.mk 0 0 0 0 false ([] : List UInt8) ([] : List GApiKV))).length ++ (List.replicate (wI ((a0.length : Int) + 1)).toNat (GMsgReply.mk 0 0 0 0 false ([] : List UInt8) ([] : List GApiKV))).drop a0.length).set ((wI ((wI ((a0.length : Int) + 1)) - 1)).toNat) a1).drop (1 : Int).toNat ++ ((a0.take (List.replicate (wI ((a0.length : Int) + 1)).toNat (GMsgReply.mk 0 0 0 0 false ([] : List UInt8) ([] : List GApiKV))).length ++ (List.replicate (wI ((a0.length : Int) + 1)).toNat (GMsgReply.mk 0 0 0 0 false ([] : List UInt8) ([] : List GApiKV))).drop a0.length).set ((wI ((wI ((a0.length : Int) + 1)) - 1)).toNat) a1).drop (((a0.take (List.replicate (wI ((a0.length : Int) + 1)).toNat (GMsgReply.mk 0 0 0 0 false ([] : List UInt8) ([] : List GApiKV))).length ++ (List.replicate (wI ((a0.length : Int) + 1)).toNat (GMsgReply.mk 0 0 0 0 false ([] : List UInt8) ([] : List GApiKV))).drop a0.length).set ((wI ((wI ((a0.length : Int) + 1)) - 1)).toNat) a1).length - (1 : Int).toNat)).length))) rfl (congrArg (fun n => AV.s (.one (.ls 1 n))) (slcopy_len hj5)) ?_
    refine stell 15 (y := .s (.one (.ls 1 ((a0.take (List.replicate (wI ((a0.length : Int) + 1)).toNat (GMsgReply.mk 0 0 0 0 false ([] : List UInt8) ([] : List GApiKV))).length ++ (List.replicate (wI ((a0.length : Int) + 1)).toNat (GMsgReply.mk 0 0 0 0 false ([] : List UInt8) ([] : List GApiKV))).drop a0.length).set ((wI ((wI ((a0.length : Int) + 1)) - 1)).toNat) a1).length))) (.s (.one (.ls 1 (((a0.take (List.replicate (wI ((a0.length : Int) + 1)).toNat (GMsgReply.mk 0 0 0 0 false ([] : List UInt8) ([] : List GApiKV))).length ++ (List.replicate (wI ((a0.length : Int) + 1)).toNat (GMsgReply.mk 0 0 0 0 false ([] : List UInt8) ([] : List GApiKV))).drop a0.length).set ((wI ((wI ((a0.length : Int) + 1)) - 1)).toNat) a1).drop (1 : Int).toNat ++ ((a0.take (List.replicate (wI ((a0.length : Int) + 1)).toNat (GMsgReply.mk 0 0 0 0 false ([] : List UInt8) ([] : List GApiKV))).length ++ (List.replicate (wI ((a0.length : Int) + 1)).toNat (GMsgReply.mk 0 0 0 0 false ([] : List UInt8) ([] : List GApiKV))).drop a0.length).set ((wI ((wI ((a0.length : Int) + 1)) - 1)).toNat) a1).drop (((a0.take (List.replicate (wI ((a0.length : Int) + 1)).toNat (GMsgReply.mk 0 0 0 0 false ([] : List UInt8) ([] : List GApiKV))).length ++ (List.replicate (wI ((a0.length : Int) + 1)).toNat (GMsgReply.mk 0 0 0 0 false ([] : List UInt8) ([] : List GApiKV))).drop a0.length).set ((wI ((wI ((a0.length : Int) + 1)) - 1)).toNat) a1).length - (1 : Int).toNat)).length))) rfl (congrArg (fun n => AV.s (.one (.ls 1 n))) (slcopy_len hj5)) ?_
    refine stell 26 (y := .s (.one (.ls 1 ((a0.take (List.replicate (wI ((a0.length : Int) + 1)).toNat (GMsgReply.mk 0 0 0 0 false ([] : List UInt8) ([] : List GApiKV))).length ++ (List.replicate (wI ((a0.length : Int) + 1)).toNat (GMsgReply.mk 0 0 0 0 false ([] : List UInt8) ([] : List GApiKV))).drop a0.length).set ((wI ((wI ((a0.length : Int) + 1)) - 1)).toNat) a1).length))) (.s (.one (.ls 1 (((a0.take (List.replicate (wI ((a0.length : Int) + 1)).toNat (GMsgReply.mk 0 0 0 0 false ([] : List UInt8) ([] : List GApiKV))).length ++ (List.replicate (wI ((a0.length : Int) + 1)).toNat (GMsgReply.mk 0 0 0 0 false ([] : List UInt8) ([] : List GApiKV))).drop a0.length).set ((wI ((wI ((a0.length : Int) + 1)) - 1)).toNat) a1).drop (1 : Int).toNat ++ ((a0.take (List.replicate (wI ((a0.length : Int) + 1)).toNat (GMsgReply.mk 0 0 0 0 false ([] : List UInt8) ([] : List GApiKV))).length ++ (List.replicate (wI ((a0.length : Int) + 1)).toNat (GMsgReply.mk 0 0 0 0 false ([] : List UInt8) ([] : List GApiKV))).drop a0.length).set ((wI ((wI ((a0.length : Int) + 1)) - 1)).toNat) a1).drop (((a0.take (List.replicate (wI ((a0.length : Int) + 1)).toNat (GMsgReply.mk 0 0 0 0 false ([] : List UInt8) ([] : List GApiKV))).length ++ (List.replicate (wI ((a0.length : Int) + 1)).toNat (GMsgReply.mk 0 0 0 0 false ([] : List UInt8) ([] : List GApiKV))).drop a0.length).set ((wI ((wI ((a0.length : Int) + 1)) - 1)).toNat) a1).length - (1 : Int).toNat)).length))) rfl (congrArg (fun n => AV.s (.one (.ls 1 n))) (slcopy_len hj5)) ?_
    refine stell 27 (y := .s (.one (.ls 1 ((a0.take (List.replicate (wI ((a0.length : Int) + 1)).toNat (GMsgReply.mk 0 0 0 0 false ([] : List UInt8) ([] : List GApiKV))).length ++ (List.replicate (wI ((a0.length : Int) + 1)).toNat (GMsgReply.mk 0 0 0 0 false ([] : List UInt8) ([] : List GApiKV))).drop a0.length).set ((wI ((wI ((a0.length : Int) + 1)) - 1)).toNat) a1).length))) (.s (.one (.ls 1 (((a0.take (List.replicate (wI ((a0.length : Int) + 1)).toNat (GMsgReply.mk 0 0 0 0 false ([] : List UInt8) ([] : List GApiKV))).length ++ (List.replicate (wI ((a0.length : Int) + 1)).toNat (GMsgReply.mk 0 0 0 0 false ([] : List UInt8) ([] : List GApiKV))).drop a0.length).set ((wI ((wI ((a0.length : Int) + 1)) - 1)).toNat) a1).drop (1 : Int).toNat ++ ((a0.take (List.replicate (wI ((a0.length : Int) + 1)).toNat (GMsgReply.mk 0 0 0 0 false ([] : List UInt8) ([] : List GApiKV))).length ++ (List.replicate (wI ((a0.length : Int) + 1)).toNat (GMsgReply.mk 0 0 0 0 false ([] : List UInt8) ([] : List GApiKV))).drop a0.length).set ((wI ((wI ((a0.length : Int) + 1)) - 1)).toNat) a1).drop (((a0.take (List.replicate (wI ((a0.length : Int) + 1)).toNat (GMsgReply.mk 0 0 0 0 false ([] : List UInt8) ([] : List GApiKV))).length ++ (List.replicate (wI ((a0.length : Int) + 1)).toNat (GMsgReply.mk 0 0 0 0 false ([] : List UInt8) ([] : List GApiKV))).drop a0.length).set ((wI ((wI ((a0.length : Int) + 1)) - 1)).toNat) a1).length - (1 : Int).toNat)).length))) rfl (congrArg (fun n => AV.s (.one (.ls 1 n))) (slcopy_len hj5)) ?_
    refine snil ?_
    refine cseq ?_
    refine cregion ?_
    refine sv rfl (opv_mv rfl) ?_
    refine sv rfl (opv_mv rfl) ?_
    refine sv rfl (opv_sub rfl rfl) ?_
    refine sv rfl (opv_mv rfl) ?_
    refine sv rfl (opv_sub rfl rfl) ?_
    refine spub 30 rfl (by (repeat' first | exact PubA.nil _ | apply PubA.cons | apply PubV.one | apply PubV.agg | exact PubL.nil | exact PubL.ls _ _ _ _ _ _ rfl (flat_len (f := eGMsgReply) (fun _ => rfl) _).symm | exact PubL.id _ rfl | exact PubLs.nil _ | apply PubLs.cons)) ?_
    obtain ⟨c6, hc6, h⟩ := bind_eq h
    obtain ⟨hs7, h⟩ := chk_eq h
    refine sv rfl (opv_cut3 (f := eGMsgReply) (lo := 0) (hi := (wI ((wI ((a0.length : Int) + 1)) - 1))) (mx := (wI ((wI ((a0.length : Int) + 1)) - 1))) si44 (fun _ => rfl) rfl rfl rfl bound_none (bound_some rfl (Int.le_trans (cut_eq hc6).1.1 (cut_eq hc6).1.2.1)) (bound_some rfl (Int.le_trans (Int.le_trans (cut_eq hc6).1.1 (cut_eq hc6).1.2.1) hs7.1)) hc6 hs7) ?_
    refine sv rfl (opv_as rfl) ?_
    refine snil ?_
    refine cret ?_
    obtain rfl := Option.some.inj h
    refine ⟨Or.inr rfl, _, _, _, (resVs_cons (ResV.tmp _ _ rfl) resVs_nil), (pubA_id rfl), ?_⟩
    rfl

def m16_pipe_Answer (a0 : GPipePipe) (a1 : GMsgReply) : Option (GPipePipe × GMsgReply × Int) :=
  (m27_pipe_Sane (GPipePipe.mk (GSeqsWindow.mk a0.Win.Base a0.Win.Bits) a0.Next a0.Wait a0.Past)).bind fun v1 => if (!v1) then (some ((GPipePipe.mk (GSeqsWindow.mk 0 (0#64)) 0 ([] : List GMsgReq) ([] : List GMsgReply)), (GMsgReply.mk 0 0 0 0 false ([] : List UInt8) ([] : List GApiKV)), 1)) else ((m19_pipe_Ready (GPipePipe.mk (GSeqsWindow.mk a0.Win.Base a0.Win.Bits) a0.Next a0.Wait a0.Past)).bind fun v2 => if (!v2.2) then (some ((GPipePipe.mk (GSeqsWindow.mk 0 (0#64)) 0 ([] : List GMsgReq) ([] : List GMsgReply)), (GMsgReply.mk 0 0 0 0 false ([] : List UInt8) ([] : List GApiKV)), 7)) else ((m38_msg_SaneReply (GMsgReply.mk v2.1.Kind v2.1.Seq a1.Code a1.N a1.Found a1.Val a1.List)).bind fun v3 => if (!v3) then (some ((GPipePipe.mk (GSeqsWindow.mk 0 (0#64)) 0 ([] : List GMsgReq) ([] : List GMsgReply)), (GMsgReply.mk 0 0 0 0 false ([] : List UInt8) ([] : List GApiKV)), 1)) else ((cut a0.Wait 1 (a0.Wait.length : Int)).bind fun c4 => (m39_slices_Clone c4).bind fun v5 => (m40_pipe_passed a0.Past (GMsgReply.mk v2.1.Kind v2.1.Seq a1.Code a1.N a1.Found a1.Val a1.List)).bind fun v6 => some ((GPipePipe.mk (GSeqsWindow.mk a0.Win.Base a0.Win.Bits) (wI (a0.Next + 1)) v5 v6), (GMsgReply.mk v2.1.Kind v2.1.Seq a1.Code a1.N a1.Found a1.Val a1.List), 0))))

set_option maxRecDepth 100000 in
theorem m16_pipe_Answer_c {a0 : GPipePipe} {a1 : GMsgReply} {r : GPipePipe × GMsgReply × Int} (h : m16_pipe_Answer a0 a1 = some r) : CallsA Tryd.prog 16 [.agg [.i .i64 a0.Win.Base, .i .u64 (a0.Win.Bits.toNat : Int), .i .i64 a0.Next, .sl a0.Wait.length (a0.Wait.flatMap eGMsgReq), .sl a0.Past.length (a0.Past.flatMap eGMsgReply)], .agg [.i .i64 a1.Kind, .i .i64 a1.Seq, .i .i64 a1.Code, .i .i64 a1.N, .b a1.Found, .sl a1.Val.length (a1.Val.flatMap eU8), .sl a1.List.length (a1.List.flatMap eGApiKV)]] (· = .tup [.agg [.i .i64 r.1.Win.Base, .i .u64 (r.1.Win.Bits.toNat : Int), .i .i64 r.1.Next, .sl r.1.Wait.length (r.1.Wait.flatMap eGMsgReq), .sl r.1.Past.length (r.1.Past.flatMap eGMsgReply)], .agg [.i .i64 r.2.1.Kind, .i .i64 r.2.1.Seq, .i .i64 r.2.1.Code, .i .i64 r.2.1.N, .b r.2.1.Found, .sl r.2.1.Val.length (r.2.1.Val.flatMap eU8), .sl r.2.1.List.length (r.2.1.List.flatMap eGApiKV)], .one (.i .i64 r.2.2)]) := by
  unfold m16_pipe_Answer at h
  refine callsA_of Tryd.func16 rfl (nt := 51) rfl (Nat.le_of_ble_eq_true rfl) ?_
  intro w0 S0
  refine cseq ?_
  refine cregion ?_
  refine sbox rfl rfl ?_
  refine sbox rfl rfl ?_
  refine salloc rfl zi46 ?_
  refine salloc rfl zi48 ?_
  refine sv rfl (opv_as rfl) ?_
  refine snil ?_
  refine cseq ?_
  refine cseq ?_
  refine cregion ?_
  refine sv rfl (opv_loadN ti46 rfl (.lp _ _ _ rfl) (Nat.le_of_ble_eq_true rfl)) ?_
  obtain ⟨v1, hv1, h⟩ := bind_eq h
  refine scall1 rfl fn27 (opnds_cons rfl opnds_nil) (pubA_id rfl) (m27_pipe_Sane_c hv1) ?_
  refine sv rfl (opv_not rfl) ?_
  refine snil ?_
  refine ccond rfl (fun hc => ?_) (fun hc => ?_)
  · replace h := ite_t hc h
    clear hc
    refine cseq ?_
    refine cregion ?_
    refine sv rfl (opv_build zi46 pi46 parts_nil (.nil _)) ?_
    refine sv rfl (opv_build zi48 pi48 parts_nil (.nil _)) ?_
    refine sstore sz46 rfl rfl rfl rfl (Nat.le_of_ble_eq_true rfl) ?_
    refine smem [.box [.i .i64 a0.Win.Base, .i .u64 (a0.Win.Bits.toNat : Int), .i .i64 a0.Next, .sl a0.Wait.length (a0.Wait.flatMap eGMsgReq), .sl a0.Past.length (a0.Past.flatMap eGMsgReply)], .box [.i .i64 a1.Kind, .i .i64 a1.Seq, .i .i64 a1.Code, .i .i64 a1.N, .b a1.Found, .sl a1.Val.length (a1.Val.flatMap eU8), .sl a1.List.length (a1.List.flatMap eGApiKV)], .box [.i .i64 0, .i .u64 ((0#64).toNat : Int), .i .i64 0, .raw (.slice none 0 0), .raw (.slice none 0 0)], .box [.i .i64 0, .i .i64 0, .i .i64 0, .i .i64 0, .b false, .raw (.slice none 0 0), .raw (.slice none 0 0)]] rfl ?_
    refine sstore sz48 rfl rfl rfl rfl (Nat.le_of_ble_eq_true rfl) ?_
    refine smem [.box [.i .i64 a0.Win.Base, .i .u64 (a0.Win.Bits.toNat : Int), .i .i64 a0.Next, .sl a0.Wait.length (a0.Wait.flatMap eGMsgReq), .sl a0.Past.length (a0.Past.flatMap eGMsgReply)], .box [.i .i64 a1.Kind, .i .i64 a1.Seq, .i .i64 a1.Code, .i .i64 a1.N, .b a1.Found, .sl a1.Val.length (a1.Val.flatMap eU8), .sl a1.List.length (a1.List.flatMap eGApiKV)], .box [.i .i64 0, .i .u64 ((0#64).toNat : Int), .i .i64 0, .raw (.slice none 0 0), .raw (.slice none 0 0)], .box [.i .i64 0, .i .i64 0, .i .i64 0, .i .i64 0, .b false, .raw (.slice none 0 0), .raw (.slice none 0 0)]] rfl ?_
    refine sv rfl (opv_as rfl) ?_
    refine snil ?_
    refine cret ?_
    refine then_ret ?_
    obtain rfl := Option.some.inj h
    refine ⟨Or.inr rfl, _, _, _, (resVs_cons (ResV.agg _ _ _ _ _ ti46 rfl (.lp _ _ _ rfl) (Nat.le_of_ble_eq_true rfl)) (resVs_cons (ResV.agg _ _ _ _ _ ti48 rfl (.lp _ _ _ rfl) (Nat.le_of_ble_eq_true rfl)) (resVs_cons (ResV.tmp _ _ rfl) resVs_nil))), (pubC rfl), ?_⟩
    rfl
  · replace h := ite_f hc h
    clear hc
    refine cskip ?_
    refine then_normal ?_
    refine cseq ?_
    refine cregion ?_
    refine sv rfl (opv_loadN ti46 rfl (.lp _ _ _ rfl) (Nat.le_of_ble_eq_true rfl)) ?_
    obtain ⟨v2, hv2, h⟩ := bind_eq h
    refine scall1 rfl fn19 (opnds_cons rfl opnds_nil) (pubA_id rfl) (m19_pipe_Ready_c hv2) ?_
    refine sv rfl (opv_mvt rfl) ?_
    refine sv rfl (opv_extract rfl rfl) ?_
    refine sv rfl (opv_extract rfl rfl) ?_
    refine salloc rfl zi51 ?_
    refine sstore sz51 rfl rfl rfl rfl (Nat.le_of_ble_eq_true rfl) ?_
    refine smem [.box [.i .i64 a0.Win.Base, .i .u64 (a0.Win.Bits.toNat : Int), .i .i64 a0.Next, .sl a0.Wait.length (a0.Wait.flatMap eGMsgReq), .sl a0.Past.length (a0.Past.flatMap eGMsgReply)], .box [.i .i64 a1.Kind, .i .i64 a1.Seq, .i .i64 a1.Code, .i .i64 a1.N, .b a1.Found, .sl a1.Val.length (a1.Val.flatMap eU8), .sl a1.List.length (a1.List.flatMap eGApiKV)], .box [.i .i64 0, .i .u64 ((0#64).toNat : Int), .i .i64 0, .raw (.slice none 0 0), .raw (.slice none 0 0)], .box [.i .i64 0, .i .i64 0, .i .i64 0, .i .i64 0, .b false, .raw (.slice none 0 0), .raw (.slice none 0 0)], .box [.i .i64 v2.1.Kind, .i .i64 v2.1.Seq, .i .i64 v2.1.Token, .i .i64 v2.1.Attempt, .b v2.1.RO, .sl v2.1.Key.length (v2.1.Key.flatMap eU8), .sl v2.1.Val.length (v2.1.Val.flatMap eU8), .sl v2.1.Rng.Lo.length (v2.1.Rng.Lo.flatMap eU8), .sl v2.1.Rng.Hi.length (v2.1.Rng.Hi.flatMap eU8), .b v2.1.Rng.Open]] rfl ?_
    refine sv rfl (opv_as rfl) ?_
    refine snil ?_
    refine cseq ?_
    refine cseq ?_
    refine cregion ?_
    refine sv rfl (opv_mv rfl) ?_
    refine sv rfl (opv_not rfl) ?_
    refine snil ?_
    refine ccond rfl (fun hc => ?_) (fun hc => ?_)
    · replace h := ite_t hc h
      clear hc
      refine cseq ?_
      refine cregion ?_
      refine sv rfl (opv_build zi46 pi46 parts_nil (.nil _)) ?_
      refine sv rfl (opv_build zi48 pi48 parts_nil (.nil _)) ?_
      refine sstore sz46 rfl rfl rfl rfl (Nat.le_of_ble_eq_true rfl) ?_
      refine smem [.box [.i .i64 a0.Win.Base, .i .u64 (a0.Win.Bits.toNat : Int), .i .i64 a0.Next, .sl a0.Wait.length (a0.Wait.flatMap eGMsgReq), .sl a0.Past.length (a0.Past.flatMap eGMsgReply)], .box [.i .i64 a1.Kind, .i .i64 a1.Seq, .i .i64 a1.Code, .i .i64 a1.N, .b a1.Found, .sl a1.Val.length (a1.Val.flatMap eU8), .sl a1.List.length (a1.List.flatMap eGApiKV)], .box [.i .i64 0, .i .u64 ((0#64).toNat : Int), .i .i64 0, .raw (.slice none 0 0), .raw (.slice none 0 0)], .box [.i .i64 0, .i .i64 0, .i .i64 0, .i .i64 0, .b false, .raw (.slice none 0 0), .raw (.slice none 0 0)], .box [.i .i64 v2.1.Kind, .i .i64 v2.1.Seq, .i .i64 v2.1.Token, .i .i64 v2.1.Attempt, .b v2.1.RO, .sl v2.1.Key.length (v2.1.Key.flatMap eU8), .sl v2.1.Val.length (v2.1.Val.flatMap eU8), .sl v2.1.Rng.Lo.length (v2.1.Rng.Lo.flatMap eU8), .sl v2.1.Rng.Hi.length (v2.1.Rng.Hi.flatMap eU8), .b v2.1.Rng.Open]] rfl ?_
      refine sstore sz48 rfl rfl rfl rfl (Nat.le_of_ble_eq_true rfl) ?_
      refine smem [.box [.i .i64 a0.Win.Base, .i .u64 (a0.Win.Bits.toNat : Int), .i .i64 a0.Next, .sl a0.Wait.length (a0.Wait.flatMap eGMsgReq), .sl a0.Past.length (a0.Past.flatMap eGMsgReply)], .box [.i .i64 a1.Kind, .i .i64 a1.Seq, .i .i64 a1.Code, .i .i64 a1.N, .b a1.Found, .sl a1.Val.length (a1.Val.flatMap eU8), .sl a1.List.length (a1.List.flatMap eGApiKV)], .box [.i .i64 0, .i .u64 ((0#64).toNat : Int), .i .i64 0, .raw (.slice none 0 0), .raw (.slice none 0 0)], .box [.i .i64 0, .i .i64 0, .i .i64 0, .i .i64 0, .b false, .raw (.slice none 0 0), .raw (.slice none 0 0)], .box [.i .i64 v2.1.Kind, .i .i64 v2.1.Seq, .i .i64 v2.1.Token, .i .i64 v2.1.Attempt, .b v2.1.RO, .sl v2.1.Key.length (v2.1.Key.flatMap eU8), .sl v2.1.Val.length (v2.1.Val.flatMap eU8), .sl v2.1.Rng.Lo.length (v2.1.Rng.Lo.flatMap eU8), .sl v2.1.Rng.Hi.length (v2.1.Rng.Hi.flatMap eU8), .b v2.1.Rng.Open]] rfl ?_
      refine sv rfl (opv_as rfl) ?_
      refine snil ?_
      refine cret ?_
      refine then_ret ?_
      obtain rfl := Option.some.inj h
      refine ⟨Or.inr rfl, _, _, _, (resVs_cons (ResV.agg _ _ _ _ _ ti46 rfl (.lp _ _ _ rfl) (Nat.le_of_ble_eq_true rfl)) (resVs_cons (ResV.agg _ _ _ _ _ ti48 rfl (.lp _ _ _ rfl) (Nat.le_of_ble_eq_true rfl)) (resVs_cons (ResV.tmp _ _ rfl) resVs_nil))), (pubC rfl), ?_⟩
      rfl
    · replace h := ite_f hc h
      clear hc
      refine cskip ?_
      refine then_normal ?_
      refine cseq ?_
      refine cdraw_e [5, 7] [0, 1, 0, 4, 3, 19, 63, 127] [[.box [.i .i64 a0.Win.Base, .i .u64 (a0.Win.Bits.toNat : Int), .i .i64 a0.Next, .sl a0.Wait.length (a0.Wait.flatMap eGMsgReq), .sl a0.Past.length (a0.Past.flatMap eGMsgReply)], .box [.i .i64 a1.Kind, .i .i64 a1.Seq, .i .i64 a1.Code, .i .i64 a1.N, .b a1.Found, .sl a1.Val.length (a1.Val.flatMap eU8), .sl a1.List.length (a1.List.flatMap eGApiKV)], .box [.i .i64 0, .i .u64 ((0#64).toNat : Int), .i .i64 0, .raw (.slice none 0 0), .raw (.slice none 0 0)], .box [.i .i64 0, .i .i64 0, .i .i64 0, .i .i64 0, .b false, .raw (.slice none 0 0), .raw (.slice none 0 0)], .box [.i .i64 v2.1.Kind, .i .i64 v2.1.Seq, .i .i64 v2.1.Token, .i .i64 v2.1.Attempt, .b v2.1.RO, .sl v2.1.Key.length (v2.1.Key.flatMap eU8), .sl v2.1.Val.length (v2.1.Val.flatMap eU8), .sl v2.1.Rng.Lo.length (v2.1.Rng.Lo.flatMap eU8), .sl v2.1.Rng.Hi.length (v2.1.Rng.Hi.flatMap eU8), .b v2.1.Rng.Open]], [.box [.i .i64 a0.Win.Base, .i .u64 (a0.Win.Bits.toNat : Int), .i .i64 a0.Next, .sl a0.Wait.length (a0.Wait.flatMap eGMsgReq), .sl a0.Past.length (a0.Past.flatMap eGMsgReply)], .box [.i .i64 v2.1.Kind, .i .i64 a1.Seq, .i .i64 a1.Code, .i .i64 a1.N, .b a1.Found, .sl a1.Val.length (a1.Val.flatMap eU8), .sl a1.List.length (a1.List.flatMap eGApiKV)], .box [.i .i64 0, .i .u64 ((0#64).toNat : Int), .i .i64 0, .raw (.slice none 0 0), .raw (.slice none 0 0)], .box [.i .i64 0, .i .i64 0, .i .i64 0, .i .i64 0, .b false, .raw (.slice none 0 0), .raw (.slice none 0 0)], .box [.i .i64 v2.1.Kind, .i .i64 v2.1.Seq, .i .i64 v2.1.Token, .i .i64 v2.1.Attempt, .b v2.1.RO, .sl v2.1.Key.length (v2.1.Key.flatMap eU8), .sl v2.1.Val.length (v2.1.Val.flatMap eU8), .sl v2.1.Rng.Lo.length (v2.1.Rng.Lo.flatMap eU8), .sl v2.1.Rng.Hi.length (v2.1.Rng.Hi.flatMap eU8), .b v2.1.Rng.Open]], [.box [.i .i64 a0.Win.Base, .i .u64 (a0.Win.Bits.toNat : Int), .i .i64 a0.Next, .sl a0.Wait.length (a0.Wait.flatMap eGMsgReq), .sl a0.Past.length (a0.Past.flatMap eGMsgReply)], .box [.i .i64 v2.1.Kind, .i .i64 v2.1.Seq, .i .i64 a1.Code, .i .i64 a1.N, .b a1.Found, .sl a1.Val.length (a1.Val.flatMap eU8), .sl a1.List.length (a1.List.flatMap eGApiKV)], .box [.i .i64 0, .i .u64 ((0#64).toNat : Int), .i .i64 0, .raw (.slice none 0 0), .raw (.slice none 0 0)], .box [.i .i64 0, .i .i64 0, .i .i64 0, .i .i64 0, .b false, .raw (.slice none 0 0), .raw (.slice none 0 0)], .box [.i .i64 v2.1.Kind, .i .i64 v2.1.Seq, .i .i64 v2.1.Token, .i .i64 v2.1.Attempt, .b v2.1.RO, .sl v2.1.Key.length (v2.1.Key.flatMap eU8), .sl v2.1.Val.length (v2.1.Val.flatMap eU8), .sl v2.1.Rng.Lo.length (v2.1.Rng.Lo.flatMap eU8), .sl v2.1.Rng.Hi.length (v2.1.Rng.Hi.flatMap eU8), .b v2.1.Rng.Open]]] (by kernel_rfl) mixed (by kernel_rfl) (by decide) rfl rfl rfl rfl ?_
      refine ev (sees_at 0 rfl rfl) rfl rfl (opv_fieldAddr_lp fi51_0 rfl) ?_
      refine ev (sees_at 0 rfl rfl) rfl rfl (opv_load1 ti3 rfl (.lp _ _ _ rfl) rfl) ?_
      refine ev (sees_all (md := [.box [.i .i64 a0.Win.Base, .i .u64 (a0.Win.Bits.toNat : Int), .i .i64 a0.Next, .sl a0.Wait.length (a0.Wait.flatMap eGMsgReq), .sl a0.Past.length (a0.Past.flatMap eGMsgReply)], .dead, .box [.i .i64 0, .i .u64 ((0#64).toNat : Int), .i .i64 0, .raw (.slice none 0 0), .raw (.slice none 0 0)], .box [.i .i64 0, .i .i64 0, .i .i64 0, .i .i64 0, .b false, .raw (.slice none 0 0), .raw (.slice none 0 0)], .box [.i .i64 v2.1.Kind, .i .i64 v2.1.Seq, .i .i64 v2.1.Token, .i .i64 v2.1.Attempt, .b v2.1.RO, .sl v2.1.Key.length (v2.1.Key.flatMap eU8), .sl v2.1.Val.length (v2.1.Val.flatMap eU8), .sl v2.1.Rng.Lo.length (v2.1.Rng.Lo.flatMap eU8), .sl v2.1.Rng.Hi.length (v2.1.Rng.Hi.flatMap eU8), .b v2.1.Rng.Open]]) ⟨⟨rfl, ⟨trivial, ⟨rfl, ⟨rfl, ⟨rfl, trivial⟩⟩⟩⟩⟩, ⟨⟨rfl, ⟨trivial, ⟨rfl, ⟨rfl, ⟨rfl, trivial⟩⟩⟩⟩⟩, ⟨⟨rfl, ⟨trivial, ⟨rfl, ⟨rfl, ⟨rfl, trivial⟩⟩⟩⟩⟩, trivial⟩⟩⟩) rfl rfl (opv_fieldAddr_lp fi51_1 rfl) ?_
      refine ev (sees_all (md := [.box [.i .i64 a0.Win.Base, .i .u64 (a0.Win.Bits.toNat : Int), .i .i64 a0.Next, .sl a0.Wait.length (a0.Wait.flatMap eGMsgReq), .sl a0.Past.length (a0.Past.flatMap eGMsgReply)], .dead, .box [.i .i64 0, .i .u64 ((0#64).toNat : Int), .i .i64 0, .raw (.slice none 0 0), .raw (.slice none 0 0)], .box [.i .i64 0, .i .i64 0, .i .i64 0, .i .i64 0, .b false, .raw (.slice none 0 0), .raw (.slice none 0 0)], .box [.i .i64 v2.1.Kind, .i .i64 v2.1.Seq, .i .i64 v2.1.Token, .i .i64 v2.1.Attempt, .b v2.1.RO, .sl v2.1.Key.length (v2.1.Key.flatMap eU8), .sl v2.1.Val.length (v2.1.Val.flatMap eU8), .sl v2.1.Rng.Lo.length (v2.1.Rng.Lo.flatMap eU8), .sl v2.1.Rng.Hi.length (v2.1.Rng.Hi.flatMap eU8), .b v2.1.Rng.Open]]) ⟨⟨rfl, ⟨trivial, ⟨rfl, ⟨rfl, ⟨rfl, trivial⟩⟩⟩⟩⟩, ⟨⟨rfl, ⟨trivial, ⟨rfl, ⟨rfl, ⟨rfl, trivial⟩⟩⟩⟩⟩, ⟨⟨rfl, ⟨trivial, ⟨rfl, ⟨rfl, ⟨rfl, trivial⟩⟩⟩⟩⟩, trivial⟩⟩⟩) rfl rfl (opv_load1 ti3 rfl (.lp _ _ _ rfl) rfl) ?_
      refine ev (sees_at 0 rfl rfl) rfl rfl (opv_fieldAddr_lp fi48_0 rfl) ?_
      refine ee0 0 rfl rfl rfl rfl (fun ζ => ?_) ?_
      · refine sstore sz3 rfl rfl rfl rfl (Nat.le_of_ble_eq_true rfl) ?_
        refine smem [.box [.i .i64 a0.Win.Base, .i .u64 (a0.Win.Bits.toNat : Int), .i .i64 a0.Next, .sl a0.Wait.length (a0.Wait.flatMap eGMsgReq), .sl a0.Past.length (a0.Past.flatMap eGMsgReply)], .box [.i .i64 v2.1.Kind, .i .i64 a1.Seq, .i .i64 a1.Code, .i .i64 a1.N, .b a1.Found, .sl a1.Val.length (a1.Val.flatMap eU8), .sl a1.List.length (a1.List.flatMap eGApiKV)], .box [.i .i64 0, .i .u64 ((0#64).toNat : Int), .i .i64 0, .raw (.slice none 0 0), .raw (.slice none 0 0)], .box [.i .i64 0, .i .i64 0, .i .i64 0, .i .i64 0, .b false, .raw (.slice none 0 0), .raw (.slice none 0 0)], .box [.i .i64 v2.1.Kind, .i .i64 v2.1.Seq, .i .i64 v2.1.Token, .i .i64 v2.1.Attempt, .b v2.1.RO, .sl v2.1.Key.length (v2.1.Key.flatMap eU8), .sl v2.1.Val.length (v2.1.Val.flatMap eU8), .sl v2.1.Rng.Lo.length (v2.1.Rng.Lo.flatMap eU8), .sl v2.1.Rng.Hi.length (v2.1.Rng.Hi.flatMap eU8), .b v2.1.Rng.Open]] rfl ?_
        exact eend
      refine ev (sees_at 1 rfl rfl) rfl rfl (opv_fieldAddr_lp fi48_1 rfl) ?_
      refine ee0 1 rfl rfl rfl rfl (fun ζ => ?_) ?_
      · refine sstore sz3 rfl rfl rfl rfl (Nat.le_of_ble_eq_true rfl) ?_
        refine smem [.box [.i .i64 a0.Win.Base, .i .u64 (a0.Win.Bits.toNat : Int), .i .i64 a0.Next, .sl a0.Wait.length (a0.Wait.flatMap eGMsgReq), .sl a0.Past.length (a0.Past.flatMap eGMsgReply)], .box [.i .i64 v2.1.Kind, .i .i64 v2.1.Seq, .i .i64 a1.Code, .i .i64 a1.N, .b a1.Found, .sl a1.Val.length (a1.Val.flatMap eU8), .sl a1.List.length (a1.List.flatMap eGApiKV)], .box [.i .i64 0, .i .u64 ((0#64).toNat : Int), .i .i64 0, .raw (.slice none 0 0), .raw (.slice none 0 0)], .box [.i .i64 0, .i .i64 0, .i .i64 0, .i .i64 0, .b false, .raw (.slice none 0 0), .raw (.slice none 0 0)], .box [.i .i64 v2.1.Kind, .i .i64 v2.1.Seq, .i .i64 v2.1.Token, .i .i64 v2.1.Attempt, .b v2.1.RO, .sl v2.1.Key.length (v2.1.Key.flatMap eU8), .sl v2.1.Val.length (v2.1.Val.flatMap eU8), .sl v2.1.Rng.Lo.length (v2.1.Rng.Lo.flatMap eU8), .sl v2.1.Rng.Hi.length (v2.1.Rng.Hi.flatMap eU8), .b v2.1.Rng.Open]] rfl ?_
        exact eend
      refine enil ?_
      refine then_normal ?_
      refine cseq ?_
      refine cseq ?_
      refine cregion ?_
      refine sv rfl (opv_loadN ti48 rfl (.lp _ _ _ rfl) (Nat.le_of_ble_eq_true rfl)) ?_
      obtain ⟨v3, hv3, h⟩ := bind_eq h
      refine scall1 rfl fn38 (opnds_cons rfl opnds_nil) (pubA_id rfl) (m38_msg_SaneReply_c hv3) ?_
      refine sv rfl (opv_not rfl) ?_
      refine snil ?_
      refine ccond rfl (fun hc => ?_) (fun hc => ?_)
      · replace h := ite_t hc h
        clear hc
        refine cseq ?_
        refine cregion ?_
        refine sv rfl (opv_build zi46 pi46 parts_nil (.nil _)) ?_
        refine sv rfl (opv_build zi48 pi48 parts_nil (.nil _)) ?_
        refine sstore sz46 rfl rfl rfl rfl (Nat.le_of_ble_eq_true rfl) ?_
        refine smem [.box [.i .i64 a0.Win.Base, .i .u64 (a0.Win.Bits.toNat : Int), .i .i64 a0.Next, .sl a0.Wait.length (a0.Wait.flatMap eGMsgReq), .sl a0.Past.length (a0.Past.flatMap eGMsgReply)], .box [.i .i64 v2.1.Kind, .i .i64 v2.1.Seq, .i .i64 a1.Code, .i .i64 a1.N, .b a1.Found, .sl a1.Val.length (a1.Val.flatMap eU8), .sl a1.List.length (a1.List.flatMap eGApiKV)], .box [.i .i64 0, .i .u64 ((0#64).toNat : Int), .i .i64 0, .raw (.slice none 0 0), .raw (.slice none 0 0)], .box [.i .i64 0, .i .i64 0, .i .i64 0, .i .i64 0, .b false, .raw (.slice none 0 0), .raw (.slice none 0 0)], .box [.i .i64 v2.1.Kind, .i .i64 v2.1.Seq, .i .i64 v2.1.Token, .i .i64 v2.1.Attempt, .b v2.1.RO, .sl v2.1.Key.length (v2.1.Key.flatMap eU8), .sl v2.1.Val.length (v2.1.Val.flatMap eU8), .sl v2.1.Rng.Lo.length (v2.1.Rng.Lo.flatMap eU8), .sl v2.1.Rng.Hi.length (v2.1.Rng.Hi.flatMap eU8), .b v2.1.Rng.Open]] rfl ?_
        refine sstore sz48 rfl rfl rfl rfl (Nat.le_of_ble_eq_true rfl) ?_
        refine smem [.box [.i .i64 a0.Win.Base, .i .u64 (a0.Win.Bits.toNat : Int), .i .i64 a0.Next, .sl a0.Wait.length (a0.Wait.flatMap eGMsgReq), .sl a0.Past.length (a0.Past.flatMap eGMsgReply)], .box [.i .i64 v2.1.Kind, .i .i64 v2.1.Seq, .i .i64 a1.Code, .i .i64 a1.N, .b a1.Found, .sl a1.Val.length (a1.Val.flatMap eU8), .sl a1.List.length (a1.List.flatMap eGApiKV)], .box [.i .i64 0, .i .u64 ((0#64).toNat : Int), .i .i64 0, .raw (.slice none 0 0), .raw (.slice none 0 0)], .box [.i .i64 0, .i .i64 0, .i .i64 0, .i .i64 0, .b false, .raw (.slice none 0 0), .raw (.slice none 0 0)], .box [.i .i64 v2.1.Kind, .i .i64 v2.1.Seq, .i .i64 v2.1.Token, .i .i64 v2.1.Attempt, .b v2.1.RO, .sl v2.1.Key.length (v2.1.Key.flatMap eU8), .sl v2.1.Val.length (v2.1.Val.flatMap eU8), .sl v2.1.Rng.Lo.length (v2.1.Rng.Lo.flatMap eU8), .sl v2.1.Rng.Hi.length (v2.1.Rng.Hi.flatMap eU8), .b v2.1.Rng.Open]] rfl ?_
        refine sv rfl (opv_as rfl) ?_
        refine snil ?_
        refine cret ?_
        refine then_ret ?_
        obtain rfl := Option.some.inj h
        refine ⟨Or.inr rfl, _, _, _, (resVs_cons (ResV.agg _ _ _ _ _ ti46 rfl (.lp _ _ _ rfl) (Nat.le_of_ble_eq_true rfl)) (resVs_cons (ResV.agg _ _ _ _ _ ti48 rfl (.lp _ _ _ rfl) (Nat.le_of_ble_eq_true rfl)) (resVs_cons (ResV.tmp _ _ rfl) resVs_nil))), (pubC rfl), ?_⟩
        rfl
      · replace h := ite_f hc h
        clear hc
        refine cskip ?_
        refine then_normal ?_
        refine cseq ?_
        refine chole ?_
        obtain ⟨c4, hc4, h⟩ := bind_eq h
        obtain ⟨v5, hv5, h⟩ := bind_eq h
        obtain ⟨v6, hv6, h⟩ := bind_eq h
        refine cdraw_e [14, 15] [0, 1, 0, 4, 12, 0, 32, 96, 224, 0, 512, 0, 4064, 8191, 0, 32767] [[.box [.i .i64 a0.Win.Base, .i .u64 (a0.Win.Bits.toNat : Int), .i .i64 a0.Next, .sl a0.Wait.length (a0.Wait.flatMap eGMsgReq), .sl a0.Past.length (a0.Past.flatMap eGMsgReply)], .box [.i .i64 v2.1.Kind, .i .i64 v2.1.Seq, .i .i64 a1.Code, .i .i64 a1.N, .b a1.Found, .sl a1.Val.length (a1.Val.flatMap eU8), .sl a1.List.length (a1.List.flatMap eGApiKV)], .box [.i .i64 0, .i .u64 ((0#64).toNat : Int), .i .i64 0, .raw (.slice none 0 0), .raw (.slice none 0 0)], .box [.i .i64 0, .i .i64 0, .i .i64 0, .i .i64 0, .b false, .raw (.slice none 0 0), .raw (.slice none 0 0)], .box [.i .i64 v2.1.Kind, .i .i64 v2.1.Seq, .i .i64 v2.1.Token, .i .i64 v2.1.Attempt, .b v2.1.RO, .sl v2.1.Key.length (v2.1.Key.flatMap eU8), .sl v2.1.Val.length (v2.1.Val.flatMap eU8), .sl v2.1.Rng.Lo.length (v2.1.Rng.Lo.flatMap eU8), .sl v2.1.Rng.Hi.length (v2.1.Rng.Hi.flatMap eU8), .b v2.1.Rng.Open], .hole], [.box [.i .i64 a0.Win.Base, .i .u64 (a0.Win.Bits.toNat : Int), .i .i64 a0.Next, .sl a0.Wait.length (a0.Wait.flatMap eGMsgReq), .sl a0.Past.length (a0.Past.flatMap eGMsgReply)], .box [.i .i64 v2.1.Kind, .i .i64 v2.1.Seq, .i .i64 a1.Code, .i .i64 a1.N, .b a1.Found, .sl a1.Val.length (a1.Val.flatMap eU8), .sl a1.List.length (a1.List.flatMap eGApiKV)], .box [.i .i64 0, .i .u64 ((0#64).toNat : Int), .i .i64 0, .raw (.slice none 0 0), .raw (.slice none 0 0)], .box [.i .i64 0, .i .i64 0, .i .i64 0, .i .i64 0, .b false, .raw (.slice none 0 0), .raw (.slice none 0 0)], .box [.i .i64 v2.1.Kind, .i .i64 v2.1.Seq, .i .i64 v2.1.Token, .i .i64 v2.1.Attempt, .b v2.1.RO, .sl v2.1.Key.length (v2.1.Key.flatMap eU8), .sl v2.1.Val.length (v2.1.Val.flatMap eU8), .sl v2.1.Rng.Lo.length (v2.1.Rng.Lo.flatMap eU8), .sl v2.1.Rng.Hi.length (v2.1.Rng.Hi.flatMap eU8), .b v2.1.Rng.Open], .box [.i .i64 0, .i .u64 ((0#64).toNat : Int), .i .i64 0, .raw (.slice none 0 0), .raw (.slice none 0 0)]], [.box [.i .i64 a0.Win.Base, .i .u64 (a0.Win.Bits.toNat : Int), .i .i64 a0.Next, .sl a0.Wait.length (a0.Wait.flatMap eGMsgReq), .sl a0.Past.length (a0.Past.flatMap eGMsgReply)], .box [.i .i64 v2.1.Kind, .i .i64 v2.1.Seq, .i .i64 a1.Code, .i .i64 a1.N, .b a1.Found, .sl a1.Val.length (a1.Val.flatMap eU8), .sl a1.List.length (a1.List.flatMap eGApiKV)], .box [.i .i64 0, .i .u64 ((0#64).toNat : Int), .i .i64 0, .raw (.slice none 0 0), .raw (.slice none 0 0)], .box [.i .i64 0, .i .i64 0, .i .i64 0, .i .i64 0, .b false, .raw (.slice none 0 0), .raw (.slice none 0 0)], .box [.i .i64 v2.1.Kind, .i .i64 v2.1.Seq, .i .i64 v2.1.Token, .i .i64 v2.1.Attempt, .b v2.1.RO, .sl v2.1.Key.length (v2.1.Key.flatMap eU8), .sl v2.1.Val.length (v2.1.Val.flatMap eU8), .sl v2.1.Rng.Lo.length (v2.1.Rng.Lo.flatMap eU8), .sl v2.1.Rng.Hi.length (v2.1.Rng.Hi.flatMap eU8), .b v2.1.Rng.Open], .box [.i .i64 a0.Win.Base, .i .u64 (a0.Win.Bits.toNat : Int), .i .i64 (wI (a0.Next + 1)), .sl v5.length (v5.flatMap eGMsgReq), .sl v6.length (v6.flatMap eGMsgReply)]]] (by kernel_rfl) mixed (by kernel_rfl) (by decide) rfl rfl rfl rfl ?_
        refine ev (sees_all (md := [.box [.i .i64 a0.Win.Base, .i .u64 (a0.Win.Bits.toNat : Int), .i .i64 a0.Next, .sl a0.Wait.length (a0.Wait.flatMap eGMsgReq), .sl a0.Past.length (a0.Past.flatMap eGMsgReply)], .box [.i .i64 v2.1.Kind, .i .i64 v2.1.Seq, .i .i64 a1.Code, .i .i64 a1.N, .b a1.Found, .sl a1.Val.length (a1.Val.flatMap eU8), .sl a1.List.length (a1.List.flatMap eGApiKV)], .box [.i .i64 0, .i .u64 ((0#64).toNat : Int), .i .i64 0, .raw (.slice none 0 0), .raw (.slice none 0 0)], .box [.i .i64 0, .i .i64 0, .i .i64 0, .i .i64 0, .b false, .raw (.slice none 0 0), .raw (.slice none 0 0)], .box [.i .i64 v2.1.Kind, .i .i64 v2.1.Seq, .i .i64 v2.1.Token, .i .i64 v2.1.Attempt, .b v2.1.RO, .sl v2.1.Key.length (v2.1.Key.flatMap eU8), .sl v2.1.Val.length (v2.1.Val.flatMap eU8), .sl v2.1.Rng.Lo.length (v2.1.Rng.Lo.flatMap eU8), .sl v2.1.Rng.Hi.length (v2.1.Rng.Hi.flatMap eU8), .b v2.1.Rng.Open], .dead]) ⟨⟨rfl, ⟨rfl, ⟨rfl, ⟨rfl, ⟨rfl, ⟨trivial, trivial⟩⟩⟩⟩⟩⟩, ⟨⟨rfl, ⟨rfl, ⟨rfl, ⟨rfl, ⟨rfl, ⟨trivial, trivial⟩⟩⟩⟩⟩⟩, ⟨⟨rfl, ⟨rfl, ⟨rfl, ⟨rfl, ⟨rfl, ⟨trivial, trivial⟩⟩⟩⟩⟩⟩, trivial⟩⟩⟩) rfl rfl (opv_fieldAddr_lp fi46_0 rfl) ?_
        refine ev (sees_all (md := [.box [.i .i64 a0.Win.Base, .i .u64 (a0.Win.Bits.toNat : Int), .i .i64 a0.Next, .sl a0.Wait.length (a0.Wait.flatMap eGMsgReq), .sl a0.Past.length (a0.Past.flatMap eGMsgReply)], .box [.i .i64 v2.1.Kind, .i .i64 v2.1.Seq, .i .i64 a1.Code, .i .i64 a1.N, .b a1.Found, .sl a1.Val.length (a1.Val.flatMap eU8), .sl a1.List.length (a1.List.flatMap eGApiKV)], .box [.i .i64 0, .i .u64 ((0#64).toNat : Int), .i .i64 0, .raw (.slice none 0 0), .raw (.slice none 0 0)], .box [.i .i64 0, .i .i64 0, .i .i64 0, .i .i64 0, .b false, .raw (.slice none 0 0), .raw (.slice none 0 0)], .box [.i .i64 v2.1.Kind, .i .i64 v2.1.Seq, .i .i64 v2.1.Token, .i .i64 v2.1.Attempt, .b v2.1.RO, .sl v2.1.Key.length (v2.1.Key.flatMap eU8), .sl v2.1.Val.length (v2.1.Val.flatMap eU8), .sl v2.1.Rng.Lo.length (v2.1.Rng.Lo.flatMap eU8), .sl v2.1.Rng.Hi.length (v2.1.Rng.Hi.flatMap eU8), .b v2.1.Rng.Open], .dead]) ⟨⟨rfl, ⟨rfl, ⟨rfl, ⟨rfl, ⟨rfl, ⟨trivial, trivial⟩⟩⟩⟩⟩⟩, ⟨⟨rfl, ⟨rfl, ⟨rfl, ⟨rfl, ⟨rfl, ⟨trivial, trivial⟩⟩⟩⟩⟩⟩, ⟨⟨rfl, ⟨rfl, ⟨rfl, ⟨rfl, ⟨rfl, ⟨trivial, trivial⟩⟩⟩⟩⟩⟩, trivial⟩⟩⟩) rfl rfl (opv_loadN ti42 rfl (.lp _ _ _ rfl) (Nat.le_of_ble_eq_true rfl)) ?_
        refine ev (sees_all (md := [.box [.i .i64 a0.Win.Base, .i .u64 (a0.Win.Bits.toNat : Int), .i .i64 a0.Next, .sl a0.Wait.length (a0.Wait.flatMap eGMsgReq), .sl a0.Past.length (a0.Past.flatMap eGMsgReply)], .box [.i .i64 v2.1.Kind, .i .i64 v2.1.Seq, .i .i64 a1.Code, .i .i64 a1.N, .b a1.Found, .sl a1.Val.length (a1.Val.flatMap eU8), .sl a1.List.length (a1.List.flatMap eGApiKV)], .box [.i .i64 0, .i .u64 ((0#64).toNat : Int), .i .i64 0, .raw (.slice none 0 0), .raw (.slice none 0 0)], .box [.i .i64 0, .i .i64 0, .i .i64 0, .i .i64 0, .b false, .raw (.slice none 0 0), .raw (.slice none 0 0)], .box [.i .i64 v2.1.Kind, .i .i64 v2.1.Seq, .i .i64 v2.1.Token, .i .i64 v2.1.Attempt, .b v2.1.RO, .sl v2.1.Key.length (v2.1.Key.flatMap eU8), .sl v2.1.Val.length (v2.1.Val.flatMap eU8), .sl v2.1.Rng.Lo.length (v2.1.Rng.Lo.flatMap eU8), .sl v2.1.Rng.Hi.length (v2.1.Rng.Hi.flatMap eU8), .b v2.1.Rng.Open], .dead]) ⟨⟨rfl, ⟨rfl, ⟨rfl, ⟨rfl, ⟨rfl, ⟨trivial, trivial⟩⟩⟩⟩⟩⟩, ⟨⟨rfl, ⟨rfl, ⟨rfl, ⟨rfl, ⟨rfl, ⟨trivial, trivial⟩⟩⟩⟩⟩⟩, ⟨⟨rfl, ⟨rfl, ⟨rfl, ⟨rfl, ⟨rfl, ⟨trivial, trivial⟩⟩⟩⟩⟩⟩, trivial⟩⟩⟩) rfl rfl (opv_fieldAddr_lp fi46_1 rfl) ?_
        refine ev (sees_all (md := [.box [.i .i64 a0.Win.Base, .i .u64 (a0.Win.Bits.toNat : Int), .i .i64 a0.Next, .sl a0.Wait.length (a0.Wait.flatMap eGMsgReq), .sl a0.Past.length (a0.Past.flatMap eGMsgReply)], .box [.i .i64 v2.1.Kind, .i .i64 v2.1.Seq, .i .i64 a1.Code, .i .i64 a1.N, .b a1.Found, .sl a1.Val.length (a1.Val.flatMap eU8), .sl a1.List.length (a1.List.flatMap eGApiKV)], .box [.i .i64 0, .i .u64 ((0#64).toNat : Int), .i .i64 0, .raw (.slice none 0 0), .raw (.slice none 0 0)], .box [.i .i64 0, .i .i64 0, .i .i64 0, .i .i64 0, .b false, .raw (.slice none 0 0), .raw (.slice none 0 0)], .box [.i .i64 v2.1.Kind, .i .i64 v2.1.Seq, .i .i64 v2.1.Token, .i .i64 v2.1.Attempt, .b v2.1.RO, .sl v2.1.Key.length (v2.1.Key.flatMap eU8), .sl v2.1.Val.length (v2.1.Val.flatMap eU8), .sl v2.1.Rng.Lo.length (v2.1.Rng.Lo.flatMap eU8), .sl v2.1.Rng.Hi.length (v2.1.Rng.Hi.flatMap eU8), .b v2.1.Rng.Open], .dead]) ⟨⟨rfl, ⟨rfl, ⟨rfl, ⟨rfl, ⟨rfl, ⟨trivial, trivial⟩⟩⟩⟩⟩⟩, ⟨⟨rfl, ⟨rfl, ⟨rfl, ⟨rfl, ⟨rfl, ⟨trivial, trivial⟩⟩⟩⟩⟩⟩, ⟨⟨rfl, ⟨rfl, ⟨rfl, ⟨rfl, ⟨rfl, ⟨trivial, trivial⟩⟩⟩⟩⟩⟩, trivial⟩⟩⟩) rfl rfl (opv_load1 ti3 rfl (.lp _ _ _ rfl) rfl) ?_
        refine ev (sees_all (md := [.box [.i .i64 a0.Win.Base, .i .u64 (a0.Win.Bits.toNat : Int), .i .i64 a0.Next, .sl a0.Wait.length (a0.Wait.flatMap eGMsgReq), .sl a0.Past.length (a0.Past.flatMap eGMsgReply)], .box [.i .i64 v2.1.Kind, .i .i64 v2.1.Seq, .i .i64 a1.Code, .i .i64 a1.N, .b a1.Found, .sl a1.Val.length (a1.Val.flatMap eU8), .sl a1.List.length (a1.List.flatMap eGApiKV)], .box [.i .i64 0, .i .u64 ((0#64).toNat : Int), .i .i64 0, .raw (.slice none 0 0), .raw (.slice none 0 0)], .box [.i .i64 0, .i .i64 0, .i .i64 0, .i .i64 0, .b false, .raw (.slice none 0 0), .raw (.slice none 0 0)], .box [.i .i64 v2.1.Kind, .i .i64 v2.1.Seq, .i .i64 v2.1.Token, .i .i64 v2.1.Attempt, .b v2.1.RO, .sl v2.1.Key.length (v2.1.Key.flatMap eU8), .sl v2.1.Val.length (v2.1.Val.flatMap eU8), .sl v2.1.Rng.Lo.length (v2.1.Rng.Lo.flatMap eU8), .sl v2.1.Rng.Hi.length (v2.1.Rng.Hi.flatMap eU8), .b v2.1.Rng.Open], .dead]) ⟨⟨rfl, ⟨rfl, ⟨rfl, ⟨rfl, ⟨rfl, ⟨trivial, trivial⟩⟩⟩⟩⟩⟩, ⟨⟨rfl, ⟨rfl, ⟨rfl, ⟨rfl, ⟨rfl, ⟨trivial, trivial⟩⟩⟩⟩⟩⟩, ⟨⟨rfl, ⟨rfl, ⟨rfl, ⟨rfl, ⟨rfl, ⟨trivial, trivial⟩⟩⟩⟩⟩⟩, trivial⟩⟩⟩) rfl rfl (opv_add rfl rfl) ?_
        refine ev (sees_all (md := [.box [.i .i64 a0.Win.Base, .i .u64 (a0.Win.Bits.toNat : Int), .i .i64 a0.Next, .sl a0.Wait.length (a0.Wait.flatMap eGMsgReq), .sl a0.Past.length (a0.Past.flatMap eGMsgReply)], .box [.i .i64 v2.1.Kind, .i .i64 v2.1.Seq, .i .i64 a1.Code, .i .i64 a1.N, .b a1.Found, .sl a1.Val.length (a1.Val.flatMap eU8), .sl a1.List.length (a1.List.flatMap eGApiKV)], .box [.i .i64 0, .i .u64 ((0#64).toNat : Int), .i .i64 0, .raw (.slice none 0 0), .raw (.slice none 0 0)], .box [.i .i64 0, .i .i64 0, .i .i64 0, .i .i64 0, .b false, .raw (.slice none 0 0), .raw (.slice none 0 0)], .box [.i .i64 v2.1.Kind, .i .i64 v2.1.Seq, .i .i64 v2.1.Token, .i .i64 v2.1.Attempt, .b v2.1.RO, .sl v2.1.Key.length (v2.1.Key.flatMap eU8), .sl v2.1.Val.length (v2.1.Val.flatMap eU8), .sl v2.1.Rng.Lo.length (v2.1.Rng.Lo.flatMap eU8), .sl v2.1.Rng.Hi.length (v2.1.Rng.Hi.flatMap eU8), .b v2.1.Rng.Open], .dead]) ⟨⟨rfl, ⟨rfl, ⟨rfl, ⟨rfl, ⟨rfl, ⟨trivial, trivial⟩⟩⟩⟩⟩⟩, ⟨⟨rfl, ⟨rfl, ⟨rfl, ⟨rfl, ⟨rfl, ⟨trivial, trivial⟩⟩⟩⟩⟩⟩, ⟨⟨rfl, ⟨rfl, ⟨rfl, ⟨rfl, ⟨rfl, ⟨trivial, trivial⟩⟩⟩⟩⟩⟩, trivial⟩⟩⟩) rfl rfl (opv_fieldAddr_lp fi46_2 rfl) ?_
        refine ev (sees_all (md := [.box [.i .i64 a0.Win.Base, .i .u64 (a0.Win.Bits.toNat : Int), .i .i64 a0.Next, .sl a0.Wait.length (a0.Wait.flatMap eGMsgReq), .sl a0.Past.length (a0.Past.flatMap eGMsgReply)], .box [.i .i64 v2.1.Kind, .i .i64 v2.1.Seq, .i .i64 a1.Code, .i .i64 a1.N, .b a1.Found, .sl a1.Val.length (a1.Val.flatMap eU8), .sl a1.List.length (a1.List.flatMap eGApiKV)], .box [.i .i64 0, .i .u64 ((0#64).toNat : Int), .i .i64 0, .raw (.slice none 0 0), .raw (.slice none 0 0)], .box [.i .i64 0, .i .i64 0, .i .i64 0, .i .i64 0, .b false, .raw (.slice none 0 0), .raw (.slice none 0 0)], .box [.i .i64 v2.1.Kind, .i .i64 v2.1.Seq, .i .i64 v2.1.Token, .i .i64 v2.1.Attempt, .b v2.1.RO, .sl v2.1.Key.length (v2.1.Key.flatMap eU8), .sl v2.1.Val.length (v2.1.Val.flatMap eU8), .sl v2.1.Rng.Lo.length (v2.1.Rng.Lo.flatMap eU8), .sl v2.1.Rng.Hi.length (v2.1.Rng.Hi.flatMap eU8), .b v2.1.Rng.Open], .dead]) ⟨⟨rfl, ⟨rfl, ⟨rfl, ⟨rfl, ⟨rfl, ⟨trivial, trivial⟩⟩⟩⟩⟩⟩, ⟨⟨rfl, ⟨rfl, ⟨rfl, ⟨rfl, ⟨rfl, ⟨trivial, trivial⟩⟩⟩⟩⟩⟩, ⟨⟨rfl, ⟨rfl, ⟨rfl, ⟨rfl, ⟨rfl, ⟨trivial, trivial⟩⟩⟩⟩⟩⟩, trivial⟩⟩⟩) rfl rfl (opv_load1 ti43 rfl (.lp _ _ _ rfl) rfl) ?_
        refine ev (sees_all (md := [.box [.i .i64 a0.Win.Base, .i .u64 (a0.Win.Bits.toNat : Int), .i .i64 a0.Next, .sl a0.Wait.length (a0.Wait.flatMap eGMsgReq), .sl a0.Past.length (a0.Past.flatMap eGMsgReply)], .box [.i .i64 v2.1.Kind, .i .i64 v2.1.Seq, .i .i64 a1.Code, .i .i64 a1.N, .b a1.Found, .sl a1.Val.length (a1.Val.flatMap eU8), .sl a1.List.length (a1.List.flatMap eGApiKV)], .box [.i .i64 0, .i .u64 ((0#64).toNat : Int), .i .i64 0, .raw (.slice none 0 0), .raw (.slice none 0 0)], .box [.i .i64 0, .i .i64 0, .i .i64 0, .i .i64 0, .b false, .raw (.slice none 0 0), .raw (.slice none 0 0)], .box [.i .i64 v2.1.Kind, .i .i64 v2.1.Seq, .i .i64 v2.1.Token, .i .i64 v2.1.Attempt, .b v2.1.RO, .sl v2.1.Key.length (v2.1.Key.flatMap eU8), .sl v2.1.Val.length (v2.1.Val.flatMap eU8), .sl v2.1.Rng.Lo.length (v2.1.Rng.Lo.flatMap eU8), .sl v2.1.Rng.Hi.length (v2.1.Rng.Hi.flatMap eU8), .b v2.1.Rng.Open], .dead]) ⟨⟨rfl, ⟨rfl, ⟨rfl, ⟨rfl, ⟨rfl, ⟨trivial, trivial⟩⟩⟩⟩⟩⟩, ⟨⟨rfl, ⟨rfl, ⟨rfl, ⟨rfl, ⟨rfl, ⟨trivial, trivial⟩⟩⟩⟩⟩⟩, ⟨⟨rfl, ⟨rfl, ⟨rfl, ⟨rfl, ⟨rfl, ⟨trivial, trivial⟩⟩⟩⟩⟩⟩, trivial⟩⟩⟩) rfl rfl (opv_cut (f := eGMsgReq) (lo := 1) (hi := (a0.Wait.length : Int)) si43 (fun _ => rfl) rfl rfl rfl (bound_some rfl (cut_eq hc4).1.1) (by exact rfl) hc4) ?_
        refine ed (sees_all (md := [.box [.i .i64 a0.Win.Base, .i .u64 (a0.Win.Bits.toNat : Int), .i .i64 a0.Next, .sl a0.Wait.length (a0.Wait.flatMap eGMsgReq), .sl a0.Past.length (a0.Past.flatMap eGMsgReply)], .box [.i .i64 v2.1.Kind, .i .i64 v2.1.Seq, .i .i64 a1.Code, .i .i64 a1.N, .b a1.Found, .sl a1.Val.length (a1.Val.flatMap eU8), .sl a1.List.length (a1.List.flatMap eGApiKV)], .box [.i .i64 0, .i .u64 ((0#64).toNat : Int), .i .i64 0, .raw (.slice none 0 0), .raw (.slice none 0 0)], .box [.i .i64 0, .i .i64 0, .i .i64 0, .i .i64 0, .b false, .raw (.slice none 0 0), .raw (.slice none 0 0)], .box [.i .i64 v2.1.Kind, .i .i64 v2.1.Seq, .i .i64 v2.1.Token, .i .i64 v2.1.Attempt, .b v2.1.RO, .sl v2.1.Key.length (v2.1.Key.flatMap eU8), .sl v2.1.Val.length (v2.1.Val.flatMap eU8), .sl v2.1.Rng.Lo.length (v2.1.Rng.Lo.flatMap eU8), .sl v2.1.Rng.Hi.length (v2.1.Rng.Hi.flatMap eU8), .b v2.1.Rng.Open], .dead]) ⟨⟨rfl, ⟨rfl, ⟨rfl, ⟨rfl, ⟨rfl, ⟨trivial, trivial⟩⟩⟩⟩⟩⟩, ⟨⟨rfl, ⟨rfl, ⟨rfl, ⟨rfl, ⟨rfl, ⟨trivial, trivial⟩⟩⟩⟩⟩⟩, ⟨⟨rfl, ⟨rfl, ⟨rfl, ⟨rfl, ⟨rfl, ⟨trivial, trivial⟩⟩⟩⟩⟩⟩, trivial⟩⟩⟩) rfl rfl (opD_call fn39 (opnds_cons rfl opnds_nil) rfl (m39_slices_Clone_c hv5)) ?_
        refine ev (sees_all (md := [.box [.i .i64 a0.Win.Base, .i .u64 (a0.Win.Bits.toNat : Int), .i .i64 a0.Next, .sl a0.Wait.length (a0.Wait.flatMap eGMsgReq), .sl a0.Past.length (a0.Past.flatMap eGMsgReply)], .box [.i .i64 v2.1.Kind, .i .i64 v2.1.Seq, .i .i64 a1.Code, .i .i64 a1.N, .b a1.Found, .sl a1.Val.length (a1.Val.flatMap eU8), .sl a1.List.length (a1.List.flatMap eGApiKV)], .box [.i .i64 0, .i .u64 ((0#64).toNat : Int), .i .i64 0, .raw (.slice none 0 0), .raw (.slice none 0 0)], .box [.i .i64 0, .i .i64 0, .i .i64 0, .i .i64 0, .b false, .raw (.slice none 0 0), .raw (.slice none 0 0)], .box [.i .i64 v2.1.Kind, .i .i64 v2.1.Seq, .i .i64 v2.1.Token, .i .i64 v2.1.Attempt, .b v2.1.RO, .sl v2.1.Key.length (v2.1.Key.flatMap eU8), .sl v2.1.Val.length (v2.1.Val.flatMap eU8), .sl v2.1.Rng.Lo.length (v2.1.Rng.Lo.flatMap eU8), .sl v2.1.Rng.Hi.length (v2.1.Rng.Hi.flatMap eU8), .b v2.1.Rng.Open], .dead]) ⟨⟨rfl, ⟨rfl, ⟨rfl, ⟨rfl, ⟨rfl, ⟨trivial, trivial⟩⟩⟩⟩⟩⟩, ⟨⟨rfl, ⟨rfl, ⟨rfl, ⟨rfl, ⟨rfl, ⟨trivial, trivial⟩⟩⟩⟩⟩⟩, ⟨⟨rfl, ⟨rfl, ⟨rfl, ⟨rfl, ⟨rfl, ⟨trivial, trivial⟩⟩⟩⟩⟩⟩, trivial⟩⟩⟩) rfl rfl (opv_fieldAddr_lp fi46_3 rfl) ?_
        refine ev (sees_all (md := [.box [.i .i64 a0.Win.Base, .i .u64 (a0.Win.Bits.toNat : Int), .i .i64 a0.Next, .sl a0.Wait.length (a0.Wait.flatMap eGMsgReq), .sl a0.Past.length (a0.Past.flatMap eGMsgReply)], .box [.i .i64 v2.1.Kind, .i .i64 v2.1.Seq, .i .i64 a1.Code, .i .i64 a1.N, .b a1.Found, .sl a1.Val.length (a1.Val.flatMap eU8), .sl a1.List.length (a1.List.flatMap eGApiKV)], .box [.i .i64 0, .i .u64 ((0#64).toNat : Int), .i .i64 0, .raw (.slice none 0 0), .raw (.slice none 0 0)], .box [.i .i64 0, .i .i64 0, .i .i64 0, .i .i64 0, .b false, .raw (.slice none 0 0), .raw (.slice none 0 0)], .box [.i .i64 v2.1.Kind, .i .i64 v2.1.Seq, .i .i64 v2.1.Token, .i .i64 v2.1.Attempt, .b v2.1.RO, .sl v2.1.Key.length (v2.1.Key.flatMap eU8), .sl v2.1.Val.length (v2.1.Val.flatMap eU8), .sl v2.1.Rng.Lo.length (v2.1.Rng.Lo.flatMap eU8), .sl v2.1.Rng.Hi.length (v2.1.Rng.Hi.flatMap eU8), .b v2.1.Rng.Open], .dead]) ⟨⟨rfl, ⟨rfl, ⟨rfl, ⟨rfl, ⟨rfl, ⟨trivial, trivial⟩⟩⟩⟩⟩⟩, ⟨⟨rfl, ⟨rfl, ⟨rfl, ⟨rfl, ⟨rfl, ⟨trivial, trivial⟩⟩⟩⟩⟩⟩, ⟨⟨rfl, ⟨rfl, ⟨rfl, ⟨rfl, ⟨rfl, ⟨trivial, trivial⟩⟩⟩⟩⟩⟩, trivial⟩⟩⟩) rfl rfl (opv_load1 ti44 rfl (.lp _ _ _ rfl) rfl) ?_
        refine ev (sees_all (md := [.box [.i .i64 a0.Win.Base, .i .u64 (a0.Win.Bits.toNat : Int), .i .i64 a0.Next, .sl a0.Wait.length (a0.Wait.flatMap eGMsgReq), .sl a0.Past.length (a0.Past.flatMap eGMsgReply)], .box [.i .i64 v2.1.Kind, .i .i64 v2.1.Seq, .i .i64 a1.Code, .i .i64 a1.N, .b a1.Found, .sl a1.Val.length (a1.Val.flatMap eU8), .sl a1.List.length (a1.List.flatMap eGApiKV)], .box [.i .i64 0, .i .u64 ((0#64).toNat : Int), .i .i64 0, .raw (.slice none 0 0), .raw (.slice none 0 0)], .box [.i .i64 0, .i .i64 0, .i .i64 0, .i .i64 0, .b false, .raw (.slice none 0 0), .raw (.slice none 0 0)], .box [.i .i64 v2.1.Kind, .i .i64 v2.1.Seq, .i .i64 v2.1.Token, .i .i64 v2.1.Attempt, .b v2.1.RO, .sl v2.1.Key.length (v2.1.Key.flatMap eU8), .sl v2.1.Val.length (v2.1.Val.flatMap eU8), .sl v2.1.Rng.Lo.length (v2.1.Rng.Lo.flatMap eU8), .sl v2.1.Rng.Hi.length (v2.1.Rng.Hi.flatMap eU8), .b v2.1.Rng.Open], .dead]) ⟨⟨rfl, ⟨rfl, ⟨rfl, ⟨rfl, ⟨rfl, ⟨trivial, trivial⟩⟩⟩⟩⟩⟩, ⟨⟨rfl, ⟨rfl, ⟨rfl, ⟨rfl, ⟨rfl, ⟨trivial, trivial⟩⟩⟩⟩⟩⟩, ⟨⟨rfl, ⟨rfl, ⟨rfl, ⟨rfl, ⟨rfl, ⟨trivial, trivial⟩⟩⟩⟩⟩⟩, trivial⟩⟩⟩) rfl rfl (opv_loadN ti48 rfl (.lp _ _ _ rfl) (Nat.le_of_ble_eq_true rfl)) ?_
        refine ed (sees_all (md := [.box [.i .i64 a0.Win.Base, .i .u64 (a0.Win.Bits.toNat : Int), .i .i64 a0.Next, .sl a0.Wait.length (a0.Wait.flatMap eGMsgReq), .sl a0.Past.length (a0.Past.flatMap eGMsgReply)], .box [.i .i64 v2.1.Kind, .i .i64 v2.1.Seq, .i .i64 a1.Code, .i .i64 a1.N, .b a1.Found, .sl a1.Val.length (a1.Val.flatMap eU8), .sl a1.List.length (a1.List.flatMap eGApiKV)], .box [.i .i64 0, .i .u64 ((0#64).toNat : Int), .i .i64 0, .raw (.slice none 0 0), .raw (.slice none 0 0)], .box [.i .i64 0, .i .i64 0, .i .i64 0, .i .i64 0, .b false, .raw (.slice none 0 0), .raw (.slice none 0 0)], .box [.i .i64 v2.1.Kind, .i .i64 v2.1.Seq, .i .i64 v2.1.Token, .i .i64 v2.1.Attempt, .b v2.1.RO, .sl v2.1.Key.length (v2.1.Key.flatMap eU8), .sl v2.1.Val.length (v2.1.Val.flatMap eU8), .sl v2.1.Rng.Lo.length (v2.1.Rng.Lo.flatMap eU8), .sl v2.1.Rng.Hi.length (v2.1.Rng.Hi.flatMap eU8), .b v2.1.Rng.Open], .dead]) ⟨⟨rfl, ⟨rfl, ⟨rfl, ⟨rfl, ⟨rfl, ⟨trivial, trivial⟩⟩⟩⟩⟩⟩, ⟨⟨rfl, ⟨rfl, ⟨rfl, ⟨rfl, ⟨rfl, ⟨trivial, trivial⟩⟩⟩⟩⟩⟩, ⟨⟨rfl, ⟨rfl, ⟨rfl, ⟨rfl, ⟨rfl, ⟨trivial, trivial⟩⟩⟩⟩⟩⟩, trivial⟩⟩⟩) rfl rfl (opD_call fn40 (opnds_cons rfl (opnds_cons rfl opnds_nil)) rfl (m40_pipe_passed_c hv6)) ?_
        refine ev (sees_all (md := [.box [.i .i64 a0.Win.Base, .i .u64 (a0.Win.Bits.toNat : Int), .i .i64 a0.Next, .sl a0.Wait.length (a0.Wait.flatMap eGMsgReq), .sl a0.Past.length (a0.Past.flatMap eGMsgReply)], .box [.i .i64 v2.1.Kind, .i .i64 v2.1.Seq, .i .i64 a1.Code, .i .i64 a1.N, .b a1.Found, .sl a1.Val.length (a1.Val.flatMap eU8), .sl a1.List.length (a1.List.flatMap eGApiKV)], .box [.i .i64 0, .i .u64 ((0#64).toNat : Int), .i .i64 0, .raw (.slice none 0 0), .raw (.slice none 0 0)], .box [.i .i64 0, .i .i64 0, .i .i64 0, .i .i64 0, .b false, .raw (.slice none 0 0), .raw (.slice none 0 0)], .box [.i .i64 v2.1.Kind, .i .i64 v2.1.Seq, .i .i64 v2.1.Token, .i .i64 v2.1.Attempt, .b v2.1.RO, .sl v2.1.Key.length (v2.1.Key.flatMap eU8), .sl v2.1.Val.length (v2.1.Val.flatMap eU8), .sl v2.1.Rng.Lo.length (v2.1.Rng.Lo.flatMap eU8), .sl v2.1.Rng.Hi.length (v2.1.Rng.Hi.flatMap eU8), .b v2.1.Rng.Open], .dead]) ⟨⟨rfl, ⟨rfl, ⟨rfl, ⟨rfl, ⟨rfl, ⟨trivial, trivial⟩⟩⟩⟩⟩⟩, ⟨⟨rfl, ⟨rfl, ⟨rfl, ⟨rfl, ⟨rfl, ⟨trivial, trivial⟩⟩⟩⟩⟩⟩, ⟨⟨rfl, ⟨rfl, ⟨rfl, ⟨rfl, ⟨rfl, ⟨trivial, trivial⟩⟩⟩⟩⟩⟩, trivial⟩⟩⟩) rfl rfl (opv_build zi46 pi46 (parts_cons rfl (parts_cons rfl (parts_cons rfl (parts_cons rfl parts_nil)))) (.cons _ _ _ _ _ _ _ rfl rfl (Nat.le_of_ble_eq_true rfl) (.cons _ _ _ _ _ _ _ rfl rfl (Nat.le_of_ble_eq_true rfl) (.cons _ _ _ _ _ _ _ rfl rfl (Nat.le_of_ble_eq_true rfl) (.cons _ _ _ _ _ _ _ rfl rfl (Nat.le_of_ble_eq_true rfl) (.nil _)))))) ?_
        refine ee (x := .s (.one (.lp 5 0))) 0 rfl rfl rfl rfl rfl (fun ζ => ?_) ?_
        · refine salloc_at 5 rfl zi46 rfl ?_
          exact eend
        refine ee0 1 rfl rfl rfl rfl (fun ζ => ?_) ?_
        · refine sstore sz46 rfl rfl rfl rfl (Nat.le_of_ble_eq_true rfl) ?_
          refine smem [.box [.i .i64 a0.Win.Base, .i .u64 (a0.Win.Bits.toNat : Int), .i .i64 a0.Next, .sl a0.Wait.length (a0.Wait.flatMap eGMsgReq), .sl a0.Past.length (a0.Past.flatMap eGMsgReply)], .box [.i .i64 v2.1.Kind, .i .i64 v2.1.Seq, .i .i64 a1.Code, .i .i64 a1.N, .b a1.Found, .sl a1.Val.length (a1.Val.flatMap eU8), .sl a1.List.length (a1.List.flatMap eGApiKV)], .box [.i .i64 0, .i .u64 ((0#64).toNat : Int), .i .i64 0, .raw (.slice none 0 0), .raw (.slice none 0 0)], .box [.i .i64 0, .i .i64 0, .i .i64 0, .i .i64 0, .b false, .raw (.slice none 0 0), .raw (.slice none 0 0)], .box [.i .i64 v2.1.Kind, .i .i64 v2.1.Seq, .i .i64 v2.1.Token, .i .i64 v2.1.Attempt, .b v2.1.RO, .sl v2.1.Key.length (v2.1.Key.flatMap eU8), .sl v2.1.Val.length (v2.1.Val.flatMap eU8), .sl v2.1.Rng.Lo.length (v2.1.Rng.Lo.flatMap eU8), .sl v2.1.Rng.Hi.length (v2.1.Rng.Hi.flatMap eU8), .b v2.1.Rng.Open], .box [.i .i64 a0.Win.Base, .i .u64 (a0.Win.Bits.toNat : Int), .i .i64 (wI (a0.Next + 1)), .sl v5.length (v5.flatMap eGMsgReq), .sl v6.length (v6.flatMap eGMsgReply)]] rfl ?_
          exact eend
        refine enil ?_
        refine then_normal ?_
        refine cseq ?_
        refine cdraw_e [2, 3] [0, 0, 1, 7, 15] [[.box [.i .i64 a0.Win.Base, .i .u64 (a0.Win.Bits.toNat : Int), .i .i64 a0.Next, .sl a0.Wait.length (a0.Wait.flatMap eGMsgReq), .sl a0.Past.length (a0.Past.flatMap eGMsgReply)], .box [.i .i64 v2.1.Kind, .i .i64 v2.1.Seq, .i .i64 a1.Code, .i .i64 a1.N, .b a1.Found, .sl a1.Val.length (a1.Val.flatMap eU8), .sl a1.List.length (a1.List.flatMap eGApiKV)], .box [.i .i64 0, .i .u64 ((0#64).toNat : Int), .i .i64 0, .raw (.slice none 0 0), .raw (.slice none 0 0)], .box [.i .i64 0, .i .i64 0, .i .i64 0, .i .i64 0, .b false, .raw (.slice none 0 0), .raw (.slice none 0 0)], .box [.i .i64 v2.1.Kind, .i .i64 v2.1.Seq, .i .i64 v2.1.Token, .i .i64 v2.1.Attempt, .b v2.1.RO, .sl v2.1.Key.length (v2.1.Key.flatMap eU8), .sl v2.1.Val.length (v2.1.Val.flatMap eU8), .sl v2.1.Rng.Lo.length (v2.1.Rng.Lo.flatMap eU8), .sl v2.1.Rng.Hi.length (v2.1.Rng.Hi.flatMap eU8), .b v2.1.Rng.Open], .box [.i .i64 a0.Win.Base, .i .u64 (a0.Win.Bits.toNat : Int), .i .i64 (wI (a0.Next + 1)), .sl v5.length (v5.flatMap eGMsgReq), .sl v6.length (v6.flatMap eGMsgReply)]], [.box [.i .i64 a0.Win.Base, .i .u64 (a0.Win.Bits.toNat : Int), .i .i64 a0.Next, .sl a0.Wait.length (a0.Wait.flatMap eGMsgReq), .sl a0.Past.length (a0.Past.flatMap eGMsgReply)], .box [.i .i64 v2.1.Kind, .i .i64 v2.1.Seq, .i .i64 a1.Code, .i .i64 a1.N, .b a1.Found, .sl a1.Val.length (a1.Val.flatMap eU8), .sl a1.List.length (a1.List.flatMap eGApiKV)], .box [.i .i64 a0.Win.Base, .i .u64 (a0.Win.Bits.toNat : Int), .i .i64 (wI (a0.Next + 1)), .sl v5.length (v5.flatMap eGMsgReq), .sl v6.length (v6.flatMap eGMsgReply)], .box [.i .i64 0, .i .i64 0, .i .i64 0, .i .i64 0, .b false, .raw (.slice none 0 0), .raw (.slice none 0 0)], .box [.i .i64 v2.1.Kind, .i .i64 v2.1.Seq, .i .i64 v2.1.Token, .i .i64 v2.1.Attempt, .b v2.1.RO, .sl v2.1.Key.length (v2.1.Key.flatMap eU8), .sl v2.1.Val.length (v2.1.Val.flatMap eU8), .sl v2.1.Rng.Lo.length (v2.1.Rng.Lo.flatMap eU8), .sl v2.1.Rng.Hi.length (v2.1.Rng.Hi.flatMap eU8), .b v2.1.Rng.Open], .box [.i .i64 a0.Win.Base, .i .u64 (a0.Win.Bits.toNat : Int), .i .i64 (wI (a0.Next + 1)), .sl v5.length (v5.flatMap eGMsgReq), .sl v6.length (v6.flatMap eGMsgReply)]], [.box [.i .i64 a0.Win.Base, .i .u64 (a0.Win.Bits.toNat : Int), .i .i64 a0.Next, .sl a0.Wait.length (a0.Wait.flatMap eGMsgReq), .sl a0.Past.length (a0.Past.flatMap eGMsgReply)], .box [.i .i64 v2.1.Kind, .i .i64 v2.1.Seq, .i .i64 a1.Code, .i .i64 a1.N, .b a1.Found, .sl a1.Val.length (a1.Val.flatMap eU8), .sl a1.List.length (a1.List.flatMap eGApiKV)], .box [.i .i64 a0.Win.Base, .i .u64 (a0.Win.Bits.toNat : Int), .i .i64 (wI (a0.Next + 1)), .sl v5.length (v5.flatMap eGMsgReq), .sl v6.length (v6.flatMap eGMsgReply)], .box [.i .i64 v2.1.Kind, .i .i64 v2.1.Seq, .i .i64 a1.Code, .i .i64 a1.N, .b a1.Found, .sl a1.Val.length (a1.Val.flatMap eU8), .sl a1.List.length (a1.List.flatMap eGApiKV)], .box [.i .i64 v2.1.Kind, .i .i64 v2.1.Seq, .i .i64 v2.1.Token, .i .i64 v2.1.Attempt, .b v2.1.RO, .sl v2.1.Key.length (v2.1.Key.flatMap eU8), .sl v2.1.Val.length (v2.1.Val.flatMap eU8), .sl v2.1.Rng.Lo.length (v2.1.Rng.Lo.flatMap eU8), .sl v2.1.Rng.Hi.length (v2.1.Rng.Hi.flatMap eU8), .b v2.1.Rng.Open], .box [.i .i64 a0.Win.Base, .i .u64 (a0.Win.Bits.toNat : Int), .i .i64 (wI (a0.Next + 1)), .sl v5.length (v5.flatMap eGMsgReq), .sl v6.length (v6.flatMap eGMsgReply)]]] (by kernel_rfl) mixed (by kernel_rfl) (by decide) rfl rfl rfl rfl ?_
        refine ev (sees_at 0 rfl rfl) rfl rfl (opv_loadN ti46 rfl (.lp _ _ _ rfl) (Nat.le_of_ble_eq_true rfl)) ?_
        refine ev (sees_all (md := [.box [.i .i64 a0.Win.Base, .i .u64 (a0.Win.Bits.toNat : Int), .i .i64 a0.Next, .sl a0.Wait.length (a0.Wait.flatMap eGMsgReq), .sl a0.Past.length (a0.Past.flatMap eGMsgReply)], .box [.i .i64 v2.1.Kind, .i .i64 v2.1.Seq, .i .i64 a1.Code, .i .i64 a1.N, .b a1.Found, .sl a1.Val.length (a1.Val.flatMap eU8), .sl a1.List.length (a1.List.flatMap eGApiKV)], .dead, .dead, .box [.i .i64 v2.1.Kind, .i .i64 v2.1.Seq, .i .i64 v2.1.Token, .i .i64 v2.1.Attempt, .b v2.1.RO, .sl v2.1.Key.length (v2.1.Key.flatMap eU8), .sl v2.1.Val.length (v2.1.Val.flatMap eU8), .sl v2.1.Rng.Lo.length (v2.1.Rng.Lo.flatMap eU8), .sl v2.1.Rng.Hi.length (v2.1.Rng.Hi.flatMap eU8), .b v2.1.Rng.Open], .box [.i .i64 a0.Win.Base, .i .u64 (a0.Win.Bits.toNat : Int), .i .i64 (wI (a0.Next + 1)), .sl v5.length (v5.flatMap eGMsgReq), .sl v6.length (v6.flatMap eGMsgReply)]]) ⟨⟨rfl, ⟨rfl, ⟨trivial, ⟨trivial, ⟨rfl, ⟨rfl, trivial⟩⟩⟩⟩⟩⟩, ⟨⟨rfl, ⟨rfl, ⟨trivial, ⟨trivial, ⟨rfl, ⟨rfl, trivial⟩⟩⟩⟩⟩⟩, ⟨⟨rfl, ⟨rfl, ⟨trivial, ⟨trivial, ⟨rfl, ⟨rfl, trivial⟩⟩⟩⟩⟩⟩, trivial⟩⟩⟩) rfl rfl (opv_loadN ti48 rfl (.lp _ _ _ rfl) (Nat.le_of_ble_eq_true rfl)) ?_
        refine ee0 0 rfl rfl rfl rfl (fun ζ => ?_) ?_
        · refine sstore sz46 rfl rfl rfl rfl (Nat.le_of_ble_eq_true rfl) ?_
          refine smem [.box [.i .i64 a0.Win.Base, .i .u64 (a0.Win.Bits.toNat : Int), .i .i64 a0.Next, .sl a0.Wait.length (a0.Wait.flatMap eGMsgReq), .sl a0.Past.length (a0.Past.flatMap eGMsgReply)], .box [.i .i64 v2.1.Kind, .i .i64 v2.1.Seq, .i .i64 a1.Code, .i .i64 a1.N, .b a1.Found, .sl a1.Val.length (a1.Val.flatMap eU8), .sl a1.List.length (a1.List.flatMap eGApiKV)], .box [.i .i64 a0.Win.Base, .i .u64 (a0.Win.Bits.toNat : Int), .i .i64 (wI (a0.Next + 1)), .sl v5.length (v5.flatMap eGMsgReq), .sl v6.length (v6.flatMap eGMsgReply)], .box [.i .i64 0, .i .i64 0, .i .i64 0, .i .i64 0, .b false, .raw (.slice none 0 0), .raw (.slice none 0 0)], .box [.i .i64 v2.1.Kind, .i .i64 v2.1.Seq, .i .i64 v2.1.Token, .i .i64 v2.1.Attempt, .b v2.1.RO, .sl v2.1.Key.length (v2.1.Key.flatMap eU8), .sl v2.1.Val.length (v2.1.Val.flatMap eU8), .sl v2.1.Rng.Lo.length (v2.1.Rng.Lo.flatMap eU8), .sl v2.1.Rng.Hi.length (v2.1.Rng.Hi.flatMap eU8), .b v2.1.Rng.Open], .box [.i .i64 a0.Win.Base, .i .u64 (a0.Win.Bits.toNat : Int), .i .i64 (wI (a0.Next + 1)), .sl v5.length (v5.flatMap eGMsgReq), .sl v6.length (v6.flatMap eGMsgReply)]] rfl ?_
          exact eend
        refine ee0 1 rfl rfl rfl rfl (fun ζ => ?_) ?_
        · refine sstore sz48 rfl rfl rfl rfl (Nat.le_of_ble_eq_true rfl) ?_
          refine smem [.box [.i .i64 a0.Win.Base, .i .u64 (a0.Win.Bits.toNat : Int), .i .i64 a0.Next, .sl a0.Wait.length (a0.Wait.flatMap eGMsgReq), .sl a0.Past.length (a0.Past.flatMap eGMsgReply)], .box [.i .i64 v2.1.Kind, .i .i64 v2.1.Seq, .i .i64 a1.Code, .i .i64 a1.N, .b a1.Found, .sl a1.Val.length (a1.Val.flatMap eU8), .sl a1.List.length (a1.List.flatMap eGApiKV)], .box [.i .i64 a0.Win.Base, .i .u64 (a0.Win.Bits.toNat : Int), .i .i64 (wI (a0.Next + 1)), .sl v5.length (v5.flatMap eGMsgReq), .sl v6.length (v6.flatMap eGMsgReply)], .box [.i .i64 v2.1.Kind, .i .i64 v2.1.Seq, .i .i64 a1.Code, .i .i64 a1.N, .b a1.Found, .sl a1.Val.length (a1.Val.flatMap eU8), .sl a1.List.length (a1.List.flatMap eGApiKV)], .box [.i .i64 v2.1.Kind, .i .i64 v2.1.Seq, .i .i64 v2.1.Token, .i .i64 v2.1.Attempt, .b v2.1.RO, .sl v2.1.Key.length (v2.1.Key.flatMap eU8), .sl v2.1.Val.length (v2.1.Val.flatMap eU8), .sl v2.1.Rng.Lo.length (v2.1.Rng.Lo.flatMap eU8), .sl v2.1.Rng.Hi.length (v2.1.Rng.Hi.flatMap eU8), .b v2.1.Rng.Open], .box [.i .i64 a0.Win.Base, .i .u64 (a0.Win.Bits.toNat : Int), .i .i64 (wI (a0.Next + 1)), .sl v5.length (v5.flatMap eGMsgReq), .sl v6.length (v6.flatMap eGMsgReply)]] rfl ?_
          exact eend
        refine ev (sees_at 2 rfl rfl) rfl rfl (opv_as rfl) ?_
        refine enil ?_
        refine then_normal ?_
        refine cret ?_
        obtain rfl := Option.some.inj h
        refine ⟨Or.inr rfl, _, _, _, (resVs_cons (ResV.agg _ _ _ _ _ ti46 rfl (.lp _ _ _ rfl) (Nat.le_of_ble_eq_true rfl)) (resVs_cons (ResV.agg _ _ _ _ _ ti48 rfl (.lp _ _ _ rfl) (Nat.le_of_ble_eq_true rfl)) (resVs_cons (ResV.tmp _ _ rfl) resVs_nil))), (pubA_id rfl), ?_⟩
        rfl

def m8_l16_awake  : Option Bool :=
  (m13_pipe_Offer (GPipePipe.mk (GSeqsWindow.mk 0 (0#64)) 0 ([] : List GMsgReq) ([] : List GMsgReply)) (GMsgReq.mk 7 1 0 0 false ([] : List UInt8) ([] : List UInt8) (GApiRange.mk ([] : List UInt8) ([] : List UInt8) false))).bind fun v1 => (m19_pipe_Ready (GPipePipe.mk (GSeqsWindow.mk v1.1.Win.Base v1.1.Win.Bits) v1.1.Next v1.1.Wait v1.1.Past)).bind fun v2 => (m13_pipe_Offer (GPipePipe.mk (GSeqsWindow.mk v1.1.Win.Base v1.1.Win.Bits) v1.1.Next v1.1.Wait v1.1.Past) (GMsgReq.mk 8 0 0 0 false ([] : List UInt8) ([] : List UInt8) (GApiRange.mk ([] : List UInt8) ([] : List UInt8) false))).bind fun v3 => (m19_pipe_Ready (GPipePipe.mk (GSeqsWindow.mk v3.1.Win.Base v3.1.Win.Bits) v3.1.Next v3.1.Wait v3.1.Past)).bind fun v4 => (m16_pipe_Answer (GPipePipe.mk (GSeqsWindow.mk v3.1.Win.Base v3.1.Win.Bits) v3.1.Next v3.1.Wait v3.1.Past) (GMsgReply.mk 0 0 0 5 false ([] : List UInt8) ([] : List GApiKV))).bind fun v5 => (m19_pipe_Ready (GPipePipe.mk (GSeqsWindow.mk v5.1.Win.Base v5.1.Win.Bits) v5.1.Next v5.1.Wait v5.1.Past)).bind fun v6 => (m13_pipe_Offer (GPipePipe.mk (GSeqsWindow.mk v5.1.Win.Base v5.1.Win.Bits) v5.1.Next v5.1.Wait v5.1.Past) (GMsgReq.mk 8 0 0 0 false ([] : List UInt8) ([] : List UInt8) (GApiRange.mk ([] : List UInt8) ([] : List UInt8) false))).bind fun v7 => if (decide (v1.2.2.2 = 0)) then (if (decide (v3.2.2.2 = 0)) then (if (decide (v5.2.2 = 0)) then (if (decide (v7.2.2.2 = 0)) then (if (!v2.2) then (if v4.2 then (if (decide (v4.1.Kind = 8)) then (if v6.2 then (if (decide (v6.1.Seq = 1)) then (if v7.2.2.1 then (if (decide (v7.2.1.N = 5)) then (some (decide (v7.2.1.Kind = 8))) else (some false)) else (some false)) else (some false)) else (some false)) else (some false)) else (some false)) else (some false)) else (some false)) else (some false)) else (some false)) else (some false)

set_option maxRecDepth 100000 in
theorem m8_l16_awake_c  {r : Bool} (h : m8_l16_awake = some r) : CallsA Tryd.prog 8 [] (· = .s (.one (.b r))) := by
  unfold m8_l16_awake at h
  refine callsA_of Tryd.func8 rfl (nt := 113) rfl (Nat.le_of_ble_eq_true rfl) ?_
  intro w0 S0
  refine cseq ?_
  refine cregion ?_
  refine sv rfl (opv_as rfl) ?_
  refine snil ?_
  refine cseq ?_
  refine cregion ?_
  refine sv rfl (opv_build zi46 pi46 parts_nil (.nil _)) ?_
  refine sv rfl (opv_build zi51 pi51 (parts_cons rfl (parts_cons rfl parts_nil)) (.cons _ _ _ _ _ _ _ rfl rfl (Nat.le_of_ble_eq_true rfl) (.cons _ _ _ _ _ _ _ rfl rfl (Nat.le_of_ble_eq_true rfl) (.nil _)))) ?_
  obtain ⟨v1, hv1, h⟩ := bind_eq h
  refine scall1 rfl fn13 (opnds_cons rfl (opnds_cons rfl opnds_nil)) (pubC rfl) (m13_pipe_Offer_c hv1) ?_
  refine sv rfl (opv_mvt rfl) ?_
  refine sv rfl (opv_extract rfl rfl) ?_
  refine sv rfl (opv_extract rfl rfl) ?_
  refine sv rfl (opv_extract rfl rfl) ?_
  refine sv rfl (opv_extract rfl rfl) ?_
  refine salloc rfl zi46 ?_
  refine salloc rfl zi48 ?_
  refine sstore sz46 rfl rfl rfl rfl (Nat.le_of_ble_eq_true rfl) ?_
  refine smem [.box [.i .i64 v1.1.Win.Base, .i .u64 (v1.1.Win.Bits.toNat : Int), .i .i64 v1.1.Next, .sl v1.1.Wait.length (v1.1.Wait.flatMap eGMsgReq), .sl v1.1.Past.length (v1.1.Past.flatMap eGMsgReply)], .box [.i .i64 0, .i .i64 0, .i .i64 0, .i .i64 0, .b false, .raw (.slice none 0 0), .raw (.slice none 0 0)]] rfl ?_
  refine sstore sz48 rfl rfl rfl rfl (Nat.le_of_ble_eq_true rfl) ?_
  refine smem [.box [.i .i64 v1.1.Win.Base, .i .u64 (v1.1.Win.Bits.toNat : Int), .i .i64 v1.1.Next, .sl v1.1.Wait.length (v1.1.Wait.flatMap eGMsgReq), .sl v1.1.Past.length (v1.1.Past.flatMap eGMsgReply)], .box [.i .i64 v1.2.1.Kind, .i .i64 v1.2.1.Seq, .i .i64 v1.2.1.Code, .i .i64 v1.2.1.N, .b v1.2.1.Found, .sl v1.2.1.Val.length (v1.2.1.Val.flatMap eU8), .sl v1.2.1.List.length (v1.2.1.List.flatMap eGApiKV)]] rfl ?_
  refine sv rfl (opv_as rfl) ?_
  refine sv rfl (opv_as rfl) ?_
  refine snil ?_
  refine cseq ?_
  refine cregion ?_
  refine sv rfl (opv_loadN ti46 rfl (.lp _ _ _ rfl) (Nat.le_of_ble_eq_true rfl)) ?_
  obtain ⟨v2, hv2, h⟩ := bind_eq h
  refine scall1 rfl fn19 (opnds_cons rfl opnds_nil) (pubA_id rfl) (m19_pipe_Ready_c hv2) ?_
  refine sv rfl (opv_mvt rfl) ?_
  refine sv rfl (opv_extract rfl rfl) ?_
  refine sv rfl (opv_extract rfl rfl) ?_
  refine salloc rfl zi51 ?_
  refine sstore sz51 rfl rfl rfl rfl (Nat.le_of_ble_eq_true rfl) ?_
  refine smem [.box [.i .i64 v1.1.Win.Base, .i .u64 (v1.1.Win.Bits.toNat : Int), .i .i64 v1.1.Next, .sl v1.1.Wait.length (v1.1.Wait.flatMap eGMsgReq), .sl v1.1.Past.length (v1.1.Past.flatMap eGMsgReply)], .box [.i .i64 v1.2.1.Kind, .i .i64 v1.2.1.Seq, .i .i64 v1.2.1.Code, .i .i64 v1.2.1.N, .b v1.2.1.Found, .sl v1.2.1.Val.length (v1.2.1.Val.flatMap eU8), .sl v1.2.1.List.length (v1.2.1.List.flatMap eGApiKV)], .box [.i .i64 v2.1.Kind, .i .i64 v2.1.Seq, .i .i64 v2.1.Token, .i .i64 v2.1.Attempt, .b v2.1.RO, .sl v2.1.Key.length (v2.1.Key.flatMap eU8), .sl v2.1.Val.length (v2.1.Val.flatMap eU8), .sl v2.1.Rng.Lo.length (v2.1.Rng.Lo.flatMap eU8), .sl v2.1.Rng.Hi.length (v2.1.Rng.Hi.flatMap eU8), .b v2.1.Rng.Open]] rfl ?_
  refine sv rfl (opv_as rfl) ?_
  refine snil ?_
  refine cseq ?_
  refine cregion ?_
  refine sv rfl (opv_loadN ti46 rfl (.lp _ _ _ rfl) (Nat.le_of_ble_eq_true rfl)) ?_
  refine sv rfl (opv_build zi51 pi51 (parts_cons rfl parts_nil) (.cons _ _ _ _ _ _ _ rfl rfl (Nat.le_of_ble_eq_true rfl) (.nil _))) ?_
  obtain ⟨v3, hv3, h⟩ := bind_eq h
  refine scall1 rfl fn13 (opnds_cons rfl (opnds_cons rfl opnds_nil)) (pubC rfl) (m13_pipe_Offer_c hv3) ?_
  refine sv rfl (opv_mvt rfl) ?_
  refine sv rfl (opv_extract rfl rfl) ?_
  refine sv rfl (opv_extract rfl rfl) ?_
  refine sv rfl (opv_extract rfl rfl) ?_
  refine sv rfl (opv_extract rfl rfl) ?_
  refine salloc rfl zi48 ?_
  refine sstore sz46 rfl rfl rfl rfl (Nat.le_of_ble_eq_true rfl) ?_
  refine smem [.box [.i .i64 v3.1.Win.Base, .i .u64 (v3.1.Win.Bits.toNat : Int), .i .i64 v3.1.Next, .sl v3.1.Wait.length (v3.1.Wait.flatMap eGMsgReq), .sl v3.1.Past.length (v3.1.Past.flatMap eGMsgReply)], .box [.i .i64 v1.2.1.Kind, .i .i64 v1.2.1.Seq, .i .i64 v1.2.1.Code, .i .i64 v1.2.1.N, .b v1.2.1.Found, .sl v1.2.1.Val.length (v1.2.1.Val.flatMap eU8), .sl v1.2.1.List.length (v1.2.1.List.flatMap eGApiKV)], .box [.i .i64 v2.1.Kind, .i .i64 v2.1.Seq, .i .i64 v2.1.Token, .i .i64 v2.1.Attempt, .b v2.1.RO, .sl v2.1.Key.length (v2.1.Key.flatMap eU8), .sl v2.1.Val.length (v2.1.Val.flatMap eU8), .sl v2.1.Rng.Lo.length (v2.1.Rng.Lo.flatMap eU8), .sl v2.1.Rng.Hi.length (v2.1.Rng.Hi.flatMap eU8), .b v2.1.Rng.Open], .box [.i .i64 0, .i .i64 0, .i .i64 0, .i .i64 0, .b false, .raw (.slice none 0 0), .raw (.slice none 0 0)]] rfl ?_
  refine sstore sz48 rfl rfl rfl rfl (Nat.le_of_ble_eq_true rfl) ?_
  refine smem [.box [.i .i64 v3.1.Win.Base, .i .u64 (v3.1.Win.Bits.toNat : Int), .i .i64 v3.1.Next, .sl v3.1.Wait.length (v3.1.Wait.flatMap eGMsgReq), .sl v3.1.Past.length (v3.1.Past.flatMap eGMsgReply)], .box [.i .i64 v1.2.1.Kind, .i .i64 v1.2.1.Seq, .i .i64 v1.2.1.Code, .i .i64 v1.2.1.N, .b v1.2.1.Found, .sl v1.2.1.Val.length (v1.2.1.Val.flatMap eU8), .sl v1.2.1.List.length (v1.2.1.List.flatMap eGApiKV)], .box [.i .i64 v2.1.Kind, .i .i64 v2.1.Seq, .i .i64 v2.1.Token, .i .i64 v2.1.Attempt, .b v2.1.RO, .sl v2.1.Key.length (v2.1.Key.flatMap eU8), .sl v2.1.Val.length (v2.1.Val.flatMap eU8), .sl v2.1.Rng.Lo.length (v2.1.Rng.Lo.flatMap eU8), .sl v2.1.Rng.Hi.length (v2.1.Rng.Hi.flatMap eU8), .b v2.1.Rng.Open], .box [.i .i64 v3.2.1.Kind, .i .i64 v3.2.1.Seq, .i .i64 v3.2.1.Code, .i .i64 v3.2.1.N, .b v3.2.1.Found, .sl v3.2.1.Val.length (v3.2.1.Val.flatMap eU8), .sl v3.2.1.List.length (v3.2.1.List.flatMap eGApiKV)]] rfl ?_
  refine sv rfl (opv_as rfl) ?_
  refine sv rfl (opv_as rfl) ?_
  refine snil ?_
  refine cseq ?_
  refine cregion ?_
  refine sv rfl (opv_loadN ti46 rfl (.lp _ _ _ rfl) (Nat.le_of_ble_eq_true rfl)) ?_
  obtain ⟨v4, hv4, h⟩ := bind_eq h
  refine scall1 rfl fn19 (opnds_cons rfl opnds_nil) (pubA_id rfl) (m19_pipe_Ready_c hv4) ?_
  refine sv rfl (opv_mvt rfl) ?_
  refine sv rfl (opv_extract rfl rfl) ?_
  refine sv rfl (opv_extract rfl rfl) ?_
  refine salloc rfl zi51 ?_
  refine sstore sz51 rfl rfl rfl rfl (Nat.le_of_ble_eq_true rfl) ?_
  refine smem [.box [.i .i64 v3.1.Win.Base, .i .u64 (v3.1.Win.Bits.toNat : Int), .i .i64 v3.1.Next, .sl v3.1.Wait.length (v3.1.Wait.flatMap eGMsgReq), .sl v3.1.Past.length (v3.1.Past.flatMap eGMsgReply)], .box [.i .i64 v1.2.1.Kind, .i .i64 v1.2.1.Seq, .i .i64 v1.2.1.Code, .i .i64 v1.2.1.N, .b v1.2.1.Found, .sl v1.2.1.Val.length (v1.2.1.Val.flatMap eU8), .sl v1.2.1.List.length (v1.2.1.List.flatMap eGApiKV)], .box [.i .i64 v2.1.Kind, .i .i64 v2.1.Seq, .i .i64 v2.1.Token, .i .i64 v2.1.Attempt, .b v2.1.RO, .sl v2.1.Key.length (v2.1.Key.flatMap eU8), .sl v2.1.Val.length (v2.1.Val.flatMap eU8), .sl v2.1.Rng.Lo.length (v2.1.Rng.Lo.flatMap eU8), .sl v2.1.Rng.Hi.length (v2.1.Rng.Hi.flatMap eU8), .b v2.1.Rng.Open], .box [.i .i64 v3.2.1.Kind, .i .i64 v3.2.1.Seq, .i .i64 v3.2.1.Code, .i .i64 v3.2.1.N, .b v3.2.1.Found, .sl v3.2.1.Val.length (v3.2.1.Val.flatMap eU8), .sl v3.2.1.List.length (v3.2.1.List.flatMap eGApiKV)], .box [.i .i64 v4.1.Kind, .i .i64 v4.1.Seq, .i .i64 v4.1.Token, .i .i64 v4.1.Attempt, .b v4.1.RO, .sl v4.1.Key.length (v4.1.Key.flatMap eU8), .sl v4.1.Val.length (v4.1.Val.flatMap eU8), .sl v4.1.Rng.Lo.length (v4.1.Rng.Lo.flatMap eU8), .sl v4.1.Rng.Hi.length (v4.1.Rng.Hi.flatMap eU8), .b v4.1.Rng.Open]] rfl ?_
  refine sv rfl (opv_as rfl) ?_
  refine snil ?_
  refine cseq ?_
  refine cregion ?_
  refine sv rfl (opv_loadN ti46 rfl (.lp _ _ _ rfl) (Nat.le_of_ble_eq_true rfl)) ?_
  refine sv rfl (opv_build zi48 pi48 (parts_cons rfl parts_nil) (.cons _ _ _ _ _ _ _ rfl rfl (Nat.le_of_ble_eq_true rfl) (.nil _))) ?_
  obtain ⟨v5, hv5, h⟩ := bind_eq h
  refine scall1 rfl fn16 (opnds_cons rfl (opnds_cons rfl opnds_nil)) (pubC rfl) (m16_pipe_Answer_c hv5) ?_
  refine sv rfl (opv_mvt rfl) ?_
  refine sv rfl (opv_extract rfl rfl) ?_
  refine sv rfl (opv_extract rfl rfl) ?_
  refine sv rfl (opv_extract rfl rfl) ?_
  refine salloc rfl zi48 ?_
  refine sstore sz46 rfl rfl rfl rfl (Nat.le_of_ble_eq_true rfl) ?_
  refine smem [.box [.i .i64 v5.1.Win.Base, .i .u64 (v5.1.Win.Bits.toNat : Int), .i .i64 v5.1.Next, .sl v5.1.Wait.length (v5.1.Wait.flatMap eGMsgReq), .sl v5.1.Past.length (v5.1.Past.flatMap eGMsgReply)], .box [.i .i64 v1.2.1.Kind, .i .i64 v1.2.1.Seq, .i .i64 v1.2.1.Code, .i .i64 v1.2.1.N, .b v1.2.1.Found, .sl v1.2.1.Val.length (v1.2.1.Val.flatMap eU8), .sl v1.2.1.List.length (v1.2.1.List.flatMap eGApiKV)], .box [.i .i64 v2.1.Kind, .i .i64 v2.1.Seq, .i .i64 v2.1.Token, .i .i64 v2.1.Attempt, .b v2.1.RO, .sl v2.1.Key.length (v2.1.Key.flatMap eU8), .sl v2.1.Val.length (v2.1.Val.flatMap eU8), .sl v2.1.Rng.Lo.length (v2.1.Rng.Lo.flatMap eU8), .sl v2.1.Rng.Hi.length (v2.1.Rng.Hi.flatMap eU8), .b v2.1.Rng.Open], .box [.i .i64 v3.2.1.Kind, .i .i64 v3.2.1.Seq, .i .i64 v3.2.1.Code, .i .i64 v3.2.1.N, .b v3.2.1.Found, .sl v3.2.1.Val.length (v3.2.1.Val.flatMap eU8), .sl v3.2.1.List.length (v3.2.1.List.flatMap eGApiKV)], .box [.i .i64 v4.1.Kind, .i .i64 v4.1.Seq, .i .i64 v4.1.Token, .i .i64 v4.1.Attempt, .b v4.1.RO, .sl v4.1.Key.length (v4.1.Key.flatMap eU8), .sl v4.1.Val.length (v4.1.Val.flatMap eU8), .sl v4.1.Rng.Lo.length (v4.1.Rng.Lo.flatMap eU8), .sl v4.1.Rng.Hi.length (v4.1.Rng.Hi.flatMap eU8), .b v4.1.Rng.Open], .box [.i .i64 0, .i .i64 0, .i .i64 0, .i .i64 0, .b false, .raw (.slice none 0 0), .raw (.slice none 0 0)]] rfl ?_
  refine sstore sz48 rfl rfl rfl rfl (Nat.le_of_ble_eq_true rfl) ?_
  refine smem [.box [.i .i64 v5.1.Win.Base, .i .u64 (v5.1.Win.Bits.toNat : Int), .i .i64 v5.1.Next, .sl v5.1.Wait.length (v5.1.Wait.flatMap eGMsgReq), .sl v5.1.Past.length (v5.1.Past.flatMap eGMsgReply)], .box [.i .i64 v1.2.1.Kind, .i .i64 v1.2.1.Seq, .i .i64 v1.2.1.Code, .i .i64 v1.2.1.N, .b v1.2.1.Found, .sl v1.2.1.Val.length (v1.2.1.Val.flatMap eU8), .sl v1.2.1.List.length (v1.2.1.List.flatMap eGApiKV)], .box [.i .i64 v2.1.Kind, .i .i64 v2.1.Seq, .i .i64 v2.1.Token, .i .i64 v2.1.Attempt, .b v2.1.RO, .sl v2.1.Key.length (v2.1.Key.flatMap eU8), .sl v2.1.Val.length (v2.1.Val.flatMap eU8), .sl v2.1.Rng.Lo.length (v2.1.Rng.Lo.flatMap eU8), .sl v2.1.Rng.Hi.length (v2.1.Rng.Hi.flatMap eU8), .b v2.1.Rng.Open], .box [.i .i64 v3.2.1.Kind, .i .i64 v3.2.1.Seq, .i .i64 v3.2.1.Code, .i .i64 v3.2.1.N, .b v3.2.1.Found, .sl v3.2.1.Val.length (v3.2.1.Val.flatMap eU8), .sl v3.2.1.List.length (v3.2.1.List.flatMap eGApiKV)], .box [.i .i64 v4.1.Kind, .i .i64 v4.1.Seq, .i .i64 v4.1.Token, .i .i64 v4.1.Attempt, .b v4.1.RO, .sl v4.1.Key.length (v4.1.Key.flatMap eU8), .sl v4.1.Val.length (v4.1.Val.flatMap eU8), .sl v4.1.Rng.Lo.length (v4.1.Rng.Lo.flatMap eU8), .sl v4.1.Rng.Hi.length (v4.1.Rng.Hi.flatMap eU8), .b v4.1.Rng.Open], .box [.i .i64 v5.2.1.Kind, .i .i64 v5.2.1.Seq, .i .i64 v5.2.1.Code, .i .i64 v5.2.1.N, .b v5.2.1.Found, .sl v5.2.1.Val.length (v5.2.1.Val.flatMap eU8), .sl v5.2.1.List.length (v5.2.1.List.flatMap eGApiKV)]] rfl ?_
  refine sv rfl (opv_as rfl) ?_
  refine snil ?_
  refine cseq ?_
  refine cregion ?_
  refine sv rfl (opv_loadN ti46 rfl (.lp _ _ _ rfl) (Nat.le_of_ble_eq_true rfl)) ?_
  obtain ⟨v6, hv6, h⟩ := bind_eq h
  refine scall1 rfl fn19 (opnds_cons rfl opnds_nil) (pubA_id rfl) (m19_pipe_Ready_c hv6) ?_
  refine sv rfl (opv_mvt rfl) ?_
  refine sv rfl (opv_extract rfl rfl) ?_
  refine sv rfl (opv_extract rfl rfl) ?_
  refine salloc rfl zi51 ?_
  refine sstore sz51 rfl rfl rfl rfl (Nat.le_of_ble_eq_true rfl) ?_
  refine smem [.box [.i .i64 v5.1.Win.Base, .i .u64 (v5.1.Win.Bits.toNat : Int), .i .i64 v5.1.Next, .sl v5.1.Wait.length (v5.1.Wait.flatMap eGMsgReq), .sl v5.1.Past.length (v5.1.Past.flatMap eGMsgReply)], .box [.i .i64 v1.2.1.Kind, .i .i64 v1.2.1.Seq, .i .i64 v1.2.1.Code, .i .i64 v1.2.1.N, .b v1.2.1.Found, .sl v1.2.1.Val.length (v1.2.1.Val.flatMap eU8), .sl v1.2.1.List.length (v1.2.1.List.flatMap eGApiKV)], .box [.i .i64 v2.1.Kind, .i .i64 v2.1.Seq, .i .i64 v2.1.Token, .i .i64 v2.1.Attempt, .b v2.1.RO, .sl v2.1.Key.length (v2.1.Key.flatMap eU8), .sl v2.1.Val.length (v2.1.Val.flatMap eU8), .sl v2.1.Rng.Lo.length (v2.1.Rng.Lo.flatMap eU8), .sl v2.1.Rng.Hi.length (v2.1.Rng.Hi.flatMap eU8), .b v2.1.Rng.Open], .box [.i .i64 v3.2.1.Kind, .i .i64 v3.2.1.Seq, .i .i64 v3.2.1.Code, .i .i64 v3.2.1.N, .b v3.2.1.Found, .sl v3.2.1.Val.length (v3.2.1.Val.flatMap eU8), .sl v3.2.1.List.length (v3.2.1.List.flatMap eGApiKV)], .box [.i .i64 v4.1.Kind, .i .i64 v4.1.Seq, .i .i64 v4.1.Token, .i .i64 v4.1.Attempt, .b v4.1.RO, .sl v4.1.Key.length (v4.1.Key.flatMap eU8), .sl v4.1.Val.length (v4.1.Val.flatMap eU8), .sl v4.1.Rng.Lo.length (v4.1.Rng.Lo.flatMap eU8), .sl v4.1.Rng.Hi.length (v4.1.Rng.Hi.flatMap eU8), .b v4.1.Rng.Open], .box [.i .i64 v5.2.1.Kind, .i .i64 v5.2.1.Seq, .i .i64 v5.2.1.Code, .i .i64 v5.2.1.N, .b v5.2.1.Found, .sl v5.2.1.Val.length (v5.2.1.Val.flatMap eU8), .sl v5.2.1.List.length (v5.2.1.List.flatMap eGApiKV)], .box [.i .i64 v6.1.Kind, .i .i64 v6.1.Seq, .i .i64 v6.1.Token, .i .i64 v6.1.Attempt, .b v6.1.RO, .sl v6.1.Key.length (v6.1.Key.flatMap eU8), .sl v6.1.Val.length (v6.1.Val.flatMap eU8), .sl v6.1.Rng.Lo.length (v6.1.Rng.Lo.flatMap eU8), .sl v6.1.Rng.Hi.length (v6.1.Rng.Hi.flatMap eU8), .b v6.1.Rng.Open]] rfl ?_
  refine sv rfl (opv_as rfl) ?_
  refine snil ?_
  refine cseq ?_
  refine cregion ?_
  refine sv rfl (opv_loadN ti46 rfl (.lp _ _ _ rfl) (Nat.le_of_ble_eq_true rfl)) ?_
  refine sv rfl (opv_build zi51 pi51 (parts_cons rfl parts_nil) (.cons _ _ _ _ _ _ _ rfl rfl (Nat.le_of_ble_eq_true rfl) (.nil _))) ?_
  obtain ⟨v7, hv7, h⟩ := bind_eq h
  refine scall1 rfl fn13 (opnds_cons rfl (opnds_cons rfl opnds_nil)) (pubC rfl) (m13_pipe_Offer_c hv7) ?_
  refine sv rfl (opv_mvt rfl) ?_
  refine sv rfl (opv_extract rfl rfl) ?_
  refine sv rfl (opv_extract rfl rfl) ?_
  refine sv rfl (opv_extract rfl rfl) ?_
  refine sv rfl (opv_extract rfl rfl) ?_
  refine salloc rfl zi46 ?_
  refine salloc rfl zi48 ?_
  refine sstore sz46 rfl rfl rfl rfl (Nat.le_of_ble_eq_true rfl) ?_
  refine smem [.box [.i .i64 v5.1.Win.Base, .i .u64 (v5.1.Win.Bits.toNat : Int), .i .i64 v5.1.Next, .sl v5.1.Wait.length (v5.1.Wait.flatMap eGMsgReq), .sl v5.1.Past.length (v5.1.Past.flatMap eGMsgReply)], .box [.i .i64 v1.2.1.Kind, .i .i64 v1.2.1.Seq, .i .i64 v1.2.1.Code, .i .i64 v1.2.1.N, .b v1.2.1.Found, .sl v1.2.1.Val.length (v1.2.1.Val.flatMap eU8), .sl v1.2.1.List.length (v1.2.1.List.flatMap eGApiKV)], .box [.i .i64 v2.1.Kind, .i .i64 v2.1.Seq, .i .i64 v2.1.Token, .i .i64 v2.1.Attempt, .b v2.1.RO, .sl v2.1.Key.length (v2.1.Key.flatMap eU8), .sl v2.1.Val.length (v2.1.Val.flatMap eU8), .sl v2.1.Rng.Lo.length (v2.1.Rng.Lo.flatMap eU8), .sl v2.1.Rng.Hi.length (v2.1.Rng.Hi.flatMap eU8), .b v2.1.Rng.Open], .box [.i .i64 v3.2.1.Kind, .i .i64 v3.2.1.Seq, .i .i64 v3.2.1.Code, .i .i64 v3.2.1.N, .b v3.2.1.Found, .sl v3.2.1.Val.length (v3.2.1.Val.flatMap eU8), .sl v3.2.1.List.length (v3.2.1.List.flatMap eGApiKV)], .box [.i .i64 v4.1.Kind, .i .i64 v4.1.Seq, .i .i64 v4.1.Token, .i .i64 v4.1.Attempt, .b v4.1.RO, .sl v4.1.Key.length (v4.1.Key.flatMap eU8), .sl v4.1.Val.length (v4.1.Val.flatMap eU8), .sl v4.1.Rng.Lo.length (v4.1.Rng.Lo.flatMap eU8), .sl v4.1.Rng.Hi.length (v4.1.Rng.Hi.flatMap eU8), .b v4.1.Rng.Open], .box [.i .i64 v5.2.1.Kind, .i .i64 v5.2.1.Seq, .i .i64 v5.2.1.Code, .i .i64 v5.2.1.N, .b v5.2.1.Found, .sl v5.2.1.Val.length (v5.2.1.Val.flatMap eU8), .sl v5.2.1.List.length (v5.2.1.List.flatMap eGApiKV)], .box [.i .i64 v6.1.Kind, .i .i64 v6.1.Seq, .i .i64 v6.1.Token, .i .i64 v6.1.Attempt, .b v6.1.RO, .sl v6.1.Key.length (v6.1.Key.flatMap eU8), .sl v6.1.Val.length (v6.1.Val.flatMap eU8), .sl v6.1.Rng.Lo.length (v6.1.Rng.Lo.flatMap eU8), .sl v6.1.Rng.Hi.length (v6.1.Rng.Hi.flatMap eU8), .b v6.1.Rng.Open], .box [.i .i64 v7.1.Win.Base, .i .u64 (v7.1.Win.Bits.toNat : Int), .i .i64 v7.1.Next, .sl v7.1.Wait.length (v7.1.Wait.flatMap eGMsgReq), .sl v7.1.Past.length (v7.1.Past.flatMap eGMsgReply)], .box [.i .i64 0, .i .i64 0, .i .i64 0, .i .i64 0, .b false, .raw (.slice none 0 0), .raw (.slice none 0 0)]] rfl ?_
  refine sstore sz48 rfl rfl rfl rfl (Nat.le_of_ble_eq_true rfl) ?_
  refine smem [.box [.i .i64 v5.1.Win.Base, .i .u64 (v5.1.Win.Bits.toNat : Int), .i .i64 v5.1.Next, .sl v5.1.Wait.length (v5.1.Wait.flatMap eGMsgReq), .sl v5.1.Past.length (v5.1.Past.flatMap eGMsgReply)], .box [.i .i64 v1.2.1.Kind, .i .i64 v1.2.1.Seq, .i .i64 v1.2.1.Code, .i .i64 v1.2.1.N, .b v1.2.1.Found, .sl v1.2.1.Val.length (v1.2.1.Val.flatMap eU8), .sl v1.2.1.List.length (v1.2.1.List.flatMap eGApiKV)], .box [.i .i64 v2.1.Kind, .i .i64 v2.1.Seq, .i .i64 v2.1.Token, .i .i64 v2.1.Attempt, .b v2.1.RO, .sl v2.1.Key.length (v2.1.Key.flatMap eU8), .sl v2.1.Val.length (v2.1.Val.flatMap eU8), .sl v2.1.Rng.Lo.length (v2.1.Rng.Lo.flatMap eU8), .sl v2.1.Rng.Hi.length (v2.1.Rng.Hi.flatMap eU8), .b v2.1.Rng.Open], .box [.i .i64 v3.2.1.Kind, .i .i64 v3.2.1.Seq, .i .i64 v3.2.1.Code, .i .i64 v3.2.1.N, .b v3.2.1.Found, .sl v3.2.1.Val.length (v3.2.1.Val.flatMap eU8), .sl v3.2.1.List.length (v3.2.1.List.flatMap eGApiKV)], .box [.i .i64 v4.1.Kind, .i .i64 v4.1.Seq, .i .i64 v4.1.Token, .i .i64 v4.1.Attempt, .b v4.1.RO, .sl v4.1.Key.length (v4.1.Key.flatMap eU8), .sl v4.1.Val.length (v4.1.Val.flatMap eU8), .sl v4.1.Rng.Lo.length (v4.1.Rng.Lo.flatMap eU8), .sl v4.1.Rng.Hi.length (v4.1.Rng.Hi.flatMap eU8), .b v4.1.Rng.Open], .box [.i .i64 v5.2.1.Kind, .i .i64 v5.2.1.Seq, .i .i64 v5.2.1.Code, .i .i64 v5.2.1.N, .b v5.2.1.Found, .sl v5.2.1.Val.length (v5.2.1.Val.flatMap eU8), .sl v5.2.1.List.length (v5.2.1.List.flatMap eGApiKV)], .box [.i .i64 v6.1.Kind, .i .i64 v6.1.Seq, .i .i64 v6.1.Token, .i .i64 v6.1.Attempt, .b v6.1.RO, .sl v6.1.Key.length (v6.1.Key.flatMap eU8), .sl v6.1.Val.length (v6.1.Val.flatMap eU8), .sl v6.1.Rng.Lo.length (v6.1.Rng.Lo.flatMap eU8), .sl v6.1.Rng.Hi.length (v6.1.Rng.Hi.flatMap eU8), .b v6.1.Rng.Open], .box [.i .i64 v7.1.Win.Base, .i .u64 (v7.1.Win.Bits.toNat : Int), .i .i64 v7.1.Next, .sl v7.1.Wait.length (v7.1.Wait.flatMap eGMsgReq), .sl v7.1.Past.length (v7.1.Past.flatMap eGMsgReply)], .box [.i .i64 v7.2.1.Kind, .i .i64 v7.2.1.Seq, .i .i64 v7.2.1.Code, .i .i64 v7.2.1.N, .b v7.2.1.Found, .sl v7.2.1.Val.length (v7.2.1.Val.flatMap eU8), .sl v7.2.1.List.length (v7.2.1.List.flatMap eGApiKV)]] rfl ?_
  refine sv rfl (opv_as rfl) ?_
  refine sv rfl (opv_as rfl) ?_
  refine snil ?_
  refine cseq ?_
  refine cregion ?_
  refine sv rfl (opv_mv rfl) ?_
  refine sv rfl (opv_ieql rfl rfl) ?_
  refine sv rfl (opv_mv rfl) ?_
  refine ssplit 68 rfl (fun hc => ?_) (fun hc => ?_)
  · replace h := ite_t hc h
    clear hc
    refine son rfl rfl rfl ?_
    refine sv rfl (opv_mv rfl) ?_
    refine son rfl rfl rfl ?_
    refine sv rfl (opv_ieql rfl rfl) ?_
    refine sv rfl (opv_pick_t rfl rfl) ?_
    refine sv rfl (opv_mv rfl) ?_
    refine ssplit 72 rfl (fun hc => ?_) (fun hc => ?_)
    · replace h := ite_t hc h
      clear hc
      refine son rfl rfl rfl ?_
      refine sv rfl (opv_mv rfl) ?_
      refine son rfl rfl rfl ?_
      refine sv rfl (opv_ieql rfl rfl) ?_
      refine sv rfl (opv_pick_t rfl rfl) ?_
      refine sv rfl (opv_mv rfl) ?_
      refine ssplit 76 rfl (fun hc => ?_) (fun hc => ?_)
      · replace h := ite_t hc h
        clear hc
        refine son rfl rfl rfl ?_
        refine sv rfl (opv_mv rfl) ?_
        refine son rfl rfl rfl ?_
        refine sv rfl (opv_ieql rfl rfl) ?_
        refine sv rfl (opv_pick_t rfl rfl) ?_
        refine sv rfl (opv_mv rfl) ?_
        refine ssplit 80 rfl (fun hc => ?_) (fun hc => ?_)
        · replace h := ite_t hc h
          clear hc
          refine son rfl rfl rfl ?_
          refine sv rfl (opv_mv rfl) ?_
          refine son rfl rfl rfl ?_
          refine sv rfl (opv_not rfl) ?_
          refine sv rfl (opv_pick_t rfl rfl) ?_
          refine sv rfl (opv_mv rfl) ?_
          refine ssplit 84 rfl (fun hc => ?_) (fun hc => ?_)
          · replace h := ite_t hc h
            clear hc
            refine son rfl rfl rfl ?_
            refine sv rfl (opv_mv rfl) ?_
            refine sv rfl (opv_pick_t rfl rfl) ?_
            refine sv rfl (opv_mv rfl) ?_
            refine ssplit 87 rfl (fun hc => ?_) (fun hc => ?_)
            · replace h := ite_t hc h
              clear hc
              refine son rfl rfl rfl ?_
              refine sv rfl (opv_fieldAddr_lp fi51_0 rfl) ?_
              refine son rfl rfl rfl ?_
              refine sv rfl (opv_load1 ti3 rfl (.lp _ _ _ rfl) rfl) ?_
              refine son rfl rfl rfl ?_
              refine sv rfl (opv_ieql rfl rfl) ?_
              refine sv rfl (opv_pick_t rfl rfl) ?_
              refine sv rfl (opv_mv rfl) ?_
              refine ssplit 92 rfl (fun hc => ?_) (fun hc => ?_)
              · replace h := ite_t hc h
                clear hc
                refine son rfl rfl rfl ?_
                refine sv rfl (opv_mv rfl) ?_
                refine sv rfl (opv_pick_t rfl rfl) ?_
                refine sv rfl (opv_mv rfl) ?_
                refine ssplit 95 rfl (fun hc => ?_) (fun hc => ?_)
                · replace h := ite_t hc h
                  clear hc
                  refine son rfl rfl rfl ?_
                  refine sv rfl (opv_fieldAddr_lp fi51_1 rfl) ?_
                  refine son rfl rfl rfl ?_
                  refine sv rfl (opv_load1 ti3 rfl (.lp _ _ _ rfl) rfl) ?_
                  refine son rfl rfl rfl ?_
                  refine sv rfl (opv_ieql rfl rfl) ?_
                  refine sv rfl (opv_pick_t rfl rfl) ?_
                  refine sv rfl (opv_mv rfl) ?_
                  refine ssplit 100 rfl (fun hc => ?_) (fun hc => ?_)
                  · replace h := ite_t hc h
                    clear hc
                    refine son rfl rfl rfl ?_
                    refine sv rfl (opv_mv rfl) ?_
                    refine sv rfl (opv_pick_t rfl rfl) ?_
                    refine sv rfl (opv_mv rfl) ?_
                    refine ssplit 103 rfl (fun hc => ?_) (fun hc => ?_)
                    · replace h := ite_t hc h
                      clear hc
                      refine son rfl rfl rfl ?_
                      refine sv rfl (opv_fieldAddr_lp fi48_3 rfl) ?_
                      refine son rfl rfl rfl ?_
                      refine sv rfl (opv_load1 ti3 rfl (.lp _ _ _ rfl) rfl) ?_
                      refine son rfl rfl rfl ?_
                      refine sv rfl (opv_ieql rfl rfl) ?_
                      refine sv rfl (opv_pick_t rfl rfl) ?_
                      refine sv rfl (opv_mv rfl) ?_
                      refine ssplit 108 rfl (fun hc => ?_) (fun hc => ?_)
                      · replace h := ite_t hc h
                        clear hc
                        refine son rfl rfl rfl ?_
                        refine sv rfl (opv_fieldAddr_lp fi48_0 rfl) ?_
                        refine son rfl rfl rfl ?_
                        refine sv rfl (opv_load1 ti3 rfl (.lp _ _ _ rfl) rfl) ?_
                        refine son rfl rfl rfl ?_
                        refine sv rfl (opv_ieql rfl rfl) ?_
                        refine sv rfl (opv_pick_t rfl rfl) ?_
                        refine sv rfl (opv_as rfl) ?_
                        refine snil ?_
                        refine cret ?_
                        obtain rfl := Option.some.inj h
                        refine ⟨Or.inr rfl, _, _, _, (resVs_cons (ResV.tmp _ _ rfl) resVs_nil), (pubA_id rfl), ?_⟩
                        rfl
                      · replace h := ite_f hc h
                        clear hc
                        refine soff rfl rfl rfl rfl ?_
                        refine soff rfl rfl rfl rfl ?_
                        refine soff rfl rfl rfl rfl ?_
                        refine sv rfl (opv_pick_f rfl rfl) ?_
                        refine sv rfl (opv_as rfl) ?_
                        refine snil ?_
                        refine cret ?_
                        obtain rfl := Option.some.inj h
                        refine ⟨Or.inr rfl, _, _, _, (resVs_cons (ResV.tmp _ _ rfl) resVs_nil), (pubA_id rfl), ?_⟩
                        rfl
                    · replace h := ite_f hc h
                      clear hc
                      refine soff rfl rfl rfl rfl ?_
                      refine soff rfl rfl rfl rfl ?_
                      refine soff rfl rfl rfl rfl ?_
                      refine sv rfl (opv_pick_f rfl rfl) ?_
                      refine sv rfl (opv_mv rfl) ?_
                      refine soff rfl rfl rfl rfl ?_
                      refine soff rfl rfl rfl rfl ?_
                      refine soff rfl rfl rfl rfl ?_
                      refine sv rfl (opv_pick_f rfl rfl) ?_
                      refine sv rfl (opv_as rfl) ?_
                      refine snil ?_
                      refine cret ?_
                      obtain rfl := Option.some.inj h
                      refine ⟨Or.inr rfl, _, _, _, (resVs_cons (ResV.tmp _ _ rfl) resVs_nil), (pubA_id rfl), ?_⟩
                      rfl
                  · replace h := ite_f hc h
                    clear hc
                    refine soff rfl rfl rfl rfl ?_
                    refine sv rfl (opv_pick_f rfl rfl) ?_
                    refine sv rfl (opv_mv rfl) ?_
                    refine soff rfl rfl rfl rfl ?_
                    refine soff rfl rfl rfl rfl ?_
                    refine soff rfl rfl rfl rfl ?_
                    refine sv rfl (opv_pick_f rfl rfl) ?_
                    refine sv rfl (opv_mv rfl) ?_
                    refine soff rfl rfl rfl rfl ?_
                    refine soff rfl rfl rfl rfl ?_
                    refine soff rfl rfl rfl rfl ?_
                    refine sv rfl (opv_pick_f rfl rfl) ?_
                    refine sv rfl (opv_as rfl) ?_
                    refine snil ?_
                    refine cret ?_
                    obtain rfl := Option.some.inj h
                    refine ⟨Or.inr rfl, _, _, _, (resVs_cons (ResV.tmp _ _ rfl) resVs_nil), (pubA_id rfl), ?_⟩
                    rfl
                · replace h := ite_f hc h
                  clear hc
                  refine soff rfl rfl rfl rfl ?_
                  refine soff rfl rfl rfl rfl ?_
                  refine soff rfl rfl rfl rfl ?_
                  refine sv rfl (opv_pick_f rfl rfl) ?_
                  refine sv rfl (opv_mv rfl) ?_
                  refine soff rfl rfl rfl rfl ?_
                  refine sv rfl (opv_pick_f rfl rfl) ?_
                  refine sv rfl (opv_mv rfl) ?_
                  refine soff rfl rfl rfl rfl ?_
                  refine soff rfl rfl rfl rfl ?_
                  refine soff rfl rfl rfl rfl ?_
                  refine sv rfl (opv_pick_f rfl rfl) ?_
                  refine sv rfl (opv_mv rfl) ?_
                  refine soff rfl rfl rfl rfl ?_
                  refine soff rfl rfl rfl rfl ?_
                  refine soff rfl rfl rfl rfl ?_
                  refine sv rfl (opv_pick_f rfl rfl) ?_
                  refine sv rfl (opv_as rfl) ?_
                  refine snil ?_
                  refine cret ?_
                  obtain rfl := Option.some.inj h
                  refine ⟨Or.inr rfl, _, _, _, (resVs_cons (ResV.tmp _ _ rfl) resVs_nil), (pubA_id rfl), ?_⟩
                  rfl
              · replace h := ite_f hc h
                clear hc
                refine soff rfl rfl rfl rfl ?_
                refine sv rfl (opv_pick_f rfl rfl) ?_
                refine sv rfl (opv_mv rfl) ?_
                refine soff rfl rfl rfl rfl ?_
                refine soff rfl rfl rfl rfl ?_
                refine soff rfl rfl rfl rfl ?_
                refine sv rfl (opv_pick_f rfl rfl) ?_
                refine sv rfl (opv_mv rfl) ?_
                refine soff rfl rfl rfl rfl ?_
                refine sv rfl (opv_pick_f rfl rfl) ?_
                refine sv rfl (opv_mv rfl) ?_
                refine soff rfl rfl rfl rfl ?_
                refine soff rfl rfl rfl rfl ?_
                refine soff rfl rfl rfl rfl ?_
                refine sv rfl (opv_pick_f rfl rfl) ?_
                refine sv rfl (opv_mv rfl) ?_
                refine soff rfl rfl rfl rfl ?_
                refine soff rfl rfl rfl rfl ?_
                refine soff rfl rfl rfl rfl ?_
                refine sv rfl (opv_pick_f rfl rfl) ?_
                refine sv rfl (opv_as rfl) ?_
                refine snil ?_
                refine cret ?_
                obtain rfl := Option.some.inj h
                refine ⟨Or.inr rfl, _, _, _, (resVs_cons (ResV.tmp _ _ rfl) resVs_nil), (pubA_id rfl), ?_⟩
                rfl
            · replace h := ite_f hc h
              clear hc
              refine soff rfl rfl rfl rfl ?_
              refine soff rfl rfl rfl rfl ?_
              refine soff rfl rfl rfl rfl ?_
              refine sv rfl (opv_pick_f rfl rfl) ?_
              refine sv rfl (opv_mv rfl) ?_
              refine soff rfl rfl rfl rfl ?_
              refine sv rfl (opv_pick_f rfl rfl) ?_
              refine sv rfl (opv_mv rfl) ?_
              refine soff rfl rfl rfl rfl ?_
              refine soff rfl rfl rfl rfl ?_
              refine soff rfl rfl rfl rfl ?_
              refine sv rfl (opv_pick_f rfl rfl) ?_
              refine sv rfl (opv_mv rfl) ?_
              refine soff rfl rfl rfl rfl ?_
              refine sv rfl (opv_pick_f rfl rfl) ?_
              refine sv rfl (opv_mv rfl) ?_
              refine soff rfl rfl rfl rfl ?_
              refine soff rfl rfl rfl rfl ?_
              refine soff rfl rfl rfl rfl ?_
              refine sv rfl (opv_pick_f rfl rfl) ?_
              refine sv rfl (opv_mv rfl) ?_
              refine soff rfl rfl rfl rfl ?_
              refine soff rfl rfl rfl rfl ?_
              refine soff rfl rfl rfl rfl ?_
              refine sv rfl (opv_pick_f rfl rfl) ?_
              refine sv rfl (opv_as rfl) ?_
              refine snil ?_
              refine cret ?_
              obtain rfl := Option.some.inj h
              refine ⟨Or.inr rfl, _, _, _, (resVs_cons (ResV.tmp _ _ rfl) resVs_nil), (pubA_id rfl), ?_⟩
              rfl
          · replace h := ite_f hc h
            clear hc
            refine soff rfl rfl rfl rfl ?_
            refine sv rfl (opv_pick_f rfl rfl) ?_
            refine sv rfl (opv_mv rfl) ?_
            refine soff rfl rfl rfl rfl ?_
            refine soff rfl rfl rfl rfl ?_
            refine soff rfl rfl rfl rfl ?_
            refine sv rfl (opv_pick_f rfl rfl) ?_
            refine sv rfl (opv_mv rfl) ?_
            refine soff rfl rfl rfl rfl ?_
            refine sv rfl (opv_pick_f rfl rfl) ?_
            refine sv rfl (opv_mv rfl) ?_
            refine soff rfl rfl rfl rfl ?_
            refine soff rfl rfl rfl rfl ?_
            refine soff rfl rfl rfl rfl ?_
            refine sv rfl (opv_pick_f rfl rfl) ?_
            refine sv rfl (opv_mv rfl) ?_
            refine soff rfl rfl rfl rfl ?_
            refine sv rfl (opv_pick_f rfl rfl) ?_
            refine sv rfl (opv_mv rfl) ?_
            refine soff rfl rfl rfl rfl ?_
            refine soff rfl rfl rfl rfl ?_
            refine soff rfl rfl rfl rfl ?_
            refine sv rfl (opv_pick_f rfl rfl) ?_
            refine sv rfl (opv_mv rfl) ?_
            refine soff rfl rfl rfl rfl ?_
            refine soff rfl rfl rfl rfl ?_
            refine soff rfl rfl rfl rfl ?_
            refine sv rfl (opv_pick_f rfl rfl) ?_
            refine sv rfl (opv_as rfl) ?_
            refine snil ?_
            refine cret ?_
            obtain rfl := Option.some.inj h
            refine ⟨Or.inr rfl, _, _, _, (resVs_cons (ResV.tmp _ _ rfl) resVs_nil), (pubA_id rfl), ?_⟩
            rfl
        · replace h := ite_f hc h
          clear hc
          refine soff rfl rfl rfl rfl ?_
          refine soff rfl rfl rfl rfl ?_
          refine sv rfl (opv_pick_f rfl rfl) ?_
          refine sv rfl (opv_mv rfl) ?_
          refine soff rfl rfl rfl rfl ?_
          refine sv rfl (opv_pick_f rfl rfl) ?_
          refine sv rfl (opv_mv rfl) ?_
          refine soff rfl rfl rfl rfl ?_
          refine soff rfl rfl rfl rfl ?_
          refine soff rfl rfl rfl rfl ?_
          refine sv rfl (opv_pick_f rfl rfl) ?_
          refine sv rfl (opv_mv rfl) ?_
          refine soff rfl rfl rfl rfl ?_
          refine sv rfl (opv_pick_f rfl rfl) ?_
          refine sv rfl (opv_mv rfl) ?_
          refine soff rfl rfl rfl rfl ?_
          refine soff rfl rfl rfl rfl ?_
          refine soff rfl rfl rfl rfl ?_
          refine sv rfl (opv_pick_f rfl rfl) ?_
          refine sv rfl (opv_mv rfl) ?_
          refine soff rfl rfl rfl rfl ?_
          refine sv rfl (opv_pick_f rfl rfl) ?_
          refine sv rfl (opv_mv rfl) ?_
          refine soff rfl rfl rfl rfl ?_
          refine soff rfl rfl rfl rfl ?_
          refine soff rfl rfl rfl rfl ?_
          refine sv rfl (opv_pick_f rfl rfl) ?_
          refine sv rfl (opv_mv rfl) ?_
          refine soff rfl rfl rfl rfl ?_
          refine soff rfl rfl rfl rfl ?_
          refine soff rfl rfl rfl rfl ?_
          refine sv rfl (opv_pick_f rfl rfl) ?_
          refine sv rfl (opv_as rfl) ?_
          refine snil ?_
          refine cret ?_
          obtain rfl := Option.some.inj h
          refine ⟨Or.inr rfl, _, _, _, (resVs_cons (ResV.tmp _ _ rfl) resVs_nil), (pubA_id rfl), ?_⟩
          rfl
      · replace h := ite_f hc h
        clear hc
        refine soff rfl rfl rfl rfl ?_
        refine soff rfl rfl rfl rfl ?_
        refine sv rfl (opv_pick_f rfl rfl) ?_
        refine sv rfl (opv_mv rfl) ?_
        refine soff rfl rfl rfl rfl ?_
        refine soff rfl rfl rfl rfl ?_
        refine sv rfl (opv_pick_f rfl rfl) ?_
        refine sv rfl (opv_mv rfl) ?_
        refine soff rfl rfl rfl rfl ?_
        refine sv rfl (opv_pick_f rfl rfl) ?_
        refine sv rfl (opv_mv rfl) ?_
        refine soff rfl rfl rfl rfl ?_
        refine soff rfl rfl rfl rfl ?_
        refine soff rfl rfl rfl rfl ?_
        refine sv rfl (opv_pick_f rfl rfl) ?_
        refine sv rfl (opv_mv rfl) ?_
        refine soff rfl rfl rfl rfl ?_
        refine sv rfl (opv_pick_f rfl rfl) ?_
        refine sv rfl (opv_mv rfl) ?_
        refine soff rfl rfl rfl rfl ?_
        refine soff rfl rfl rfl rfl ?_
        refine soff rfl rfl rfl rfl ?_
        refine sv rfl (opv_pick_f rfl rfl) ?_
        refine sv rfl (opv_mv rfl) ?_
        refine soff rfl rfl rfl rfl ?_
        refine sv rfl (opv_pick_f rfl rfl) ?_
        refine sv rfl (opv_mv rfl) ?_
        refine soff rfl rfl rfl rfl ?_
        refine soff rfl rfl rfl rfl ?_
        refine soff rfl rfl rfl rfl ?_
        refine sv rfl (opv_pick_f rfl rfl) ?_
        refine sv rfl (opv_mv rfl) ?_
        refine soff rfl rfl rfl rfl ?_
        refine soff rfl rfl rfl rfl ?_
        refine soff rfl rfl rfl rfl ?_
        refine sv rfl (opv_pick_f rfl rfl) ?_
        refine sv rfl (opv_as rfl) ?_
        refine snil ?_
        refine cret ?_
        obtain rfl := Option.some.inj h
        refine ⟨Or.inr rfl, _, _, _, (resVs_cons (ResV.tmp _ _ rfl) resVs_nil), (pubA_id rfl), ?_⟩
        rfl
    · replace h := ite_f hc h
      clear hc
      refine soff rfl rfl rfl rfl ?_
      refine soff rfl rfl rfl rfl ?_
      refine sv rfl (opv_pick_f rfl rfl) ?_
      refine sv rfl (opv_mv rfl) ?_
      refine soff rfl rfl rfl rfl ?_
      refine soff rfl rfl rfl rfl ?_
      refine sv rfl (opv_pick_f rfl rfl) ?_
      refine sv rfl (opv_mv rfl) ?_
      refine soff rfl rfl rfl rfl ?_
      refine soff rfl rfl rfl rfl ?_
      refine sv rfl (opv_pick_f rfl rfl) ?_
      refine sv rfl (opv_mv rfl) ?_
      refine soff rfl rfl rfl rfl ?_
      refine sv rfl (opv_pick_f rfl rfl) ?_
      refine sv rfl (opv_mv rfl) ?_
      refine soff rfl rfl rfl rfl ?_
      refine soff rfl rfl rfl rfl ?_
      refine soff rfl rfl rfl rfl ?_
      refine sv rfl (opv_pick_f rfl rfl) ?_
      refine sv rfl (opv_mv rfl) ?_
      refine soff rfl rfl rfl rfl ?_
      refine sv rfl (opv_pick_f rfl rfl) ?_
      refine sv rfl (opv_mv rfl) ?_
      refine soff rfl rfl rfl rfl ?_
      refine soff rfl rfl rfl rfl ?_
      refine soff rfl rfl rfl rfl ?_
      refine sv rfl (opv_pick_f rfl rfl) ?_
      refine sv rfl (opv_mv rfl) ?_
      refine soff rfl rfl rfl rfl ?_
      refine sv rfl (opv_pick_f rfl rfl) ?_
      refine sv rfl (opv_mv rfl) ?_
      refine soff rfl rfl rfl rfl ?_
      refine soff rfl rfl rfl rfl ?_
      refine soff rfl rfl rfl rfl ?_
      refine sv rfl (opv_pick_f rfl rfl) ?_
      refine sv rfl (opv_mv rfl) ?_
      refine soff rfl rfl rfl rfl ?_
      refine soff rfl rfl rfl rfl ?_
      refine soff rfl rfl rfl rfl ?_
      refine sv rfl (opv_pick_f rfl rfl) ?_
      refine sv rfl (opv_as rfl) ?_
      refine snil ?_
      refine cret ?_
      obtain rfl := Option.some.inj h
      refine ⟨Or.inr rfl, _, _, _, (resVs_cons (ResV.tmp _ _ rfl) resVs_nil), (pubA_id rfl), ?_⟩
      rfl
  · replace h := ite_f hc h
    clear hc
    refine soff rfl rfl rfl rfl ?_
    refine soff rfl rfl rfl rfl ?_
    refine sv rfl (opv_pick_f rfl rfl) ?_
    refine sv rfl (opv_mv rfl) ?_
    refine soff rfl rfl rfl rfl ?_
    refine soff rfl rfl rfl rfl ?_
    refine sv rfl (opv_pick_f rfl rfl) ?_
    refine sv rfl (opv_mv rfl) ?_
    refine soff rfl rfl rfl rfl ?_
    refine soff rfl rfl rfl rfl ?_
    refine sv rfl (opv_pick_f rfl rfl) ?_
    refine sv rfl (opv_mv rfl) ?_
    refine soff rfl rfl rfl rfl ?_
    refine soff rfl rfl rfl rfl ?_
    refine sv rfl (opv_pick_f rfl rfl) ?_
    refine sv rfl (opv_mv rfl) ?_
    refine soff rfl rfl rfl rfl ?_
    refine sv rfl (opv_pick_f rfl rfl) ?_
    refine sv rfl (opv_mv rfl) ?_
    refine soff rfl rfl rfl rfl ?_
    refine soff rfl rfl rfl rfl ?_
    refine soff rfl rfl rfl rfl ?_
    refine sv rfl (opv_pick_f rfl rfl) ?_
    refine sv rfl (opv_mv rfl) ?_
    refine soff rfl rfl rfl rfl ?_
    refine sv rfl (opv_pick_f rfl rfl) ?_
    refine sv rfl (opv_mv rfl) ?_
    refine soff rfl rfl rfl rfl ?_
    refine soff rfl rfl rfl rfl ?_
    refine soff rfl rfl rfl rfl ?_
    refine sv rfl (opv_pick_f rfl rfl) ?_
    refine sv rfl (opv_mv rfl) ?_
    refine soff rfl rfl rfl rfl ?_
    refine sv rfl (opv_pick_f rfl rfl) ?_
    refine sv rfl (opv_mv rfl) ?_
    refine soff rfl rfl rfl rfl ?_
    refine soff rfl rfl rfl rfl ?_
    refine soff rfl rfl rfl rfl ?_
    refine sv rfl (opv_pick_f rfl rfl) ?_
    refine sv rfl (opv_mv rfl) ?_
    refine soff rfl rfl rfl rfl ?_
    refine soff rfl rfl rfl rfl ?_
    refine soff rfl rfl rfl rfl ?_
    refine sv rfl (opv_pick_f rfl rfl) ?_
    refine sv rfl (opv_as rfl) ?_
    refine snil ?_
    refine cret ?_
    obtain rfl := Option.some.inj h
    refine ⟨Or.inr rfl, _, _, _, (resVs_cons (ResV.tmp _ _ rfl) resVs_nil), (pubA_id rfl), ?_⟩
    rfl

def m10_r05_Few (a0 : GR05Req) : Option Bool :=
  if (decide ((a0.Key.length : Int) ≤ 100)) then (if (decide ((a0.Val.length : Int) ≤ 100)) then (if (decide ((a0.Rng.Lo.length : Int) ≤ 100)) then (some (decide ((a0.Rng.Hi.length : Int) ≤ 100))) else (some false)) else (some false)) else (some false)

set_option maxRecDepth 100000 in
theorem m10_r05_Few_c {a0 : GR05Req} {r : Bool} (h : m10_r05_Few a0 = some r) : CallsA Tryd.prog 10 [.agg [.i .i64 a0.Kind, .i .i64 a0.Seq, .i .i64 a0.Token, .i .i64 a0.Attempt, .b a0.RO, .sl a0.Key.length (a0.Key.flatMap eU8), .sl a0.Val.length (a0.Val.flatMap eU8), .sl a0.Rng.Lo.length (a0.Rng.Lo.flatMap eU8), .sl a0.Rng.Hi.length (a0.Rng.Hi.flatMap eU8), .b a0.Rng.Open]] (· = .s (.one (.b r))) := by
  unfold m10_r05_Few at h
  refine callsA_of Tryd.func10 rfl (nt := 27) rfl (Nat.le_of_ble_eq_true rfl) ?_
  intro w0 S0
  refine cseq ?_
  refine cregion ?_
  refine sbox rfl rfl ?_
  refine sv rfl (opv_as rfl) ?_
  refine snil ?_
  refine cseq ?_
  refine cregion ?_
  refine sv rfl (opv_fieldAddr_lp fi33_5 rfl) ?_
  refine sv rfl (opv_load1 ti29 rfl (.lp _ _ _ rfl) rfl) ?_
  refine sv rfl (opv_len_sl si29 rfl) ?_
  refine sv rfl (opv_leq rfl rfl) ?_
  refine sv rfl (opv_mv rfl) ?_
  refine ssplit 7 rfl (fun hc => ?_) (fun hc => ?_)
  · replace h := ite_t hc h
    clear hc
    refine son rfl rfl rfl ?_
    refine sv rfl (opv_fieldAddr_lp fi33_6 rfl) ?_
    refine son rfl rfl rfl ?_
    refine sv rfl (opv_load1 ti29 rfl (.lp _ _ _ rfl) rfl) ?_
    refine son rfl rfl rfl ?_
    refine sv rfl (opv_len_sl si29 rfl) ?_
    refine son rfl rfl rfl ?_
    refine sv rfl (opv_leq rfl rfl) ?_
    refine sv rfl (opv_pick_t rfl rfl) ?_
    refine sv rfl (opv_mv rfl) ?_
    refine ssplit 13 rfl (fun hc => ?_) (fun hc => ?_)
    · replace h := ite_t hc h
      clear hc
      refine son rfl rfl rfl ?_
      refine sv rfl (opv_fieldAddr_lp fi33_7 rfl) ?_
      refine son rfl rfl rfl ?_
      refine sv rfl (opv_fieldAddr_lp fi31_0 rfl) ?_
      refine son rfl rfl rfl ?_
      refine sv rfl (opv_load1 ti29 rfl (.lp _ _ _ rfl) rfl) ?_
      refine son rfl rfl rfl ?_
      refine sv rfl (opv_len_sl si29 rfl) ?_
      refine son rfl rfl rfl ?_
      refine sv rfl (opv_leq rfl rfl) ?_
      refine sv rfl (opv_pick_t rfl rfl) ?_
      refine sv rfl (opv_mv rfl) ?_
      refine ssplit 20 rfl (fun hc => ?_) (fun hc => ?_)
      · replace h := ite_t hc h
        clear hc
        refine son rfl rfl rfl ?_
        refine sv rfl (opv_fieldAddr_lp fi33_7 rfl) ?_
        refine son rfl rfl rfl ?_
        refine sv rfl (opv_fieldAddr_lp fi31_1 rfl) ?_
        refine son rfl rfl rfl ?_
        refine sv rfl (opv_load1 ti29 rfl (.lp _ _ _ rfl) rfl) ?_
        refine son rfl rfl rfl ?_
        refine sv rfl (opv_len_sl si29 rfl) ?_
        refine son rfl rfl rfl ?_
        refine sv rfl (opv_leq rfl rfl) ?_
        refine sv rfl (opv_pick_t rfl rfl) ?_
        refine sv rfl (opv_as rfl) ?_
        refine snil ?_
        refine cret ?_
        obtain rfl := Option.some.inj h
        refine ⟨Or.inr rfl, _, _, _, (resVs_cons (ResV.tmp _ _ rfl) resVs_nil), (pubA_id rfl), ?_⟩
        rfl
      · replace h := ite_f hc h
        clear hc
        refine soff rfl rfl rfl rfl ?_
        refine soff rfl rfl rfl rfl ?_
        refine soff rfl rfl rfl rfl ?_
        refine soff rfl rfl rfl rfl ?_
        refine soff rfl rfl rfl rfl ?_
        refine sv rfl (opv_pick_f rfl rfl) ?_
        refine sv rfl (opv_as rfl) ?_
        refine snil ?_
        refine cret ?_
        obtain rfl := Option.some.inj h
        refine ⟨Or.inr rfl, _, _, _, (resVs_cons (ResV.tmp _ _ rfl) resVs_nil), (pubA_id rfl), ?_⟩
        rfl
    · replace h := ite_f hc h
      clear hc
      refine soff rfl rfl rfl rfl ?_
      refine soff rfl rfl rfl rfl ?_
      refine soff rfl rfl rfl rfl ?_
      refine soff rfl rfl rfl rfl ?_
      refine soff rfl rfl rfl rfl ?_
      refine sv rfl (opv_pick_f rfl rfl) ?_
      refine sv rfl (opv_mv rfl) ?_
      refine soff rfl rfl rfl rfl ?_
      refine soff rfl rfl rfl rfl ?_
      refine soff rfl rfl rfl rfl ?_
      refine soff rfl rfl rfl rfl ?_
      refine soff rfl rfl rfl rfl ?_
      refine sv rfl (opv_pick_f rfl rfl) ?_
      refine sv rfl (opv_as rfl) ?_
      refine snil ?_
      refine cret ?_
      obtain rfl := Option.some.inj h
      refine ⟨Or.inr rfl, _, _, _, (resVs_cons (ResV.tmp _ _ rfl) resVs_nil), (pubA_id rfl), ?_⟩
      rfl
  · replace h := ite_f hc h
    clear hc
    refine soff rfl rfl rfl rfl ?_
    refine soff rfl rfl rfl rfl ?_
    refine soff rfl rfl rfl rfl ?_
    refine soff rfl rfl rfl rfl ?_
    refine sv rfl (opv_pick_f rfl rfl) ?_
    refine sv rfl (opv_mv rfl) ?_
    refine soff rfl rfl rfl rfl ?_
    refine soff rfl rfl rfl rfl ?_
    refine soff rfl rfl rfl rfl ?_
    refine soff rfl rfl rfl rfl ?_
    refine soff rfl rfl rfl rfl ?_
    refine sv rfl (opv_pick_f rfl rfl) ?_
    refine sv rfl (opv_mv rfl) ?_
    refine soff rfl rfl rfl rfl ?_
    refine soff rfl rfl rfl rfl ?_
    refine soff rfl rfl rfl rfl ?_
    refine soff rfl rfl rfl rfl ?_
    refine soff rfl rfl rfl rfl ?_
    refine sv rfl (opv_pick_f rfl rfl) ?_
    refine sv rfl (opv_as rfl) ?_
    refine snil ?_
    refine cret ?_
    obtain rfl := Option.some.inj h
    refine ⟨Or.inr rfl, _, _, _, (resVs_cons (ResV.tmp _ _ rfl) resVs_nil), (pubA_id rfl), ?_⟩
    rfl

def m11_r05_FewReply_k2 (b2 : Unit) : Option Bool :=
  some true

def m11_r05_FewReply_s3 (a0 : GR05Reply) (s3 : Int) : Option (LR (Int) (Unit) (Bool)) :=
  if (decide (s3 < (a0.List.length : Int))) then ((idx a0.List s3).bind fun u4 => if (decide (100 < (u4.Key.length : Int))) then (some (.ret false)) else ((idx a0.List s3).bind fun u5 => if (decide (100 < (u5.Val.length : Int))) then (some (.ret false)) else (some (.cont (wI (s3 + 1)))))) else (some (.brk ()))

def m11_r05_FewReply_k1 (a0 : GR05Reply) (b1 : Unit) : Option Bool :=
  (iter (m11_r05_FewReply_s3 a0) fuel 0).bind fun x => match x with | .inl r => some r | .inr e6 => m11_r05_FewReply_k2 e6
def m11_r05_FewReply (a0 : GR05Reply) : Option Bool :=
  if (decide (100 < (a0.Val.length : Int))) then (some false) else (if (decide (20 < (a0.List.length : Int))) then (some false) else (m11_r05_FewReply_k1 a0 ()))

set_option maxRecDepth 100000 in
theorem m11_r05_FewReply_c {a0 : GR05Reply} {r : Bool} (h : m11_r05_FewReply a0 = some r) : CallsA Tryd.prog 11 [.agg [.i .i64 a0.Kind, .i .i64 a0.Seq, .i .i64 a0.Code, .i .i64 a0.N, .b a0.Found, .sl a0.Val.length (a0.Val.flatMap eU8), .sl a0.List.length (a0.List.flatMap eGApiKV)]] (· = .s (.one (.b r))) := by
  unfold m11_r05_FewReply at h
  refine callsA_of Tryd.func11 rfl (nt := 39) rfl (Nat.le_of_ble_eq_true rfl) ?_
  intro w0 S0
  refine cseq ?_
  refine cregion ?_
  refine sbox rfl rfl ?_
  refine sv rfl (opv_as rfl) ?_
  refine snil ?_
  refine cseq ?_
  refine cseq ?_
  refine cjoin3 (Unit) (fun b1 => [(1, .s (.one (.lp 0 0)))]) (fun b1 => [.box [.i .i64 a0.Kind, .i .i64 a0.Seq, .i .i64 a0.Code, .i .i64 a0.N, .b a0.Found, .sl a0.Val.length (a0.Val.flatMap eU8), .sl a0.List.length (a0.List.flatMap eGApiKV)]]) (fun b1 => m11_r05_FewReply_k1 a0 b1 = some r) (fun _ _ => inbL_of rfl) (fun _ _ => blkinb_of rfl) (fun _ _ => Nat.le_of_ble_eq_true rfl) (fun b1 h => ?_) ?_
  · unfold m11_r05_FewReply_k1 at h
    refine cseq ?_
    refine cseq ?_
    refine cregion ?_
    refine sv rfl (opv_as rfl) ?_
    refine snil ?_
    refine cjoin (Unit) (fun b2 => []) (fun b2 => [.box [.i .i64 a0.Kind, .i .i64 a0.Seq, .i .i64 a0.Code, .i .i64 a0.N, .b a0.Found, .sl a0.Val.length (a0.Val.flatMap eU8), .sl a0.List.length (a0.List.flatMap eGApiKV)]]) (fun b2 => m11_r05_FewReply_k2 b2 = some r) (fun _ _ => inbL_of rfl) (fun _ _ => blkinb_of rfl) (fun _ _ => Nat.le_of_ble_eq_true rfl) (fun b2 h => ?_) ?_
    · unfold m11_r05_FewReply_k2 at h
      refine cseq ?_
      refine cregion ?_
      refine sv rfl (opv_as rfl) ?_
      refine snil ?_
      refine cret ?_
      obtain rfl := Option.some.inj h
      refine ⟨Or.inr rfl, _, _, _, (resVs_cons (ResV.tmp _ _ rfl) resVs_nil), (pubA_id rfl), ?_⟩
      rfl
    · skip
      refine cblock ?_
      obtain ⟨x3, hx3, ho3⟩ := bind_eq h
      refine awc_loop (G := Nat × (Int)) (fun g => [(1, .s (.one (.lp 0 0))), (3, .s (.one (.i .i64 g.2)))]) (fun g => [.box [.i .i64 a0.Kind, .i .i64 a0.Seq, .i .i64 a0.Code, .i .i64 a0.N, .b a0.Found, .sl a0.Val.length (a0.Val.flatMap eU8), .sl a0.List.length (a0.List.flatMap eGApiKV)]]) (fun g => iter (m11_r05_FewReply_s3 a0) g.1 g.2 = some x3) (fun g => g.1) (fuel, 0) hx3 ⟨rfl, rfl, trivial⟩ [] rfl (fun _ _ => inbL_of rfl) (fun _ _ => blkinb_of rfl) (fun _ _ => Nat.le_of_ble_eq_true rfl) ?_
      clear hx3 h
      rintro ⟨n3, s3⟩ h
      obtain ⟨n3, y3, rfl, h, hk3⟩ := iter_eq h
      unfold m11_r05_FewReply_s3 at h
      refine cseq ?_
      refine cseq ?_
      refine cregion ?_
      refine sv rfl (opv_mv rfl) ?_
      refine sv rfl (opv_fieldAddr_lp fi37_6 rfl) ?_
      refine sv rfl (opv_load1 ti35 rfl (.lp _ _ _ rfl) rfl) ?_
      refine sv rfl (opv_len_sl si35 rfl) ?_
      refine sv rfl (opv_lss rfl rfl) ?_
      refine snil ?_
      refine ccond rfl (fun hc => ?_) (fun hc => ?_)
      · replace h := ite_t hc h
        clear hc
        refine cskip ?_
        refine then_normal ?_
        refine cseq ?_
        refine cblock ?_
        refine cseq ?_
        refine cregion ?_
        refine sv rfl (opv_fieldAddr_lp fi37_6 rfl) ?_
        refine sv rfl (opv_load1 ti35 rfl (.lp _ _ _ rfl) rfl) ?_
        refine sv rfl (opv_mv rfl) ?_
        obtain ⟨u4, hu4, h⟩ := bind_eq h
        refine sv rfl (opv_ix (f := eGApiKV) si35 (fun _ => rfl) rfl rfl rfl rfl hu4) ?_
        refine sv rfl (opv_fieldAddr_cp fi83_0 rfl) ?_
        refine sv rfl (opv_load1 ti29 rfl (.cp _) rfl) ?_
        refine sv rfl (opv_len_sl si29 rfl) ?_
        refine sv rfl (opv_gtr rfl rfl) ?_
        refine sv rfl (opv_mv rfl) ?_
        refine ssplit 29 rfl (fun hc => ?_) (fun hc => ?_)
        · replace h := ite_t hc h
          clear hc
          refine soff rfl rfl rfl rfl ?_
          refine soff rfl rfl rfl rfl ?_
          refine soff rfl rfl rfl rfl ?_
          refine soff rfl rfl rfl rfl ?_
          refine soff rfl rfl rfl rfl ?_
          refine soff rfl rfl rfl rfl ?_
          refine soff rfl rfl rfl rfl ?_
          refine soff rfl rfl rfl rfl ?_
          refine sv rfl (opv_pick_t rfl rfl) ?_
          refine snil ?_
          refine ccond rfl (fun _ => ?_) (fun hx => Bool.noConfusion hx)
          refine cseq ?_
          refine cregion ?_
          refine sv rfl (opv_as rfl) ?_
          refine snil ?_
          refine cret ?_
          refine block_ret ?_
          refine then_ret ?_
          refine then_ret ?_
          refine block_ret ?_
          refine then_ret ?_
          obtain rfl := Option.some.inj h
          obtain rfl : Sum.inl _ = x3 := hk3
          replace ho3 : some _ = some _ := ho3
          obtain rfl := Option.some.inj ho3
          refine ⟨Or.inr rfl, _, _, _, (resVs_cons (ResV.tmp _ _ rfl) resVs_nil), (pubA_id rfl), ?_⟩
          rfl
        · replace h := ite_f hc h
          clear hc
          refine son rfl rfl rfl ?_
          refine sv rfl (opv_fieldAddr_lp fi37_6 rfl) ?_
          refine son rfl rfl rfl ?_
          refine sv rfl (opv_load1 ti35 rfl (.lp _ _ _ rfl) rfl) ?_
          refine son rfl rfl rfl ?_
          refine sv rfl (opv_mv rfl) ?_
          refine son rfl rfl rfl ?_
          obtain ⟨u5, hu5, h⟩ := bind_eq h
          refine sv rfl (opv_ix (f := eGApiKV) si35 (fun _ => rfl) rfl rfl rfl rfl hu5) ?_
          refine son rfl rfl rfl ?_
          refine sv rfl (opv_fieldAddr_cp fi83_1 rfl) ?_
          refine son rfl rfl rfl ?_
          refine sv rfl (opv_load1 ti29 rfl (.cp _) rfl) ?_
          refine son rfl rfl rfl ?_
          refine sv rfl (opv_len_sl si29 rfl) ?_
          refine son rfl rfl rfl ?_
          refine sv rfl (opv_gtr rfl rfl) ?_
          refine sv rfl (opv_pick_f rfl rfl) ?_
          refine snil ?_
          refine ccond rfl (fun hc => ?_) (fun hc => ?_)
          · replace h := ite_t hc h
            clear hc
            refine cseq ?_
            refine cregion ?_
            refine sv rfl (opv_as rfl) ?_
            refine snil ?_
            refine cret ?_
            refine block_ret ?_
            refine then_ret ?_
            refine then_ret ?_
            refine block_ret ?_
            refine then_ret ?_
            obtain rfl := Option.some.inj h
            obtain rfl : Sum.inl _ = x3 := hk3
            replace ho3 : some _ = some _ := ho3
            obtain rfl := Option.some.inj ho3
            refine ⟨Or.inr rfl, _, _, _, (resVs_cons (ResV.tmp _ _ rfl) resVs_nil), (pubA_id rfl), ?_⟩
            rfl
          · replace h := ite_f hc h
            clear hc
            refine cskip ?_
            refine block_normal ?_
            refine then_normal ?_
            refine cregion ?_
            refine sv rfl (opv_mv rfl) ?_
            refine sv rfl (opv_add rfl rfl) ?_
            refine sv rfl (opv_as rfl) ?_
            refine snil ?_
            obtain rfl := Option.some.inj h
            exact ⟨(n3, (wI (s3 + 1))), _, hk3, ⟨rfl, rfl, trivial⟩, rfl, Nat.lt_succ_self _⟩
      · replace h := ite_f hc h
        clear hc
        refine cexit ?_
        refine then_exit ?_
        refine then_exit ?_
        refine block_hit ?_
        refine then_normal ?_
        obtain rfl := Option.some.inj h
        obtain rfl : _ = x3 := hk3
        exact ⟨(), _, ho3, trivial, rfl⟩
  · skip
    refine cregion ?_
    refine sv rfl (opv_fieldAddr_lp fi37_5 rfl) ?_
    refine sv rfl (opv_load1 ti29 rfl (.lp _ _ _ rfl) rfl) ?_
    refine sv rfl (opv_len_sl si29 rfl) ?_
    refine sv rfl (opv_gtr rfl rfl) ?_
    refine sv rfl (opv_mv rfl) ?_
    refine ssplit 8 rfl (fun hc => ?_) (fun hc => ?_)
    · replace h := ite_t hc h
      clear hc
      refine soff rfl rfl rfl rfl ?_
      refine soff rfl rfl rfl rfl ?_
      refine soff rfl rfl rfl rfl ?_
      refine soff rfl rfl rfl rfl ?_
      refine sv rfl (opv_pick_t rfl rfl) ?_
      refine snil ?_
      refine ccond rfl (fun _ => ?_) (fun hx => Bool.noConfusion hx)
      refine cseq ?_
      refine cregion ?_
      refine sv rfl (opv_as rfl) ?_
      refine snil ?_
      refine cret ?_
      refine then_ret ?_
      obtain rfl := Option.some.inj h
      refine ⟨Or.inr rfl, _, _, _, (resVs_cons (ResV.tmp _ _ rfl) resVs_nil), (pubA_id rfl), ?_⟩
      rfl
    · replace h := ite_f hc h
      clear hc
      refine son rfl rfl rfl ?_
      refine sv rfl (opv_fieldAddr_lp fi37_6 rfl) ?_
      refine son rfl rfl rfl ?_
      refine sv rfl (opv_load1 ti35 rfl (.lp _ _ _ rfl) rfl) ?_
      refine son rfl rfl rfl ?_
      refine sv rfl (opv_len_sl si35 rfl) ?_
      refine son rfl rfl rfl ?_
      refine sv rfl (opv_gtr rfl rfl) ?_
      refine sv rfl (opv_pick_f rfl rfl) ?_
      refine snil ?_
      refine ccond rfl (fun hc => ?_) (fun hc => ?_)
      · replace h := ite_t hc h
        clear hc
        refine cseq ?_
        refine cregion ?_
        refine sv rfl (opv_as rfl) ?_
        refine snil ?_
        refine cret ?_
        refine then_ret ?_
        obtain rfl := Option.some.inj h
        refine ⟨Or.inr rfl, _, _, _, (resVs_cons (ResV.tmp _ _ rfl) resVs_nil), (pubA_id rfl), ?_⟩
        rfl
      · replace h := ite_f hc h
        clear hc
        refine cskip ?_
        refine then_normal ?_
        exact ⟨(), _, h, ⟨rfl, trivial⟩, rfl⟩

def m9_r16_Few_k3 (b3 : Unit) : Option Bool :=
  some true

def m9_r16_Few_s4 (a0 : GR16Pipe) (s4 : Int) : Option (LR (Int) (Unit) (Bool)) :=
  if (decide (s4 < (a0.Past.length : Int))) then ((idx a0.Past s4).bind fun u5 => (m11_r05_FewReply u5).bind fun v6 => if (!v6) then (some (.ret false)) else (some (.cont (wI (s4 + 1))))) else (some (.brk ()))

def m9_r16_Few_k2 (a0 : GR16Pipe) (b2 : Unit) : Option Bool :=
  (iter (m9_r16_Few_s4 a0) fuel 0).bind fun x => match x with | .inl r => some r | .inr e7 => m9_r16_Few_k3 e7

def m9_r16_Few_s8 (a0 : GR16Pipe) (s8 : Int) : Option (LR (Int) (Unit) (Bool)) :=
  if (decide (s8 < (a0.Wait.length : Int))) then ((idx a0.Wait s8).bind fun u9 => (m10_r05_Few (GR05Req.mk u9.Kind u9.Seq u9.Token u9.Attempt u9.RO u9.Key u9.Val (GApiRange.mk u9.Rng.Lo u9.Rng.Hi u9.Rng.Open))).bind fun v10 => if (!v10) then (some (.ret false)) else (some (.cont (wI (s8 + 1))))) else (some (.brk ()))

def m9_r16_Few_k1 (a0 : GR16Pipe) (b1 : Unit) : Option Bool :=
  (iter (m9_r16_Few_s8 a0) fuel 0).bind fun x => match x with | .inl r => some r | .inr e11 => m9_r16_Few_k2 a0 e11
def m9_r16_Few (a0 : GR16Pipe) : Option Bool :=
  if (decide (12 < (a0.Wait.length : Int))) then (some false) else (if (decide (12 < (a0.Past.length : Int))) then (some false) else (m9_r16_Few_k1 a0 ()))

set_option maxRecDepth 100000 in
theorem m9_r16_Few_c {a0 : GR16Pipe} {r : Bool} (h : m9_r16_Few a0 = some r) : CallsA Tryd.prog 9 [.agg [.i .i64 a0.Win.Base, .i .u64 (a0.Win.Bits.toNat : Int), .i .i64 a0.Next, .sl a0.Wait.length (a0.Wait.flatMap eGR05Req), .sl a0.Past.length (a0.Past.flatMap eGR05Reply)]] (· = .s (.one (.b r))) := by
  unfold m9_r16_Few at h
  refine callsA_of Tryd.func9 rfl (nt := 43) rfl (Nat.le_of_ble_eq_true rfl) ?_
  intro w0 S0
  refine cseq ?_
  refine cregion ?_
  refine sbox rfl rfl ?_
  refine sv rfl (opv_as rfl) ?_
  refine snil ?_
  refine cseq ?_
  refine cseq ?_
  refine cjoin3 (Unit) (fun b1 => [(1, .s (.one (.lp 0 0)))]) (fun b1 => [.box [.i .i64 a0.Win.Base, .i .u64 (a0.Win.Bits.toNat : Int), .i .i64 a0.Next, .sl a0.Wait.length (a0.Wait.flatMap eGR05Req), .sl a0.Past.length (a0.Past.flatMap eGR05Reply)]]) (fun b1 => m9_r16_Few_k1 a0 b1 = some r) (fun _ _ => inbL_of rfl) (fun _ _ => blkinb_of rfl) (fun _ _ => Nat.le_of_ble_eq_true rfl) (fun b1 h => ?_) ?_
  · unfold m9_r16_Few_k1 at h
    refine cseq ?_
    refine cseq ?_
    refine cregion ?_
    refine sv rfl (opv_as rfl) ?_
    refine snil ?_
    refine cjoin (Unit) (fun b2 => [(1, .s (.one (.lp 0 0)))]) (fun b2 => [.box [.i .i64 a0.Win.Base, .i .u64 (a0.Win.Bits.toNat : Int), .i .i64 a0.Next, .sl a0.Wait.length (a0.Wait.flatMap eGR05Req), .sl a0.Past.length (a0.Past.flatMap eGR05Reply)]]) (fun b2 => m9_r16_Few_k2 a0 b2 = some r) (fun _ _ => inbL_of rfl) (fun _ _ => blkinb_of rfl) (fun _ _ => Nat.le_of_ble_eq_true rfl) (fun b2 h => ?_) ?_
    · unfold m9_r16_Few_k2 at h
      refine cseq ?_
      refine cseq ?_
      refine cregion ?_
      refine sv rfl (opv_as rfl) ?_
      refine snil ?_
      refine cjoin (Unit) (fun b3 => []) (fun b3 => [.box [.i .i64 a0.Win.Base, .i .u64 (a0.Win.Bits.toNat : Int), .i .i64 a0.Next, .sl a0.Wait.length (a0.Wait.flatMap eGR05Req), .sl a0.Past.length (a0.Past.flatMap eGR05Reply)]]) (fun b3 => m9_r16_Few_k3 b3 = some r) (fun _ _ => inbL_of rfl) (fun _ _ => blkinb_of rfl) (fun _ _ => Nat.le_of_ble_eq_true rfl) (fun b3 h => ?_) ?_
      · unfold m9_r16_Few_k3 at h
        refine cseq ?_
        refine cregion ?_
        refine sv rfl (opv_as rfl) ?_
        refine snil ?_
        refine cret ?_
        obtain rfl := Option.some.inj h
        refine ⟨Or.inr rfl, _, _, _, (resVs_cons (ResV.tmp _ _ rfl) resVs_nil), (pubA_id rfl), ?_⟩
        rfl
      · skip
        refine cblock ?_
        obtain ⟨x4, hx4, ho4⟩ := bind_eq h
        refine awc_loop (G := Nat × (Int)) (fun g => [(1, .s (.one (.lp 0 0))), (4, .s (.one (.i .i64 g.2)))]) (fun g => [.box [.i .i64 a0.Win.Base, .i .u64 (a0.Win.Bits.toNat : Int), .i .i64 a0.Next, .sl a0.Wait.length (a0.Wait.flatMap eGR05Req), .sl a0.Past.length (a0.Past.flatMap eGR05Reply)]]) (fun g => iter (m9_r16_Few_s4 a0) g.1 g.2 = some x4) (fun g => g.1) (fuel, 0) hx4 ⟨rfl, rfl, trivial⟩ [] rfl (fun _ _ => inbL_of rfl) (fun _ _ => blkinb_of rfl) (fun _ _ => Nat.le_of_ble_eq_true rfl) ?_
        clear hx4 h
        rintro ⟨n4, s4⟩ h
        obtain ⟨n4, y4, rfl, h, hk4⟩ := iter_eq h
        unfold m9_r16_Few_s4 at h
        refine cseq ?_
        refine cseq ?_
        refine cregion ?_
        refine sv rfl (opv_mv rfl) ?_
        refine sv rfl (opv_fieldAddr_lp fi28_3 rfl) ?_
        refine sv rfl (opv_load1 ti26 rfl (.lp _ _ _ rfl) rfl) ?_
        refine sv rfl (opv_len_sl si26 rfl) ?_
        refine sv rfl (opv_lss rfl rfl) ?_
        refine snil ?_
        refine ccond rfl (fun hc => ?_) (fun hc => ?_)
        · replace h := ite_t hc h
          clear hc
          refine cskip ?_
          refine then_normal ?_
          refine cseq ?_
          refine cblock ?_
          refine cseq ?_
          refine cregion ?_
          refine sv rfl (opv_fieldAddr_lp fi28_3 rfl) ?_
          refine sv rfl (opv_load1 ti26 rfl (.lp _ _ _ rfl) rfl) ?_
          refine sv rfl (opv_mv rfl) ?_
          obtain ⟨u5, hu5, h⟩ := bind_eq h
          refine sv rfl (opv_ix (f := eGR05Reply) si26 (fun _ => rfl) rfl rfl rfl rfl hu5) ?_
          refine sv rfl (opv_loadNe (ys := [.i .i64 u5.Kind, .i .i64 u5.Seq, .i .i64 u5.Code, .i .i64 u5.N, .b u5.Found, .sl u5.Val.length (u5.Val.flatMap eU8), .sl u5.List.length (u5.List.flatMap eGApiKV)]) ti37 rfl (.cp _) rfl rfl) ?_
          obtain ⟨v6, hv6, h⟩ := bind_eq h
          refine scall1 rfl fn11 (opnds_cons rfl opnds_nil) (pubA_id rfl) (m11_r05_FewReply_c hv6) ?_
          refine sv rfl (opv_not rfl) ?_
          refine snil ?_
          refine ccond rfl (fun hc => ?_) (fun hc => ?_)
          · replace h := ite_t hc h
            clear hc
            refine cseq ?_
            refine cregion ?_
            refine sv rfl (opv_as rfl) ?_
            refine snil ?_
            refine cret ?_
            refine block_ret ?_
            refine then_ret ?_
            refine then_ret ?_
            refine block_ret ?_
            refine then_ret ?_
            obtain rfl := Option.some.inj h
            obtain rfl : Sum.inl _ = x4 := hk4
            replace ho4 : some _ = some _ := ho4
            obtain rfl := Option.some.inj ho4
            refine ⟨Or.inr rfl, _, _, _, (resVs_cons (ResV.tmp _ _ rfl) resVs_nil), (pubA_id rfl), ?_⟩
            rfl
          · replace h := ite_f hc h
            clear hc
            refine cskip ?_
            refine block_normal ?_
            refine then_normal ?_
            refine cregion ?_
            refine sv rfl (opv_mv rfl) ?_
            refine sv rfl (opv_add rfl rfl) ?_
            refine sv rfl (opv_as rfl) ?_
            refine snil ?_
            obtain rfl := Option.some.inj h
            exact ⟨(n4, (wI (s4 + 1))), _, hk4, ⟨rfl, rfl, trivial⟩, rfl, Nat.lt_succ_self _⟩
        · replace h := ite_f hc h
          clear hc
          refine cexit ?_
          refine then_exit ?_
          refine then_exit ?_
          refine block_hit ?_
          refine then_normal ?_
          obtain rfl := Option.some.inj h
          obtain rfl : _ = x4 := hk4
          exact ⟨(), _, ho4, trivial, rfl⟩
    · skip
      refine cblock ?_
      obtain ⟨x8, hx8, ho8⟩ := bind_eq h
      refine awc_loop (G := Nat × (Int)) (fun g => [(1, .s (.one (.lp 0 0))), (3, .s (.one (.i .i64 g.2)))]) (fun g => [.box [.i .i64 a0.Win.Base, .i .u64 (a0.Win.Bits.toNat : Int), .i .i64 a0.Next, .sl a0.Wait.length (a0.Wait.flatMap eGR05Req), .sl a0.Past.length (a0.Past.flatMap eGR05Reply)]]) (fun g => iter (m9_r16_Few_s8 a0) g.1 g.2 = some x8) (fun g => g.1) (fuel, 0) hx8 ⟨rfl, rfl, trivial⟩ [] rfl (fun _ _ => inbL_of rfl) (fun _ _ => blkinb_of rfl) (fun _ _ => Nat.le_of_ble_eq_true rfl) ?_
      clear hx8 h
      rintro ⟨n8, s8⟩ h
      obtain ⟨n8, y8, rfl, h, hk8⟩ := iter_eq h
      unfold m9_r16_Few_s8 at h
      refine cseq ?_
      refine cseq ?_
      refine cregion ?_
      refine sv rfl (opv_mv rfl) ?_
      refine sv rfl (opv_fieldAddr_lp fi28_2 rfl) ?_
      refine sv rfl (opv_load1 ti25 rfl (.lp _ _ _ rfl) rfl) ?_
      refine sv rfl (opv_len_sl si25 rfl) ?_
      refine sv rfl (opv_lss rfl rfl) ?_
      refine snil ?_
      refine ccond rfl (fun hc => ?_) (fun hc => ?_)
      · replace h := ite_t hc h
        clear hc
        refine cskip ?_
        refine then_normal ?_
        refine cseq ?_
        refine cblock ?_
        refine cseq ?_
        refine cregion ?_
        refine sv rfl (opv_fieldAddr_lp fi28_2 rfl) ?_
        refine sv rfl (opv_load1 ti25 rfl (.lp _ _ _ rfl) rfl) ?_
        refine sv rfl (opv_mv rfl) ?_
        obtain ⟨u9, hu9, h⟩ := bind_eq h
        refine sv rfl (opv_ix (f := eGR05Req) si25 (fun _ => rfl) rfl rfl rfl rfl hu9) ?_
        refine sv rfl (opv_loadNe (ys := [.i .i64 u9.Kind, .i .i64 u9.Seq, .i .i64 u9.Token, .i .i64 u9.Attempt, .b u9.RO, .sl u9.Key.length (u9.Key.flatMap eU8), .sl u9.Val.length (u9.Val.flatMap eU8), .sl u9.Rng.Lo.length (u9.Rng.Lo.flatMap eU8), .sl u9.Rng.Hi.length (u9.Rng.Hi.flatMap eU8), .b u9.Rng.Open]) ti33 rfl (.cp _) rfl rfl) ?_
        obtain ⟨v10, hv10, h⟩ := bind_eq h
        refine scall1 rfl fn10 (opnds_cons rfl opnds_nil) (pubA_id rfl) (m10_r05_Few_c hv10) ?_
        refine sv rfl (opv_not rfl) ?_
        refine snil ?_
        refine ccond rfl (fun hc => ?_) (fun hc => ?_)
        · replace h := ite_t hc h
          clear hc
          refine cseq ?_
          refine cregion ?_
          refine sv rfl (opv_as rfl) ?_
          refine snil ?_
          refine cret ?_
          refine block_ret ?_
          refine then_ret ?_
          refine then_ret ?_
          refine block_ret ?_
          refine then_ret ?_
          obtain rfl := Option.some.inj h
          obtain rfl : Sum.inl _ = x8 := hk8
          replace ho8 : some _ = some _ := ho8
          obtain rfl := Option.some.inj ho8
          refine ⟨Or.inr rfl, _, _, _, (resVs_cons (ResV.tmp _ _ rfl) resVs_nil), (pubA_id rfl), ?_⟩
          rfl
        · replace h := ite_f hc h
          clear hc
          refine cskip ?_
          refine block_normal ?_
          refine then_normal ?_
          refine cregion ?_
          refine sv rfl (opv_mv rfl) ?_
          refine sv rfl (opv_add rfl rfl) ?_
          refine sv rfl (opv_as rfl) ?_
          refine snil ?_
          obtain rfl := Option.some.inj h
          exact ⟨(n8, (wI (s8 + 1))), _, hk8, ⟨rfl, rfl, trivial⟩, rfl, Nat.lt_succ_self _⟩
      · replace h := ite_f hc h
        clear hc
        refine cexit ?_
        refine then_exit ?_
        refine then_exit ?_
        refine block_hit ?_
        refine then_normal ?_
        obtain rfl := Option.some.inj h
        obtain rfl : _ = x8 := hk8
        exact ⟨(), _, ho8, ⟨rfl, trivial⟩, rfl⟩
  · skip
    refine cregion ?_
    refine sv rfl (opv_fieldAddr_lp fi28_2 rfl) ?_
    refine sv rfl (opv_load1 ti25 rfl (.lp _ _ _ rfl) rfl) ?_
    refine sv rfl (opv_len_sl si25 rfl) ?_
    refine sv rfl (opv_gtr rfl rfl) ?_
    refine sv rfl (opv_mv rfl) ?_
    refine ssplit 9 rfl (fun hc => ?_) (fun hc => ?_)
    · replace h := ite_t hc h
      clear hc
      refine soff rfl rfl rfl rfl ?_
      refine soff rfl rfl rfl rfl ?_
      refine soff rfl rfl rfl rfl ?_
      refine soff rfl rfl rfl rfl ?_
      refine sv rfl (opv_pick_t rfl rfl) ?_
      refine snil ?_
      refine ccond rfl (fun _ => ?_) (fun hx => Bool.noConfusion hx)
      refine cseq ?_
      refine cregion ?_
      refine sv rfl (opv_as rfl) ?_
      refine snil ?_
      refine cret ?_
      refine then_ret ?_
      obtain rfl := Option.some.inj h
      refine ⟨Or.inr rfl, _, _, _, (resVs_cons (ResV.tmp _ _ rfl) resVs_nil), (pubA_id rfl), ?_⟩
      rfl
    · replace h := ite_f hc h
      clear hc
      refine son rfl rfl rfl ?_
      refine sv rfl (opv_fieldAddr_lp fi28_3 rfl) ?_
      refine son rfl rfl rfl ?_
      refine sv rfl (opv_load1 ti26 rfl (.lp _ _ _ rfl) rfl) ?_
      refine son rfl rfl rfl ?_
      refine sv rfl (opv_len_sl si26 rfl) ?_
      refine son rfl rfl rfl ?_
      refine sv rfl (opv_gtr rfl rfl) ?_
      refine sv rfl (opv_pick_f rfl rfl) ?_
      refine snil ?_
      refine ccond rfl (fun hc => ?_) (fun hc => ?_)
      · replace h := ite_t hc h
        clear hc
        refine cseq ?_
        refine cregion ?_
        refine sv rfl (opv_as rfl) ?_
        refine snil ?_
        refine cret ?_
        refine then_ret ?_
        obtain rfl := Option.some.inj h
        refine ⟨Or.inr rfl, _, _, _, (resVs_cons (ResV.tmp _ _ rfl) resVs_nil), (pubA_id rfl), ?_⟩
        rfl
      · replace h := ite_f hc h
        clear hc
        refine cskip ?_
        refine then_normal ?_
        exact ⟨(), _, h, ⟨rfl, trivial⟩, rfl⟩

def m14_l16_req (a0 : GR05Req) : Option GMsgReq :=
  some (GMsgReq.mk a0.Kind a0.Seq a0.Token a0.Attempt a0.RO a0.Key a0.Val (GApiRange.mk a0.Rng.Lo a0.Rng.Hi a0.Rng.Open))

set_option maxRecDepth 100000 in
theorem m14_l16_req_c {a0 : GR05Req} {r : GMsgReq} (h : m14_l16_req a0 = some r) : CallsA Tryd.prog 14 [.agg [.i .i64 a0.Kind, .i .i64 a0.Seq, .i .i64 a0.Token, .i .i64 a0.Attempt, .b a0.RO, .sl a0.Key.length (a0.Key.flatMap eU8), .sl a0.Val.length (a0.Val.flatMap eU8), .sl a0.Rng.Lo.length (a0.Rng.Lo.flatMap eU8), .sl a0.Rng.Hi.length (a0.Rng.Hi.flatMap eU8), .b a0.Rng.Open]] (· = .s (.agg [.i .i64 r.Kind, .i .i64 r.Seq, .i .i64 r.Token, .i .i64 r.Attempt, .b r.RO, .sl r.Key.length (r.Key.flatMap eU8), .sl r.Val.length (r.Val.flatMap eU8), .sl r.Rng.Lo.length (r.Rng.Lo.flatMap eU8), .sl r.Rng.Hi.length (r.Rng.Hi.flatMap eU8), .b r.Rng.Open])) := by
  unfold m14_l16_req at h
  refine callsA_of Tryd.func14 rfl (nt := 20) rfl (Nat.le_of_ble_eq_true rfl) ?_
  intro w0 S0
  refine cseq ?_
  refine cregion ?_
  refine sbox rfl rfl ?_
  refine salloc rfl zi51 ?_
  refine snil ?_
  refine cseq ?_
  refine cregion ?_
  refine sv rfl (opv_fieldAddr_lp fi33_0 rfl) ?_
  refine sv rfl (opv_load1 ti3 rfl (.lp _ _ _ rfl) rfl) ?_
  refine sv rfl (opv_fieldAddr_lp fi33_1 rfl) ?_
  refine sv rfl (opv_load1 ti3 rfl (.lp _ _ _ rfl) rfl) ?_
  refine sv rfl (opv_fieldAddr_lp fi33_2 rfl) ?_
  refine sv rfl (opv_load1 ti3 rfl (.lp _ _ _ rfl) rfl) ?_
  refine sv rfl (opv_fieldAddr_lp fi33_3 rfl) ?_
  refine sv rfl (opv_load1 ti3 rfl (.lp _ _ _ rfl) rfl) ?_
  refine sv rfl (opv_fieldAddr_lp fi33_4 rfl) ?_
  refine sv rfl (opv_load1 ti4 rfl (.lp _ _ _ rfl) rfl) ?_
  refine sv rfl (opv_fieldAddr_lp fi33_5 rfl) ?_
  refine sv rfl (opv_load1 ti29 rfl (.lp _ _ _ rfl) rfl) ?_
  refine sv rfl (opv_fieldAddr_lp fi33_6 rfl) ?_
  refine sv rfl (opv_load1 ti29 rfl (.lp _ _ _ rfl) rfl) ?_
  refine sv rfl (opv_fieldAddr_lp fi33_7 rfl) ?_
  refine sv rfl (opv_loadN ti31 rfl (.lp _ _ _ rfl) (Nat.le_of_ble_eq_true rfl)) ?_
  refine sv rfl (opv_build zi51 pi51 (parts_cons rfl (parts_cons rfl (parts_cons rfl (parts_cons rfl (parts_cons rfl (parts_cons rfl (parts_cons rfl (parts_cons rfl parts_nil)))))))) (bcons [.i .i64 a0.Kind, .i .i64 0, .i .i64 0, .i .i64 0, .b false, .raw (.slice none 0 0), .raw (.slice none 0 0), .raw (.slice none 0 0), .raw (.slice none 0 0), .b false] rfl rfl (Nat.le_of_ble_eq_true rfl) rfl (bcons [.i .i64 a0.Kind, .i .i64 a0.Seq, .i .i64 0, .i .i64 0, .b false, .raw (.slice none 0 0), .raw (.slice none 0 0), .raw (.slice none 0 0), .raw (.slice none 0 0), .b false] rfl rfl (Nat.le_of_ble_eq_true rfl) rfl (bcons [.i .i64 a0.Kind, .i .i64 a0.Seq, .i .i64 a0.Token, .i .i64 0, .b false, .raw (.slice none 0 0), .raw (.slice none 0 0), .raw (.slice none 0 0), .raw (.slice none 0 0), .b false] rfl rfl (Nat.le_of_ble_eq_true rfl) rfl (bcons [.i .i64 a0.Kind, .i .i64 a0.Seq, .i .i64 a0.Token, .i .i64 a0.Attempt, .b false, .raw (.slice none 0 0), .raw (.slice none 0 0), .raw (.slice none 0 0), .raw (.slice none 0 0), .b false] rfl rfl (Nat.le_of_ble_eq_true rfl) rfl (bcons [.i .i64 a0.Kind, .i .i64 a0.Seq, .i .i64 a0.Token, .i .i64 a0.Attempt, .b a0.RO, .raw (.slice none 0 0), .raw (.slice none 0 0), .raw (.slice none 0 0), .raw (.slice none 0 0), .b false] rfl rfl (Nat.le_of_ble_eq_true rfl) rfl (bcons [.i .i64 a0.Kind, .i .i64 a0.Seq, .i .i64 a0.Token, .i .i64 a0.Attempt, .b a0.RO, .sl a0.Key.length (a0.Key.flatMap eU8), .raw (.slice none 0 0), .raw (.slice none 0 0), .raw (.slice none 0 0), .b false] rfl rfl (Nat.le_of_ble_eq_true rfl) rfl (bcons [.i .i64 a0.Kind, .i .i64 a0.Seq, .i .i64 a0.Token, .i .i64 a0.Attempt, .b a0.RO, .sl a0.Key.length (a0.Key.flatMap eU8), .sl a0.Val.length (a0.Val.flatMap eU8), .raw (.slice none 0 0), .raw (.slice none 0 0), .b false] rfl rfl (Nat.le_of_ble_eq_true rfl) rfl (bcons [.i .i64 a0.Kind, .i .i64 a0.Seq, .i .i64 a0.Token, .i .i64 a0.Attempt, .b a0.RO, .sl a0.Key.length (a0.Key.flatMap eU8), .sl a0.Val.length (a0.Val.flatMap eU8), .sl a0.Rng.Lo.length (a0.Rng.Lo.flatMap eU8), .sl a0.Rng.Hi.length (a0.Rng.Hi.flatMap eU8), .b a0.Rng.Open] rfl rfl (Nat.le_of_ble_eq_true rfl) rfl (.nil _)))))))))) ?_
  refine sstore sz51 rfl rfl rfl rfl (Nat.le_of_ble_eq_true rfl) ?_
  refine smem [.box [.i .i64 a0.Kind, .i .i64 a0.Seq, .i .i64 a0.Token, .i .i64 a0.Attempt, .b a0.RO, .sl a0.Key.length (a0.Key.flatMap eU8), .sl a0.Val.length (a0.Val.flatMap eU8), .sl a0.Rng.Lo.length (a0.Rng.Lo.flatMap eU8), .sl a0.Rng.Hi.length (a0.Rng.Hi.flatMap eU8), .b a0.Rng.Open], .box [.i .i64 a0.Kind, .i .i64 a0.Seq, .i .i64 a0.Token, .i .i64 a0.Attempt, .b a0.RO, .sl a0.Key.length (a0.Key.flatMap eU8), .sl a0.Val.length (a0.Val.flatMap eU8), .sl a0.Rng.Lo.length (a0.Rng.Lo.flatMap eU8), .sl a0.Rng.Hi.length (a0.Rng.Hi.flatMap eU8), .b a0.Rng.Open]] rfl ?_
  refine snil ?_
  refine cret ?_
  obtain rfl := Option.some.inj h
  refine ⟨Or.inr rfl, _, _, _, (resVs_cons (ResV.agg _ _ _ _ _ ti51 rfl (.lp _ _ _ rfl) (Nat.le_of_ble_eq_true rfl)) resVs_nil), (pubA_id rfl), ?_⟩
  rfl

def m17_l16_reply (a0 : GR05Reply) : Option GMsgReply :=
  some (GMsgReply.mk a0.Kind a0.Seq a0.Code a0.N a0.Found a0.Val a0.List)

set_option maxRecDepth 100000 in
theorem m17_l16_reply_c {a0 : GR05Reply} {r : GMsgReply} (h : m17_l16_reply a0 = some r) : CallsA Tryd.prog 17 [.agg [.i .i64 a0.Kind, .i .i64 a0.Seq, .i .i64 a0.Code, .i .i64 a0.N, .b a0.Found, .sl a0.Val.length (a0.Val.flatMap eU8), .sl a0.List.length (a0.List.flatMap eGApiKV)]] (· = .s (.agg [.i .i64 r.Kind, .i .i64 r.Seq, .i .i64 r.Code, .i .i64 r.N, .b r.Found, .sl r.Val.length (r.Val.flatMap eU8), .sl r.List.length (r.List.flatMap eGApiKV)])) := by
  unfold m17_l16_reply at h
  refine callsA_of Tryd.func17 rfl (nt := 18) rfl (Nat.le_of_ble_eq_true rfl) ?_
  intro w0 S0
  refine cseq ?_
  refine cregion ?_
  refine sbox rfl rfl ?_
  refine salloc rfl zi48 ?_
  refine snil ?_
  refine cseq ?_
  refine cregion ?_
  refine sv rfl (opv_fieldAddr_lp fi37_0 rfl) ?_
  refine sv rfl (opv_load1 ti3 rfl (.lp _ _ _ rfl) rfl) ?_
  refine sv rfl (opv_fieldAddr_lp fi37_1 rfl) ?_
  refine sv rfl (opv_load1 ti3 rfl (.lp _ _ _ rfl) rfl) ?_
  refine sv rfl (opv_fieldAddr_lp fi37_2 rfl) ?_
  refine sv rfl (opv_load1 ti34 rfl (.lp _ _ _ rfl) rfl) ?_
  refine sv rfl (opv_fieldAddr_lp fi37_3 rfl) ?_
  refine sv rfl (opv_load1 ti3 rfl (.lp _ _ _ rfl) rfl) ?_
  refine sv rfl (opv_fieldAddr_lp fi37_4 rfl) ?_
  refine sv rfl (opv_load1 ti4 rfl (.lp _ _ _ rfl) rfl) ?_
  refine sv rfl (opv_fieldAddr_lp fi37_5 rfl) ?_
  refine sv rfl (opv_load1 ti29 rfl (.lp _ _ _ rfl) rfl) ?_
  refine sv rfl (opv_fieldAddr_lp fi37_6 rfl) ?_
  refine sv rfl (opv_load1 ti35 rfl (.lp _ _ _ rfl) rfl) ?_
  refine sv rfl (opv_build zi48 pi48 (parts_cons rfl (parts_cons rfl (parts_cons rfl (parts_cons rfl (parts_cons rfl (parts_cons rfl (parts_cons rfl parts_nil))))))) (bcons [.i .i64 a0.Kind, .i .i64 0, .i .i64 0, .i .i64 0, .b false, .raw (.slice none 0 0), .raw (.slice none 0 0)] rfl rfl (Nat.le_of_ble_eq_true rfl) rfl (bcons [.i .i64 a0.Kind, .i .i64 a0.Seq, .i .i64 0, .i .i64 0, .b false, .raw (.slice none 0 0), .raw (.slice none 0 0)] rfl rfl (Nat.le_of_ble_eq_true rfl) rfl (bcons [.i .i64 a0.Kind, .i .i64 a0.Seq, .i .i64 a0.Code, .i .i64 0, .b false, .raw (.slice none 0 0), .raw (.slice none 0 0)] rfl rfl (Nat.le_of_ble_eq_true rfl) rfl (bcons [.i .i64 a0.Kind, .i .i64 a0.Seq, .i .i64 a0.Code, .i .i64 a0.N, .b false, .raw (.slice none 0 0), .raw (.slice none 0 0)] rfl rfl (Nat.le_of_ble_eq_true rfl) rfl (bcons [.i .i64 a0.Kind, .i .i64 a0.Seq, .i .i64 a0.Code, .i .i64 a0.N, .b a0.Found, .raw (.slice none 0 0), .raw (.slice none 0 0)] rfl rfl (Nat.le_of_ble_eq_true rfl) rfl (bcons [.i .i64 a0.Kind, .i .i64 a0.Seq, .i .i64 a0.Code, .i .i64 a0.N, .b a0.Found, .sl a0.Val.length (a0.Val.flatMap eU8), .raw (.slice none 0 0)] rfl rfl (Nat.le_of_ble_eq_true rfl) rfl (bcons [.i .i64 a0.Kind, .i .i64 a0.Seq, .i .i64 a0.Code, .i .i64 a0.N, .b a0.Found, .sl a0.Val.length (a0.Val.flatMap eU8), .sl a0.List.length (a0.List.flatMap eGApiKV)] rfl rfl (Nat.le_of_ble_eq_true rfl) rfl (.nil _))))))))) ?_
  refine sstore sz48 rfl rfl rfl rfl (Nat.le_of_ble_eq_true rfl) ?_
  refine smem [.box [.i .i64 a0.Kind, .i .i64 a0.Seq, .i .i64 a0.Code, .i .i64 a0.N, .b a0.Found, .sl a0.Val.length (a0.Val.flatMap eU8), .sl a0.List.length (a0.List.flatMap eGApiKV)], .box [.i .i64 a0.Kind, .i .i64 a0.Seq, .i .i64 a0.Code, .i .i64 a0.N, .b a0.Found, .sl a0.Val.length (a0.Val.flatMap eU8), .sl a0.List.length (a0.List.flatMap eGApiKV)]] rfl ?_
  refine snil ?_
  refine cret ?_
  obtain rfl := Option.some.inj h
  refine ⟨Or.inr rfl, _, _, _, (resVs_cons (ResV.agg _ _ _ _ _ ti48 rfl (.lp _ _ _ rfl) (Nat.le_of_ble_eq_true rfl)) resVs_nil), (pubA_id rfl), ?_⟩
  rfl

def m12_l16_ours_k2 (a0 : GR16Pipe) (b1 : (List GMsgReq)) (b2 : (List GMsgReply)) : Option GPipePipe :=
  some (GPipePipe.mk (GSeqsWindow.mk a0.Win.Base a0.Win.Bits) a0.Next b1 b2)

def m12_l16_ours_s3 (a0 : GR16Pipe) (s3 : Int × (List GMsgReply)) : Option (LB (Int × (List GMsgReply)) ((List GMsgReply))) :=
  if (decide (s3.1 < (a0.Past.length : Int))) then ((idx a0.Past s3.1).bind fun u4 => (m17_l16_reply u4).bind fun v5 => if (s3.2.length + ([v5] : List GMsgReply).length) * 88 ≤ 140737488355328 then (some (.cont ((wI (s3.1 + 1)), (s3.2 ++ ([v5] : List GMsgReply))))) else none) else (some (.brk s3.2))

def m12_l16_ours_k1 (a0 : GR16Pipe) (b1 : (List GMsgReq)) : Option GPipePipe :=
  (iterB (m12_l16_ours_s3 a0) fuel (0, ([] : List GMsgReply))).bind fun e7 => m12_l16_ours_k2 a0 b1 e7

def m12_l16_ours_s8 (a0 : GR16Pipe) (s8 : Int × (List GMsgReq)) : Option (LB (Int × (List GMsgReq)) ((List GMsgReq))) :=
  if (decide (s8.1 < (a0.Wait.length : Int))) then ((idx a0.Wait s8.1).bind fun u9 => (m14_l16_req (GR05Req.mk u9.Kind u9.Seq u9.Token u9.Attempt u9.RO u9.Key u9.Val (GApiRange.mk u9.Rng.Lo u9.Rng.Hi u9.Rng.Open))).bind fun v10 => if (s8.2.length + ([(GMsgReq.mk v10.Kind v10.Seq v10.Token v10.Attempt v10.RO v10.Key v10.Val (GApiRange.mk v10.Rng.Lo v10.Rng.Hi v10.Rng.Open))] : List GMsgReq).length) * 144 ≤ 140737488355328 then (some (.cont ((wI (s8.1 + 1)), (s8.2 ++ ([(GMsgReq.mk v10.Kind v10.Seq v10.Token v10.Attempt v10.RO v10.Key v10.Val (GApiRange.mk v10.Rng.Lo v10.Rng.Hi v10.Rng.Open))] : List GMsgReq))))) else none) else (some (.brk s8.2))
def m12_l16_ours (a0 : GR16Pipe) : Option GPipePipe :=
  (iterB (m12_l16_ours_s8 a0) fuel (0, ([] : List GMsgReq))).bind fun e12 => m12_l16_ours_k1 a0 e12

set_option maxRecDepth 100000 in
theorem m12_l16_ours_c {a0 : GR16Pipe} {r : GPipePipe} (h : m12_l16_ours a0 = some r) : CallsA Tryd.prog 12 [.agg [.i .i64 a0.Win.Base, .i .u64 (a0.Win.Bits.toNat : Int), .i .i64 a0.Next, .sl a0.Wait.length (a0.Wait.flatMap eGR05Req), .sl a0.Past.length (a0.Past.flatMap eGR05Reply)]] (· = .s (.agg [.i .i64 r.Win.Base, .i .u64 (r.Win.Bits.toNat : Int), .i .i64 r.Next, .sl r.Wait.length (r.Wait.flatMap eGMsgReq), .sl r.Past.length (r.Past.flatMap eGMsgReply)])) := by
  unfold m12_l16_ours at h
  refine callsA_of Tryd.func12 rfl (nt := 53) rfl (Nat.le_of_ble_eq_true rfl) ?_
  intro w0 S0
  refine cseq ?_
  refine cregion ?_
  refine sbox rfl rfl ?_
  refine salloc rfl zi46 ?_
  refine snil ?_
  refine cseq ?_
  refine cregion ?_
  refine sv rfl (opv_fieldAddr_lp fi28_0 rfl) ?_
  refine sv rfl (opv_fieldAddr_lp fi24_0 rfl) ?_
  refine sv rfl (opv_load1 ti3 rfl (.lp _ _ _ rfl) rfl) ?_
  refine sv rfl (opv_fieldAddr_lp fi28_0 rfl) ?_
  refine sv rfl (opv_fieldAddr_lp fi24_1 rfl) ?_
  refine sv rfl (opv_load1 ti22 rfl (.lp _ _ _ rfl) rfl) ?_
  refine sv rfl (opv_build zi42 pi42 (parts_cons rfl (parts_cons rfl parts_nil)) (.cons _ _ _ _ _ _ _ rfl rfl (Nat.le_of_ble_eq_true rfl) (.cons _ _ _ _ _ _ _ rfl rfl (Nat.le_of_ble_eq_true rfl) (.nil _)))) ?_
  refine sv rfl (opv_fieldAddr_lp fi28_1 rfl) ?_
  refine sv rfl (opv_load1 ti3 rfl (.lp _ _ _ rfl) rfl) ?_
  refine sv rfl (opv_build zi46 pi46 (parts_cons rfl (parts_cons rfl parts_nil)) (.cons _ _ _ _ _ _ _ rfl rfl (Nat.le_of_ble_eq_true rfl) (.cons _ _ _ _ _ _ _ rfl rfl (Nat.le_of_ble_eq_true rfl) (.nil _)))) ?_
  refine salloc rfl zi46 ?_
  refine sstore sz46 rfl rfl rfl rfl (Nat.le_of_ble_eq_true rfl) ?_
  refine smem [.box [.i .i64 a0.Win.Base, .i .u64 (a0.Win.Bits.toNat : Int), .i .i64 a0.Next, .sl a0.Wait.length (a0.Wait.flatMap eGR05Req), .sl a0.Past.length (a0.Past.flatMap eGR05Reply)], .box [.i .i64 0, .i .u64 ((0#64).toNat : Int), .i .i64 0, .raw (.slice none 0 0), .raw (.slice none 0 0)], .box [.i .i64 a0.Win.Base, .i .u64 (a0.Win.Bits.toNat : Int), .i .i64 a0.Next, .raw (.slice none 0 0), .raw (.slice none 0 0)]] rfl ?_
  refine snil ?_
  refine cseq ?_
  refine cseq ?_
  refine cregion ?_
  refine sv rfl (opv_as rfl) ?_
  refine snil ?_
  refine sadopt_box_c 51 10 2 3 (by decide) rfl rfl ?_
  refine cjoin ((List GMsgReq)) (fun b1 => [(1, .s (.one (.lp 0 0))), (2, .s (.one (.lp 1 0))), (3, .s (.one (.lp 2 0)))]) (fun b1 => [.box [.i .i64 a0.Win.Base, .i .u64 (a0.Win.Bits.toNat : Int), .i .i64 a0.Next, .sl a0.Wait.length (a0.Wait.flatMap eGR05Req), .sl a0.Past.length (a0.Past.flatMap eGR05Reply)], .box [.i .i64 0, .i .u64 ((0#64).toNat : Int), .i .i64 0, .raw (.slice none 0 0), .raw (.slice none 0 0)], .box [.i .i64 a0.Win.Base, .i .u64 (a0.Win.Bits.toNat : Int), .i .i64 a0.Next, .ls 3 b1.length, .raw (.slice none 0 0)], .arr 51 10 0 (b1.flatMap eGMsgReq)]) (fun b1 => m12_l16_ours_k1 a0 b1 = some r) (fun _ _ => inbL_of rfl) (fun _ _ => blkinb_of rfl) (fun _ _ => Nat.le_of_ble_eq_true rfl) (fun b1 h => ?_) ?_
  · unfold m12_l16_ours_k1 at h
    refine cseq ?_
    refine cseq ?_
    refine cregion ?_
    refine sv rfl (opv_as rfl) ?_
    refine snil ?_
    refine sadopt_box_c 48 7 2 4 (by decide) rfl rfl ?_
    refine cjoin ((List GMsgReply)) (fun b2 => [(2, .s (.one (.lp 1 0))), (3, .s (.one (.lp 2 0)))]) (fun b2 => [.box [.i .i64 a0.Win.Base, .i .u64 (a0.Win.Bits.toNat : Int), .i .i64 a0.Next, .sl a0.Wait.length (a0.Wait.flatMap eGR05Req), .sl a0.Past.length (a0.Past.flatMap eGR05Reply)], .box [.i .i64 0, .i .u64 ((0#64).toNat : Int), .i .i64 0, .raw (.slice none 0 0), .raw (.slice none 0 0)], .box [.i .i64 a0.Win.Base, .i .u64 (a0.Win.Bits.toNat : Int), .i .i64 a0.Next, .ls 3 b1.length, .ls 4 b2.length], .arr 51 10 0 (b1.flatMap eGMsgReq), .arr 48 7 0 (b2.flatMap eGMsgReply)]) (fun b2 => m12_l16_ours_k2 a0 b1 b2 = some r) (fun _ _ => inbL_of rfl) (fun _ _ => blkinb_of rfl) (fun _ _ => Nat.le_of_ble_eq_true rfl) (fun b2 h => ?_) ?_
    · unfold m12_l16_ours_k2 at h
      refine cseq ?_
      refine cregion ?_
      refine sv rfl (opv_loadN ti46 rfl (.lp _ _ _ rfl) (Nat.le_of_ble_eq_true rfl)) ?_
      refine sstore sz46 rfl rfl rfl rfl (Nat.le_of_ble_eq_true rfl) ?_
      refine smem [.box [.i .i64 a0.Win.Base, .i .u64 (a0.Win.Bits.toNat : Int), .i .i64 a0.Next, .sl a0.Wait.length (a0.Wait.flatMap eGR05Req), .sl a0.Past.length (a0.Past.flatMap eGR05Reply)], .box [.i .i64 a0.Win.Base, .i .u64 (a0.Win.Bits.toNat : Int), .i .i64 a0.Next, .ls 3 b1.length, .ls 4 b2.length], .box [.i .i64 a0.Win.Base, .i .u64 (a0.Win.Bits.toNat : Int), .i .i64 a0.Next, .ls 3 b1.length, .ls 4 b2.length], .arr 51 10 0 (b1.flatMap eGMsgReq), .arr 48 7 0 (b2.flatMap eGMsgReply)] rfl ?_
      refine snil ?_
      refine cret ?_
      obtain rfl := Option.some.inj h
      refine ⟨Or.inr rfl, _, _, _, (resVs_cons (ResV.agg _ _ _ _ _ ti46 rfl (.lp _ _ _ rfl) (Nat.le_of_ble_eq_true rfl)) resVs_nil), (by (repeat' first | exact PubA.nil _ | apply PubA.cons | apply PubV.one | apply PubV.agg | exact PubL.nil | exact PubL.ls _ _ _ _ _ _ rfl (flat_len (f := eGMsgReply) (fun _ => rfl) _).symm | exact PubL.ls _ _ _ _ _ _ rfl (flat_len (f := eGMsgReq) (fun _ => rfl) _).symm | exact PubL.id _ rfl | exact PubLs.nil _ | apply PubLs.cons)), ?_⟩
      rfl
    · skip
      refine cblock ?_
      obtain ⟨x3, hx3, ho3⟩ := bind_eq h
      refine awc_loop (G := Nat × (Int × (List GMsgReply))) (fun g => [(1, .s (.one (.lp 0 0))), (2, .s (.one (.lp 1 0))), (3, .s (.one (.lp 2 0))), (5, .s (.one (.i .i64 g.2.1)))]) (fun g => [.box [.i .i64 a0.Win.Base, .i .u64 (a0.Win.Bits.toNat : Int), .i .i64 a0.Next, .sl a0.Wait.length (a0.Wait.flatMap eGR05Req), .sl a0.Past.length (a0.Past.flatMap eGR05Reply)], .box [.i .i64 0, .i .u64 ((0#64).toNat : Int), .i .i64 0, .raw (.slice none 0 0), .raw (.slice none 0 0)], .box [.i .i64 a0.Win.Base, .i .u64 (a0.Win.Bits.toNat : Int), .i .i64 a0.Next, .ls 3 b1.length, .ls 4 g.2.2.length], .arr 51 10 0 (b1.flatMap eGMsgReq), .arr 48 7 0 (g.2.2.flatMap eGMsgReply)]) (fun g => iterB (m12_l16_ours_s3 a0) g.1 g.2 = some x3) (fun g => g.1) (fuel, (0, ([] : List GMsgReply))) hx3 ⟨rfl, rfl, rfl, rfl, trivial⟩ [] rfl (fun _ _ => inbL_of rfl) (fun _ _ => blkinb_of rfl) (fun _ _ => Nat.le_of_ble_eq_true rfl) ?_
      clear hx3 h
      rintro ⟨n3, s3⟩ h
      obtain ⟨n3, y3, rfl, h, hk3⟩ := iterB_eq h
      unfold m12_l16_ours_s3 at h
      refine cseq ?_
      refine cseq ?_
      refine cregion ?_
      refine sv rfl (opv_mv rfl) ?_
      refine sv rfl (opv_fieldAddr_lp fi28_3 rfl) ?_
      refine sv rfl (opv_load1 ti26 rfl (.lp _ _ _ rfl) rfl) ?_
      refine sv rfl (opv_len_sl si26 rfl) ?_
      refine sv rfl (opv_lss rfl rfl) ?_
      refine snil ?_
      refine ccond rfl (fun hc => ?_) (fun hc => ?_)
      · replace h := ite_t hc h
        clear hc
        refine cskip ?_
        refine then_normal ?_
        refine cseq ?_
        refine cblock ?_
        obtain ⟨u4, hu4, h⟩ := bind_eq h
        obtain ⟨v5, hv5, h⟩ := bind_eq h
        obtain ⟨hb6, h⟩ := chk_eq h
        refine cdraw_e [9, 11] [0, 1, 0, 4, 0, 28, 60, 124, 252, 511, 1023, 2047] [[.box [.i .i64 a0.Win.Base, .i .u64 (a0.Win.Bits.toNat : Int), .i .i64 a0.Next, .sl a0.Wait.length (a0.Wait.flatMap eGR05Req), .sl a0.Past.length (a0.Past.flatMap eGR05Reply)], .box [.i .i64 0, .i .u64 ((0#64).toNat : Int), .i .i64 0, .raw (.slice none 0 0), .raw (.slice none 0 0)], .box [.i .i64 a0.Win.Base, .i .u64 (a0.Win.Bits.toNat : Int), .i .i64 a0.Next, .ls 3 b1.length, .ls 4 s3.2.length], .arr 51 10 0 (b1.flatMap eGMsgReq), .arr 48 7 0 (s3.2.flatMap eGMsgReply)], [.box [.i .i64 a0.Win.Base, .i .u64 (a0.Win.Bits.toNat : Int), .i .i64 a0.Next, .sl a0.Wait.length (a0.Wait.flatMap eGR05Req), .sl a0.Past.length (a0.Past.flatMap eGR05Reply)], .box [.i .i64 0, .i .u64 ((0#64).toNat : Int), .i .i64 0, .raw (.slice none 0 0), .raw (.slice none 0 0)], .box [.i .i64 a0.Win.Base, .i .u64 (a0.Win.Bits.toNat : Int), .i .i64 a0.Next, .ls 3 b1.length, .ls 4 s3.2.length], .arr 51 10 0 (b1.flatMap eGMsgReq), .arr 48 7 0 ((s3.2 ++ ([v5] : List GMsgReply)).flatMap eGMsgReply)], [.box [.i .i64 a0.Win.Base, .i .u64 (a0.Win.Bits.toNat : Int), .i .i64 a0.Next, .sl a0.Wait.length (a0.Wait.flatMap eGR05Req), .sl a0.Past.length (a0.Past.flatMap eGR05Reply)], .box [.i .i64 0, .i .u64 ((0#64).toNat : Int), .i .i64 0, .raw (.slice none 0 0), .raw (.slice none 0 0)], .box [.i .i64 a0.Win.Base, .i .u64 (a0.Win.Bits.toNat : Int), .i .i64 a0.Next, .ls 3 b1.length, .ls 4 (s3.2 ++ ([v5] : List GMsgReply)).length], .arr 51 10 0 (b1.flatMap eGMsgReq), .arr 48 7 0 ((s3.2 ++ ([v5] : List GMsgReply)).flatMap eGMsgReply)]] (by kernel_rfl) mixed (by kernel_rfl) (by decide) rfl rfl rfl rfl ?_
        refine ev (sees_at 0 rfl rfl) rfl rfl (opv_fieldAddr_lp fi46_3 rfl) ?_
        refine ev (sees_at 0 rfl rfl) rfl rfl (opv_load1 ti44 rfl (.lp _ _ _ rfl) rfl) ?_
        refine ev (sees_at 0 rfl rfl) rfl rfl (opv_fieldAddr_lp fi28_3 rfl) ?_
        refine ev (sees_at 0 rfl rfl) rfl rfl (opv_load1 ti26 rfl (.lp _ _ _ rfl) rfl) ?_
        refine ev (sees_at 0 rfl rfl) rfl rfl (opv_mv rfl) ?_
        refine ev (sees_at 0 rfl rfl) rfl rfl (opv_ix (f := eGR05Reply) si26 (fun _ => rfl) rfl rfl rfl rfl hu4) ?_
        refine ev (sees_at 0 rfl rfl) rfl rfl (opv_loadNe (ys := [.i .i64 u4.Kind, .i .i64 u4.Seq, .i .i64 u4.Code, .i .i64 u4.N, .b u4.Found, .sl u4.Val.length (u4.Val.flatMap eU8), .sl u4.List.length (u4.List.flatMap eGApiKV)]) ti37 rfl (.cp _) rfl rfl) ?_
        refine ed (sees_at 0 rfl rfl) rfl rfl (opD_call fn17 (opnds_cons rfl opnds_nil) rfl (m17_l16_reply_c hv5)) ?_
        refine ed (sees_at 0 rfl rfl) rfl rfl (opD_bld (out := ([v5] : List GMsgReply).flatMap eGMsgReply) Tryd.underlying44 ei48 (parts_cons rfl parts_nil) (.cons _ _ _ _ _ _ _ rfl rfl (Nat.le_of_ble_eq_true rfl) (.nil _)) rfl (by decide)) ?_
        refine ee (x := .s (.one (.ls 4 (s3.2 ++ ([v5] : List GMsgReply)).length))) 0 rfl rfl rfl rfl rfl (fun ζ => ?_) ?_
        · refine sapp (f := eGMsgReply) (xs := s3.2) (us := ([v5] : List GMsgReply)) rfl Tryd.underlying44 ei48 ni44 (fun _ => rfl) rfl rfl (.one _ _ _ _ (.id _ rfl)) rfl rfl rfl (.sl _ _ _ (flat_len (f := eGMsgReply) (fun _ => rfl) _)) rfl rfl hb6 (by decide) ?_
          exact eend
        refine ev (sees_at 1 rfl rfl) rfl rfl (opv_fieldAddr_lp fi46_3 rfl) ?_
        refine ee0 1 rfl rfl rfl rfl (fun ζ => ?_) ?_
        · refine sstore sz44 rfl rfl rfl rfl (Nat.le_of_ble_eq_true rfl) ?_
          refine smem [.box [.i .i64 a0.Win.Base, .i .u64 (a0.Win.Bits.toNat : Int), .i .i64 a0.Next, .sl a0.Wait.length (a0.Wait.flatMap eGR05Req), .sl a0.Past.length (a0.Past.flatMap eGR05Reply)], .box [.i .i64 0, .i .u64 ((0#64).toNat : Int), .i .i64 0, .raw (.slice none 0 0), .raw (.slice none 0 0)], .box [.i .i64 a0.Win.Base, .i .u64 (a0.Win.Bits.toNat : Int), .i .i64 a0.Next, .ls 3 b1.length, .ls 4 (s3.2 ++ ([v5] : List GMsgReply)).length], .arr 51 10 0 (b1.flatMap eGMsgReq), .arr 48 7 0 ((s3.2 ++ ([v5] : List GMsgReply)).flatMap eGMsgReply)] rfl ?_
          exact eend
        refine enil ?_
        refine block_normal ?_
        refine then_normal ?_
        refine cregion ?_
        refine sv rfl (opv_mv rfl) ?_
        refine sv rfl (opv_add rfl rfl) ?_
        refine sv rfl (opv_as rfl) ?_
        refine snil ?_
        obtain rfl := Option.some.inj h
        exact ⟨(n3, ((wI (s3.1 + 1)), (s3.2 ++ ([v5] : List GMsgReply)))), _, hk3, ⟨rfl, rfl, rfl, rfl, trivial⟩, rfl, Nat.lt_succ_self _⟩
      · replace h := ite_f hc h
        clear hc
        refine cexit ?_
        refine then_exit ?_
        refine then_exit ?_
        refine block_hit ?_
        refine then_normal ?_
        obtain rfl := Option.some.inj h
        obtain rfl : _ = x3 := hk3
        exact ⟨s3.2, _, ho3, ⟨rfl, rfl, trivial⟩, rfl⟩
  · skip
    refine cblock ?_
    obtain ⟨x8, hx8, ho8⟩ := bind_eq h
    refine awc_loop (G := Nat × (Int × (List GMsgReq))) (fun g => [(1, .s (.one (.lp 0 0))), (2, .s (.one (.lp 1 0))), (3, .s (.one (.lp 2 0))), (4, .s (.one (.i .i64 g.2.1)))]) (fun g => [.box [.i .i64 a0.Win.Base, .i .u64 (a0.Win.Bits.toNat : Int), .i .i64 a0.Next, .sl a0.Wait.length (a0.Wait.flatMap eGR05Req), .sl a0.Past.length (a0.Past.flatMap eGR05Reply)], .box [.i .i64 0, .i .u64 ((0#64).toNat : Int), .i .i64 0, .raw (.slice none 0 0), .raw (.slice none 0 0)], .box [.i .i64 a0.Win.Base, .i .u64 (a0.Win.Bits.toNat : Int), .i .i64 a0.Next, .ls 3 g.2.2.length, .raw (.slice none 0 0)], .arr 51 10 0 (g.2.2.flatMap eGMsgReq)]) (fun g => iterB (m12_l16_ours_s8 a0) g.1 g.2 = some x8) (fun g => g.1) (fuel, (0, ([] : List GMsgReq))) hx8 ⟨rfl, rfl, rfl, rfl, trivial⟩ [] rfl (fun _ _ => inbL_of rfl) (fun _ _ => blkinb_of rfl) (fun _ _ => Nat.le_of_ble_eq_true rfl) ?_
    clear hx8 h
    rintro ⟨n8, s8⟩ h
    obtain ⟨n8, y8, rfl, h, hk8⟩ := iterB_eq h
    unfold m12_l16_ours_s8 at h
    refine cseq ?_
    refine cseq ?_
    refine cregion ?_
    refine sv rfl (opv_mv rfl) ?_
    refine sv rfl (opv_fieldAddr_lp fi28_2 rfl) ?_
    refine sv rfl (opv_load1 ti25 rfl (.lp _ _ _ rfl) rfl) ?_
    refine sv rfl (opv_len_sl si25 rfl) ?_
    refine sv rfl (opv_lss rfl rfl) ?_
    refine snil ?_
    refine ccond rfl (fun hc => ?_) (fun hc => ?_)
    · replace h := ite_t hc h
      clear hc
      refine cskip ?_
      refine then_normal ?_
      refine cseq ?_
      refine cblock ?_
      obtain ⟨u9, hu9, h⟩ := bind_eq h
      obtain ⟨v10, hv10, h⟩ := bind_eq h
      obtain ⟨hb11, h⟩ := chk_eq h
      refine cdraw_e [9, 11] [0, 1, 0, 4, 0, 28, 60, 124, 252, 511, 1023, 2047] [[.box [.i .i64 a0.Win.Base, .i .u64 (a0.Win.Bits.toNat : Int), .i .i64 a0.Next, .sl a0.Wait.length (a0.Wait.flatMap eGR05Req), .sl a0.Past.length (a0.Past.flatMap eGR05Reply)], .box [.i .i64 0, .i .u64 ((0#64).toNat : Int), .i .i64 0, .raw (.slice none 0 0), .raw (.slice none 0 0)], .box [.i .i64 a0.Win.Base, .i .u64 (a0.Win.Bits.toNat : Int), .i .i64 a0.Next, .ls 3 s8.2.length, .raw (.slice none 0 0)], .arr 51 10 0 (s8.2.flatMap eGMsgReq)], [.box [.i .i64 a0.Win.Base, .i .u64 (a0.Win.Bits.toNat : Int), .i .i64 a0.Next, .sl a0.Wait.length (a0.Wait.flatMap eGR05Req), .sl a0.Past.length (a0.Past.flatMap eGR05Reply)], .box [.i .i64 0, .i .u64 ((0#64).toNat : Int), .i .i64 0, .raw (.slice none 0 0), .raw (.slice none 0 0)], .box [.i .i64 a0.Win.Base, .i .u64 (a0.Win.Bits.toNat : Int), .i .i64 a0.Next, .ls 3 s8.2.length, .raw (.slice none 0 0)], .arr 51 10 0 ((s8.2 ++ ([(GMsgReq.mk v10.Kind v10.Seq v10.Token v10.Attempt v10.RO v10.Key v10.Val (GApiRange.mk v10.Rng.Lo v10.Rng.Hi v10.Rng.Open))] : List GMsgReq)).flatMap eGMsgReq)], [.box [.i .i64 a0.Win.Base, .i .u64 (a0.Win.Bits.toNat : Int), .i .i64 a0.Next, .sl a0.Wait.length (a0.Wait.flatMap eGR05Req), .sl a0.Past.length (a0.Past.flatMap eGR05Reply)], .box [.i .i64 0, .i .u64 ((0#64).toNat : Int), .i .i64 0, .raw (.slice none 0 0), .raw (.slice none 0 0)], .box [.i .i64 a0.Win.Base, .i .u64 (a0.Win.Bits.toNat : Int), .i .i64 a0.Next, .ls 3 (s8.2 ++ ([(GMsgReq.mk v10.Kind v10.Seq v10.Token v10.Attempt v10.RO v10.Key v10.Val (GApiRange.mk v10.Rng.Lo v10.Rng.Hi v10.Rng.Open))] : List GMsgReq)).length, .raw (.slice none 0 0)], .arr 51 10 0 ((s8.2 ++ ([(GMsgReq.mk v10.Kind v10.Seq v10.Token v10.Attempt v10.RO v10.Key v10.Val (GApiRange.mk v10.Rng.Lo v10.Rng.Hi v10.Rng.Open))] : List GMsgReq)).flatMap eGMsgReq)]] (by kernel_rfl) mixed (by kernel_rfl) (by decide) rfl rfl rfl rfl ?_
      refine ev (sees_at 0 rfl rfl) rfl rfl (opv_fieldAddr_lp fi46_2 rfl) ?_
      refine ev (sees_at 0 rfl rfl) rfl rfl (opv_load1 ti43 rfl (.lp _ _ _ rfl) rfl) ?_
      refine ev (sees_at 0 rfl rfl) rfl rfl (opv_fieldAddr_lp fi28_2 rfl) ?_
      refine ev (sees_at 0 rfl rfl) rfl rfl (opv_load1 ti25 rfl (.lp _ _ _ rfl) rfl) ?_
      refine ev (sees_at 0 rfl rfl) rfl rfl (opv_mv rfl) ?_
      refine ev (sees_at 0 rfl rfl) rfl rfl (opv_ix (f := eGR05Req) si25 (fun _ => rfl) rfl rfl rfl rfl hu9) ?_
      refine ev (sees_at 0 rfl rfl) rfl rfl (opv_loadNe (ys := [.i .i64 u9.Kind, .i .i64 u9.Seq, .i .i64 u9.Token, .i .i64 u9.Attempt, .b u9.RO, .sl u9.Key.length (u9.Key.flatMap eU8), .sl u9.Val.length (u9.Val.flatMap eU8), .sl u9.Rng.Lo.length (u9.Rng.Lo.flatMap eU8), .sl u9.Rng.Hi.length (u9.Rng.Hi.flatMap eU8), .b u9.Rng.Open]) ti33 rfl (.cp _) rfl rfl) ?_
      refine ed (sees_at 0 rfl rfl) rfl rfl (opD_call fn14 (opnds_cons rfl opnds_nil) rfl (m14_l16_req_c hv10)) ?_
      refine ed (sees_at 0 rfl rfl) rfl rfl (opD_bld (out := ([(GMsgReq.mk v10.Kind v10.Seq v10.Token v10.Attempt v10.RO v10.Key v10.Val (GApiRange.mk v10.Rng.Lo v10.Rng.Hi v10.Rng.Open))] : List GMsgReq).flatMap eGMsgReq) Tryd.underlying43 ei51 (parts_cons rfl parts_nil) (.cons _ _ _ _ _ _ _ rfl rfl (Nat.le_of_ble_eq_true rfl) (.nil _)) rfl (by decide)) ?_
      refine ee (x := .s (.one (.ls 3 (s8.2 ++ ([(GMsgReq.mk v10.Kind v10.Seq v10.Token v10.Attempt v10.RO v10.Key v10.Val (GApiRange.mk v10.Rng.Lo v10.Rng.Hi v10.Rng.Open))] : List GMsgReq)).length))) 0 rfl rfl rfl rfl rfl (fun ζ => ?_) ?_
      · refine sapp (f := eGMsgReq) (xs := s8.2) (us := ([(GMsgReq.mk v10.Kind v10.Seq v10.Token v10.Attempt v10.RO v10.Key v10.Val (GApiRange.mk v10.Rng.Lo v10.Rng.Hi v10.Rng.Open))] : List GMsgReq)) rfl Tryd.underlying43 ei51 ni43 (fun _ => rfl) rfl rfl (.one _ _ _ _ (.id _ rfl)) rfl rfl rfl (.sl _ _ _ (flat_len (f := eGMsgReq) (fun _ => rfl) _)) rfl rfl hb11 (by decide) ?_
        exact eend
      refine ev (sees_at 1 rfl rfl) rfl rfl (opv_fieldAddr_lp fi46_2 rfl) ?_
      refine ee0 1 rfl rfl rfl rfl (fun ζ => ?_) ?_
      · refine sstore sz43 rfl rfl rfl rfl (Nat.le_of_ble_eq_true rfl) ?_
        refine smem [.box [.i .i64 a0.Win.Base, .i .u64 (a0.Win.Bits.toNat : Int), .i .i64 a0.Next, .sl a0.Wait.length (a0.Wait.flatMap eGR05Req), .sl a0.Past.length (a0.Past.flatMap eGR05Reply)], .box [.i .i64 0, .i .u64 ((0#64).toNat : Int), .i .i64 0, .raw (.slice none 0 0), .raw (.slice none 0 0)], .box [.i .i64 a0.Win.Base, .i .u64 (a0.Win.Bits.toNat : Int), .i .i64 a0.Next, .ls 3 (s8.2 ++ ([(GMsgReq.mk v10.Kind v10.Seq v10.Token v10.Attempt v10.RO v10.Key v10.Val (GApiRange.mk v10.Rng.Lo v10.Rng.Hi v10.Rng.Open))] : List GMsgReq)).length, .raw (.slice none 0 0)], .arr 51 10 0 ((s8.2 ++ ([(GMsgReq.mk v10.Kind v10.Seq v10.Token v10.Attempt v10.RO v10.Key v10.Val (GApiRange.mk v10.Rng.Lo v10.Rng.Hi v10.Rng.Open))] : List GMsgReq)).flatMap eGMsgReq)] rfl ?_
        exact eend
      refine enil ?_
      refine block_normal ?_
      refine then_normal ?_
      refine cregion ?_
      refine sv rfl (opv_mv rfl) ?_
      refine sv rfl (opv_add rfl rfl) ?_
      refine sv rfl (opv_as rfl) ?_
      refine snil ?_
      obtain rfl := Option.some.inj h
      exact ⟨(n8, ((wI (s8.1 + 1)), (s8.2 ++ ([(GMsgReq.mk v10.Kind v10.Seq v10.Token v10.Attempt v10.RO v10.Key v10.Val (GApiRange.mk v10.Rng.Lo v10.Rng.Hi v10.Rng.Open))] : List GMsgReq)))), _, hk8, ⟨rfl, rfl, rfl, rfl, trivial⟩, rfl, Nat.lt_succ_self _⟩
    · replace h := ite_f hc h
      clear hc
      refine cexit ?_
      refine then_exit ?_
      refine then_exit ?_
      refine block_hit ?_
      refine then_normal ?_
      obtain rfl := Option.some.inj h
      obtain rfl : _ = x8 := hk8
      exact ⟨s8.2, _, ho8, ⟨rfl, rfl, rfl, trivial⟩, rfl⟩

def m26_l16_asked (a0 : GMsgReq) : Option GR05Req :=
  some (GR05Req.mk a0.Kind a0.Seq a0.Token a0.Attempt a0.RO a0.Key a0.Val (GApiRange.mk a0.Rng.Lo a0.Rng.Hi a0.Rng.Open))

set_option maxRecDepth 100000 in
theorem m26_l16_asked_c {a0 : GMsgReq} {r : GR05Req} (h : m26_l16_asked a0 = some r) : CallsA Tryd.prog 26 [.agg [.i .i64 a0.Kind, .i .i64 a0.Seq, .i .i64 a0.Token, .i .i64 a0.Attempt, .b a0.RO, .sl a0.Key.length (a0.Key.flatMap eU8), .sl a0.Val.length (a0.Val.flatMap eU8), .sl a0.Rng.Lo.length (a0.Rng.Lo.flatMap eU8), .sl a0.Rng.Hi.length (a0.Rng.Hi.flatMap eU8), .b a0.Rng.Open]] (· = .s (.agg [.i .i64 r.Kind, .i .i64 r.Seq, .i .i64 r.Token, .i .i64 r.Attempt, .b r.RO, .sl r.Key.length (r.Key.flatMap eU8), .sl r.Val.length (r.Val.flatMap eU8), .sl r.Rng.Lo.length (r.Rng.Lo.flatMap eU8), .sl r.Rng.Hi.length (r.Rng.Hi.flatMap eU8), .b r.Rng.Open])) := by
  unfold m26_l16_asked at h
  refine callsA_of Tryd.func26 rfl (nt := 20) rfl (Nat.le_of_ble_eq_true rfl) ?_
  intro w0 S0
  refine cseq ?_
  refine cregion ?_
  refine sbox rfl rfl ?_
  refine salloc rfl zi33 ?_
  refine snil ?_
  refine cseq ?_
  refine cregion ?_
  refine sv rfl (opv_fieldAddr_lp fi51_0 rfl) ?_
  refine sv rfl (opv_load1 ti3 rfl (.lp _ _ _ rfl) rfl) ?_
  refine sv rfl (opv_fieldAddr_lp fi51_1 rfl) ?_
  refine sv rfl (opv_load1 ti3 rfl (.lp _ _ _ rfl) rfl) ?_
  refine sv rfl (opv_fieldAddr_lp fi51_2 rfl) ?_
  refine sv rfl (opv_load1 ti3 rfl (.lp _ _ _ rfl) rfl) ?_
  refine sv rfl (opv_fieldAddr_lp fi51_3 rfl) ?_
  refine sv rfl (opv_load1 ti3 rfl (.lp _ _ _ rfl) rfl) ?_
  refine sv rfl (opv_fieldAddr_lp fi51_4 rfl) ?_
  refine sv rfl (opv_load1 ti4 rfl (.lp _ _ _ rfl) rfl) ?_
  refine sv rfl (opv_fieldAddr_lp fi51_5 rfl) ?_
  refine sv rfl (opv_load1 ti29 rfl (.lp _ _ _ rfl) rfl) ?_
  refine sv rfl (opv_fieldAddr_lp fi51_6 rfl) ?_
  refine sv rfl (opv_load1 ti29 rfl (.lp _ _ _ rfl) rfl) ?_
  refine sv rfl (opv_fieldAddr_lp fi51_7 rfl) ?_
  refine sv rfl (opv_loadN ti31 rfl (.lp _ _ _ rfl) (Nat.le_of_ble_eq_true rfl)) ?_
  refine sv rfl (opv_build zi33 pi33 (parts_cons rfl (parts_cons rfl (parts_cons rfl (parts_cons rfl (parts_cons rfl (parts_cons rfl (parts_cons rfl (parts_cons rfl parts_nil)))))))) (bcons [.i .i64 a0.Kind, .i .i64 0, .i .i64 0, .i .i64 0, .b false, .raw (.slice none 0 0), .raw (.slice none 0 0), .raw (.slice none 0 0), .raw (.slice none 0 0), .b false] rfl rfl (Nat.le_of_ble_eq_true rfl) rfl (bcons [.i .i64 a0.Kind, .i .i64 a0.Seq, .i .i64 0, .i .i64 0, .b false, .raw (.slice none 0 0), .raw (.slice none 0 0), .raw (.slice none 0 0), .raw (.slice none 0 0), .b false] rfl rfl (Nat.le_of_ble_eq_true rfl) rfl (bcons [.i .i64 a0.Kind, .i .i64 a0.Seq, .i .i64 a0.Token, .i .i64 0, .b false, .raw (.slice none 0 0), .raw (.slice none 0 0), .raw (.slice none 0 0), .raw (.slice none 0 0), .b false] rfl rfl (Nat.le_of_ble_eq_true rfl) rfl (bcons [.i .i64 a0.Kind, .i .i64 a0.Seq, .i .i64 a0.Token, .i .i64 a0.Attempt, .b false, .raw (.slice none 0 0), .raw (.slice none 0 0), .raw (.slice none 0 0), .raw (.slice none 0 0), .b false] rfl rfl (Nat.le_of_ble_eq_true rfl) rfl (bcons [.i .i64 a0.Kind, .i .i64 a0.Seq, .i .i64 a0.Token, .i .i64 a0.Attempt, .b a0.RO, .raw (.slice none 0 0), .raw (.slice none 0 0), .raw (.slice none 0 0), .raw (.slice none 0 0), .b false] rfl rfl (Nat.le_of_ble_eq_true rfl) rfl (bcons [.i .i64 a0.Kind, .i .i64 a0.Seq, .i .i64 a0.Token, .i .i64 a0.Attempt, .b a0.RO, .sl a0.Key.length (a0.Key.flatMap eU8), .raw (.slice none 0 0), .raw (.slice none 0 0), .raw (.slice none 0 0), .b false] rfl rfl (Nat.le_of_ble_eq_true rfl) rfl (bcons [.i .i64 a0.Kind, .i .i64 a0.Seq, .i .i64 a0.Token, .i .i64 a0.Attempt, .b a0.RO, .sl a0.Key.length (a0.Key.flatMap eU8), .sl a0.Val.length (a0.Val.flatMap eU8), .raw (.slice none 0 0), .raw (.slice none 0 0), .b false] rfl rfl (Nat.le_of_ble_eq_true rfl) rfl (bcons [.i .i64 a0.Kind, .i .i64 a0.Seq, .i .i64 a0.Token, .i .i64 a0.Attempt, .b a0.RO, .sl a0.Key.length (a0.Key.flatMap eU8), .sl a0.Val.length (a0.Val.flatMap eU8), .sl a0.Rng.Lo.length (a0.Rng.Lo.flatMap eU8), .sl a0.Rng.Hi.length (a0.Rng.Hi.flatMap eU8), .b a0.Rng.Open] rfl rfl (Nat.le_of_ble_eq_true rfl) rfl (.nil _)))))))))) ?_
  refine sstore sz33 rfl rfl rfl rfl (Nat.le_of_ble_eq_true rfl) ?_
  refine smem [.box [.i .i64 a0.Kind, .i .i64 a0.Seq, .i .i64 a0.Token, .i .i64 a0.Attempt, .b a0.RO, .sl a0.Key.length (a0.Key.flatMap eU8), .sl a0.Val.length (a0.Val.flatMap eU8), .sl a0.Rng.Lo.length (a0.Rng.Lo.flatMap eU8), .sl a0.Rng.Hi.length (a0.Rng.Hi.flatMap eU8), .b a0.Rng.Open], .box [.i .i64 a0.Kind, .i .i64 a0.Seq, .i .i64 a0.Token, .i .i64 a0.Attempt, .b a0.RO, .sl a0.Key.length (a0.Key.flatMap eU8), .sl a0.Val.length (a0.Val.flatMap eU8), .sl a0.Rng.Lo.length (a0.Rng.Lo.flatMap eU8), .sl a0.Rng.Hi.length (a0.Rng.Hi.flatMap eU8), .b a0.Rng.Open]] rfl ?_
  refine snil ?_
  refine cret ?_
  obtain rfl := Option.some.inj h
  refine ⟨Or.inr rfl, _, _, _, (resVs_cons (ResV.agg _ _ _ _ _ ti33 rfl (.lp _ _ _ rfl) (Nat.le_of_ble_eq_true rfl)) resVs_nil), (pubA_id rfl), ?_⟩
  rfl

def m24_l16_told (a0 : GMsgReply) : Option GR05Reply :=
  some (GR05Reply.mk a0.Kind a0.Seq a0.Code a0.N a0.Found a0.Val a0.List)

set_option maxRecDepth 100000 in
theorem m24_l16_told_c {a0 : GMsgReply} {r : GR05Reply} (h : m24_l16_told a0 = some r) : CallsA Tryd.prog 24 [.agg [.i .i64 a0.Kind, .i .i64 a0.Seq, .i .i64 a0.Code, .i .i64 a0.N, .b a0.Found, .sl a0.Val.length (a0.Val.flatMap eU8), .sl a0.List.length (a0.List.flatMap eGApiKV)]] (· = .s (.agg [.i .i64 r.Kind, .i .i64 r.Seq, .i .i64 r.Code, .i .i64 r.N, .b r.Found, .sl r.Val.length (r.Val.flatMap eU8), .sl r.List.length (r.List.flatMap eGApiKV)])) := by
  unfold m24_l16_told at h
  refine callsA_of Tryd.func24 rfl (nt := 18) rfl (Nat.le_of_ble_eq_true rfl) ?_
  intro w0 S0
  refine cseq ?_
  refine cregion ?_
  refine sbox rfl rfl ?_
  refine salloc rfl zi37 ?_
  refine snil ?_
  refine cseq ?_
  refine cregion ?_
  refine sv rfl (opv_fieldAddr_lp fi48_0 rfl) ?_
  refine sv rfl (opv_load1 ti3 rfl (.lp _ _ _ rfl) rfl) ?_
  refine sv rfl (opv_fieldAddr_lp fi48_1 rfl) ?_
  refine sv rfl (opv_load1 ti3 rfl (.lp _ _ _ rfl) rfl) ?_
  refine sv rfl (opv_fieldAddr_lp fi48_2 rfl) ?_
  refine sv rfl (opv_load1 ti34 rfl (.lp _ _ _ rfl) rfl) ?_
  refine sv rfl (opv_fieldAddr_lp fi48_3 rfl) ?_
  refine sv rfl (opv_load1 ti3 rfl (.lp _ _ _ rfl) rfl) ?_
  refine sv rfl (opv_fieldAddr_lp fi48_4 rfl) ?_
  refine sv rfl (opv_load1 ti4 rfl (.lp _ _ _ rfl) rfl) ?_
  refine sv rfl (opv_fieldAddr_lp fi48_5 rfl) ?_
  refine sv rfl (opv_load1 ti29 rfl (.lp _ _ _ rfl) rfl) ?_
  refine sv rfl (opv_fieldAddr_lp fi48_6 rfl) ?_
  refine sv rfl (opv_load1 ti35 rfl (.lp _ _ _ rfl) rfl) ?_
  refine sv rfl (opv_build zi37 pi37 (parts_cons rfl (parts_cons rfl (parts_cons rfl (parts_cons rfl (parts_cons rfl (parts_cons rfl (parts_cons rfl parts_nil))))))) (bcons [.i .i64 a0.Kind, .i .i64 0, .i .i64 0, .i .i64 0, .b false, .raw (.slice none 0 0), .raw (.slice none 0 0)] rfl rfl (Nat.le_of_ble_eq_true rfl) rfl (bcons [.i .i64 a0.Kind, .i .i64 a0.Seq, .i .i64 0, .i .i64 0, .b false, .raw (.slice none 0 0), .raw (.slice none 0 0)] rfl rfl (Nat.le_of_ble_eq_true rfl) rfl (bcons [.i .i64 a0.Kind, .i .i64 a0.Seq, .i .i64 a0.Code, .i .i64 0, .b false, .raw (.slice none 0 0), .raw (.slice none 0 0)] rfl rfl (Nat.le_of_ble_eq_true rfl) rfl (bcons [.i .i64 a0.Kind, .i .i64 a0.Seq, .i .i64 a0.Code, .i .i64 a0.N, .b false, .raw (.slice none 0 0), .raw (.slice none 0 0)] rfl rfl (Nat.le_of_ble_eq_true rfl) rfl (bcons [.i .i64 a0.Kind, .i .i64 a0.Seq, .i .i64 a0.Code, .i .i64 a0.N, .b a0.Found, .raw (.slice none 0 0), .raw (.slice none 0 0)] rfl rfl (Nat.le_of_ble_eq_true rfl) rfl (bcons [.i .i64 a0.Kind, .i .i64 a0.Seq, .i .i64 a0.Code, .i .i64 a0.N, .b a0.Found, .sl a0.Val.length (a0.Val.flatMap eU8), .raw (.slice none 0 0)] rfl rfl (Nat.le_of_ble_eq_true rfl) rfl (bcons [.i .i64 a0.Kind, .i .i64 a0.Seq, .i .i64 a0.Code, .i .i64 a0.N, .b a0.Found, .sl a0.Val.length (a0.Val.flatMap eU8), .sl a0.List.length (a0.List.flatMap eGApiKV)] rfl rfl (Nat.le_of_ble_eq_true rfl) rfl (.nil _))))))))) ?_
  refine sstore sz37 rfl rfl rfl rfl (Nat.le_of_ble_eq_true rfl) ?_
  refine smem [.box [.i .i64 a0.Kind, .i .i64 a0.Seq, .i .i64 a0.Code, .i .i64 a0.N, .b a0.Found, .sl a0.Val.length (a0.Val.flatMap eU8), .sl a0.List.length (a0.List.flatMap eGApiKV)], .box [.i .i64 a0.Kind, .i .i64 a0.Seq, .i .i64 a0.Code, .i .i64 a0.N, .b a0.Found, .sl a0.Val.length (a0.Val.flatMap eU8), .sl a0.List.length (a0.List.flatMap eGApiKV)]] rfl ?_
  refine snil ?_
  refine cret ?_
  obtain rfl := Option.some.inj h
  refine ⟨Or.inr rfl, _, _, _, (resVs_cons (ResV.agg _ _ _ _ _ ti37 rfl (.lp _ _ _ rfl) (Nat.le_of_ble_eq_true rfl)) resVs_nil), (pubA_id rfl), ?_⟩
  rfl

def m22_l16_theirs_k2 (a0 : GPipePipe) (b1 : (List GR05Req)) (b2 : (List GR05Reply)) : Option GR16Pipe :=
  some (GR16Pipe.mk (GR15Window.mk a0.Win.Base a0.Win.Bits) a0.Next b1 b2)

def m22_l16_theirs_s3 (a0 : GPipePipe) (s3 : Int × (List GR05Reply)) : Option (LB (Int × (List GR05Reply)) ((List GR05Reply))) :=
  if (decide (s3.1 < (a0.Past.length : Int))) then ((idx a0.Past s3.1).bind fun u4 => (m24_l16_told u4).bind fun v5 => if (s3.2.length + ([v5] : List GR05Reply).length) * 88 ≤ 140737488355328 then (some (.cont ((wI (s3.1 + 1)), (s3.2 ++ ([v5] : List GR05Reply))))) else none) else (some (.brk s3.2))

def m22_l16_theirs_k1 (a0 : GPipePipe) (b1 : (List GR05Req)) : Option GR16Pipe :=
  (iterB (m22_l16_theirs_s3 a0) fuel (0, ([] : List GR05Reply))).bind fun e7 => m22_l16_theirs_k2 a0 b1 e7

def m22_l16_theirs_s8 (a0 : GPipePipe) (s8 : Int × (List GR05Req)) : Option (LB (Int × (List GR05Req)) ((List GR05Req))) :=
  if (decide (s8.1 < (a0.Wait.length : Int))) then ((idx a0.Wait s8.1).bind fun u9 => (m26_l16_asked (GMsgReq.mk u9.Kind u9.Seq u9.Token u9.Attempt u9.RO u9.Key u9.Val (GApiRange.mk u9.Rng.Lo u9.Rng.Hi u9.Rng.Open))).bind fun v10 => if (s8.2.length + ([(GR05Req.mk v10.Kind v10.Seq v10.Token v10.Attempt v10.RO v10.Key v10.Val (GApiRange.mk v10.Rng.Lo v10.Rng.Hi v10.Rng.Open))] : List GR05Req).length) * 144 ≤ 140737488355328 then (some (.cont ((wI (s8.1 + 1)), (s8.2 ++ ([(GR05Req.mk v10.Kind v10.Seq v10.Token v10.Attempt v10.RO v10.Key v10.Val (GApiRange.mk v10.Rng.Lo v10.Rng.Hi v10.Rng.Open))] : List GR05Req))))) else none) else (some (.brk s8.2))
def m22_l16_theirs (a0 : GPipePipe) : Option GR16Pipe :=
  (iterB (m22_l16_theirs_s8 a0) fuel (0, ([] : List GR05Req))).bind fun e12 => m22_l16_theirs_k1 a0 e12

set_option maxRecDepth 100000 in
theorem m22_l16_theirs_c {a0 : GPipePipe} {r : GR16Pipe} (h : m22_l16_theirs a0 = some r) : CallsA Tryd.prog 22 [.agg [.i .i64 a0.Win.Base, .i .u64 (a0.Win.Bits.toNat : Int), .i .i64 a0.Next, .sl a0.Wait.length (a0.Wait.flatMap eGMsgReq), .sl a0.Past.length (a0.Past.flatMap eGMsgReply)]] (· = .s (.agg [.i .i64 r.Win.Base, .i .u64 (r.Win.Bits.toNat : Int), .i .i64 r.Next, .sl r.Wait.length (r.Wait.flatMap eGR05Req), .sl r.Past.length (r.Past.flatMap eGR05Reply)])) := by
  unfold m22_l16_theirs at h
  refine callsA_of Tryd.func22 rfl (nt := 53) rfl (Nat.le_of_ble_eq_true rfl) ?_
  intro w0 S0
  refine cseq ?_
  refine cregion ?_
  refine sbox rfl rfl ?_
  refine salloc rfl zi28 ?_
  refine snil ?_
  refine cseq ?_
  refine cregion ?_
  refine sv rfl (opv_fieldAddr_lp fi46_0 rfl) ?_
  refine sv rfl (opv_fieldAddr_lp fi42_0 rfl) ?_
  refine sv rfl (opv_load1 ti3 rfl (.lp _ _ _ rfl) rfl) ?_
  refine sv rfl (opv_fieldAddr_lp fi46_0 rfl) ?_
  refine sv rfl (opv_fieldAddr_lp fi42_1 rfl) ?_
  refine sv rfl (opv_load1 ti22 rfl (.lp _ _ _ rfl) rfl) ?_
  refine sv rfl (opv_build zi24 pi24 (parts_cons rfl (parts_cons rfl parts_nil)) (.cons _ _ _ _ _ _ _ rfl rfl (Nat.le_of_ble_eq_true rfl) (.cons _ _ _ _ _ _ _ rfl rfl (Nat.le_of_ble_eq_true rfl) (.nil _)))) ?_
  refine sv rfl (opv_fieldAddr_lp fi46_1 rfl) ?_
  refine sv rfl (opv_load1 ti3 rfl (.lp _ _ _ rfl) rfl) ?_
  refine sv rfl (opv_build zi28 pi28 (parts_cons rfl (parts_cons rfl parts_nil)) (.cons _ _ _ _ _ _ _ rfl rfl (Nat.le_of_ble_eq_true rfl) (.cons _ _ _ _ _ _ _ rfl rfl (Nat.le_of_ble_eq_true rfl) (.nil _)))) ?_
  refine salloc rfl zi28 ?_
  refine sstore sz28 rfl rfl rfl rfl (Nat.le_of_ble_eq_true rfl) ?_
  refine smem [.box [.i .i64 a0.Win.Base, .i .u64 (a0.Win.Bits.toNat : Int), .i .i64 a0.Next, .sl a0.Wait.length (a0.Wait.flatMap eGMsgReq), .sl a0.Past.length (a0.Past.flatMap eGMsgReply)], .box [.i .i64 0, .i .u64 ((0#64).toNat : Int), .i .i64 0, .raw (.slice none 0 0), .raw (.slice none 0 0)], .box [.i .i64 a0.Win.Base, .i .u64 (a0.Win.Bits.toNat : Int), .i .i64 a0.Next, .raw (.slice none 0 0), .raw (.slice none 0 0)]] rfl ?_
  refine snil ?_
  refine cseq ?_
  refine cseq ?_
  refine cregion ?_
  refine sv rfl (opv_as rfl) ?_
  refine snil ?_
  refine sadopt_box_c 33 10 2 3 (by decide) rfl rfl ?_
  refine cjoin ((List GR05Req)) (fun b1 => [(1, .s (.one (.lp 0 0))), (2, .s (.one (.lp 1 0))), (3, .s (.one (.lp 2 0)))]) (fun b1 => [.box [.i .i64 a0.Win.Base, .i .u64 (a0.Win.Bits.toNat : Int), .i .i64 a0.Next, .sl a0.Wait.length (a0.Wait.flatMap eGMsgReq), .sl a0.Past.length (a0.Past.flatMap eGMsgReply)], .box [.i .i64 0, .i .u64 ((0#64).toNat : Int), .i .i64 0, .raw (.slice none 0 0), .raw (.slice none 0 0)], .box [.i .i64 a0.Win.Base, .i .u64 (a0.Win.Bits.toNat : Int), .i .i64 a0.Next, .ls 3 b1.length, .raw (.slice none 0 0)], .arr 33 10 0 (b1.flatMap eGR05Req)]) (fun b1 => m22_l16_theirs_k1 a0 b1 = some r) (fun _ _ => inbL_of rfl) (fun _ _ => blkinb_of rfl) (fun _ _ => Nat.le_of_ble_eq_true rfl) (fun b1 h => ?_) ?_
  · unfold m22_l16_theirs_k1 at h
    refine cseq ?_
    refine cseq ?_
    refine cregion ?_
    refine sv rfl (opv_as rfl) ?_
    refine snil ?_
    refine sadopt_box_c 37 7 2 4 (by decide) rfl rfl ?_
    refine cjoin ((List GR05Reply)) (fun b2 => [(2, .s (.one (.lp 1 0))), (3, .s (.one (.lp 2 0)))]) (fun b2 => [.box [.i .i64 a0.Win.Base, .i .u64 (a0.Win.Bits.toNat : Int), .i .i64 a0.Next, .sl a0.Wait.length (a0.Wait.flatMap eGMsgReq), .sl a0.Past.length (a0.Past.flatMap eGMsgReply)], .box [.i .i64 0, .i .u64 ((0#64).toNat : Int), .i .i64 0, .raw (.slice none 0 0), .raw (.slice none 0 0)], .box [.i .i64 a0.Win.Base, .i .u64 (a0.Win.Bits.toNat : Int), .i .i64 a0.Next, .ls 3 b1.length, .ls 4 b2.length], .arr 33 10 0 (b1.flatMap eGR05Req), .arr 37 7 0 (b2.flatMap eGR05Reply)]) (fun b2 => m22_l16_theirs_k2 a0 b1 b2 = some r) (fun _ _ => inbL_of rfl) (fun _ _ => blkinb_of rfl) (fun _ _ => Nat.le_of_ble_eq_true rfl) (fun b2 h => ?_) ?_
    · unfold m22_l16_theirs_k2 at h
      refine cseq ?_
      refine cregion ?_
      refine sv rfl (opv_loadN ti28 rfl (.lp _ _ _ rfl) (Nat.le_of_ble_eq_true rfl)) ?_
      refine sstore sz28 rfl rfl rfl rfl (Nat.le_of_ble_eq_true rfl) ?_
      refine smem [.box [.i .i64 a0.Win.Base, .i .u64 (a0.Win.Bits.toNat : Int), .i .i64 a0.Next, .sl a0.Wait.length (a0.Wait.flatMap eGMsgReq), .sl a0.Past.length (a0.Past.flatMap eGMsgReply)], .box [.i .i64 a0.Win.Base, .i .u64 (a0.Win.Bits.toNat : Int), .i .i64 a0.Next, .ls 3 b1.length, .ls 4 b2.length], .box [.i .i64 a0.Win.Base, .i .u64 (a0.Win.Bits.toNat : Int), .i .i64 a0.Next, .ls 3 b1.length, .ls 4 b2.length], .arr 33 10 0 (b1.flatMap eGR05Req), .arr 37 7 0 (b2.flatMap eGR05Reply)] rfl ?_
      refine snil ?_
      refine cret ?_
      obtain rfl := Option.some.inj h
      refine ⟨Or.inr rfl, _, _, _, (resVs_cons (ResV.agg _ _ _ _ _ ti28 rfl (.lp _ _ _ rfl) (Nat.le_of_ble_eq_true rfl)) resVs_nil), (by (repeat' first | exact PubA.nil _ | apply PubA.cons | apply PubV.one | apply PubV.agg | exact PubL.nil | exact PubL.ls _ _ _ _ _ _ rfl (flat_len (f := eGR05Reply) (fun _ => rfl) _).symm | exact PubL.ls _ _ _ _ _ _ rfl (flat_len (f := eGR05Req) (fun _ => rfl) _).symm | exact PubL.id _ rfl | exact PubLs.nil _ | apply PubLs.cons)), ?_⟩
      rfl
    · skip
      refine cblock ?_
      obtain ⟨x3, hx3, ho3⟩ := bind_eq h
      refine awc_loop (G := Nat × (Int × (List GR05Reply))) (fun g => [(1, .s (.one (.lp 0 0))), (2, .s (.one (.lp 1 0))), (3, .s (.one (.lp 2 0))), (5, .s (.one (.i .i64 g.2.1)))]) (fun g => [.box [.i .i64 a0.Win.Base, .i .u64 (a0.Win.Bits.toNat : Int), .i .i64 a0.Next, .sl a0.Wait.length (a0.Wait.flatMap eGMsgReq), .sl a0.Past.length (a0.Past.flatMap eGMsgReply)], .box [.i .i64 0, .i .u64 ((0#64).toNat : Int), .i .i64 0, .raw (.slice none 0 0), .raw (.slice none 0 0)], .box [.i .i64 a0.Win.Base, .i .u64 (a0.Win.Bits.toNat : Int), .i .i64 a0.Next, .ls 3 b1.length, .ls 4 g.2.2.length], .arr 33 10 0 (b1.flatMap eGR05Req), .arr 37 7 0 (g.2.2.flatMap eGR05Reply)]) (fun g => iterB (m22_l16_theirs_s3 a0) g.1 g.2 = some x3) (fun g => g.1) (fuel, (0, ([] : List GR05Reply))) hx3 ⟨rfl, rfl, rfl, rfl, trivial⟩ [] rfl (fun _ _ => inbL_of rfl) (fun _ _ => blkinb_of rfl) (fun _ _ => Nat.le_of_ble_eq_true rfl) ?_
      clear hx3 h
      rintro ⟨n3, s3⟩ h
      obtain ⟨n3, y3, rfl, h, hk3⟩ := iterB_eq h
      unfold m22_l16_theirs_s3 at h
      refine cseq ?_
      refine cseq ?_
      refine cregion ?_
      refine sv rfl (opv_mv rfl) ?_
      refine sv rfl (opv_fieldAddr_lp fi46_3 rfl) ?_
      refine sv rfl (opv_load1 ti44 rfl (.lp _ _ _ rfl) rfl) ?_
      refine sv rfl (opv_len_sl si44 rfl) ?_
      refine sv rfl (opv_lss rfl rfl) ?_
      refine snil ?_
      refine ccond rfl (fun hc => ?_) (fun hc => ?_)
      · replace h := ite_t hc h
        clear hc
        refine cskip ?_
        refine then_normal ?_
        refine cseq ?_
        refine cblock ?_
        obtain ⟨u4, hu4, h⟩ := bind_eq h
        obtain ⟨v5, hv5, h⟩ := bind_eq h
        obtain ⟨hb6, h⟩ := chk_eq h
        refine cdraw_e [9, 11] [0, 1, 0, 4, 0, 28, 60, 124, 252, 511, 1023, 2047] [[.box [.i .i64 a0.Win.Base, .i .u64 (a0.Win.Bits.toNat : Int), .i .i64 a0.Next, .sl a0.Wait.length (a0.Wait.flatMap eGMsgReq), .sl a0.Past.length (a0.Past.flatMap eGMsgReply)], .box [.i .i64 0, .i .u64 ((0#64).toNat : Int), .i .i64 0, .raw (.slice none 0 0), .raw (.slice none 0 0)], .box [.i .i64 a0.Win.Base, .i .u64 (a0.Win.Bits.toNat : Int), .i .i64 a0.Next, .ls 3 b1.length, .ls 4 s3.2.length], .arr 33 10 0 (b1.flatMap eGR05Req), .arr 37 7 0 (s3.2.flatMap eGR05Reply)], [.box [.i .i64 a0.Win.Base, .i .u64 (a0.Win.Bits.toNat : Int), .i .i64 a0.Next, .sl a0.Wait.length (a0.Wait.flatMap eGMsgReq), .sl a0.Past.length (a0.Past.flatMap eGMsgReply)], .box [.i .i64 0, .i .u64 ((0#64).toNat : Int), .i .i64 0, .raw (.slice none 0 0), .raw (.slice none 0 0)], .box [.i .i64 a0.Win.Base, .i .u64 (a0.Win.Bits.toNat : Int), .i .i64 a0.Next, .ls 3 b1.length, .ls 4 s3.2.length], .arr 33 10 0 (b1.flatMap eGR05Req), .arr 37 7 0 ((s3.2 ++ ([v5] : List GR05Reply)).flatMap eGR05Reply)], [.box [.i .i64 a0.Win.Base, .i .u64 (a0.Win.Bits.toNat : Int), .i .i64 a0.Next, .sl a0.Wait.length (a0.Wait.flatMap eGMsgReq), .sl a0.Past.length (a0.Past.flatMap eGMsgReply)], .box [.i .i64 0, .i .u64 ((0#64).toNat : Int), .i .i64 0, .raw (.slice none 0 0), .raw (.slice none 0 0)], .box [.i .i64 a0.Win.Base, .i .u64 (a0.Win.Bits.toNat : Int), .i .i64 a0.Next, .ls 3 b1.length, .ls 4 (s3.2 ++ ([v5] : List GR05Reply)).length], .arr 33 10 0 (b1.flatMap eGR05Req), .arr 37 7 0 ((s3.2 ++ ([v5] : List GR05Reply)).flatMap eGR05Reply)]] (by kernel_rfl) mixed (by kernel_rfl) (by decide) rfl rfl rfl rfl ?_
        refine ev (sees_at 0 rfl rfl) rfl rfl (opv_fieldAddr_lp fi28_3 rfl) ?_
        refine ev (sees_at 0 rfl rfl) rfl rfl (opv_load1 ti26 rfl (.lp _ _ _ rfl) rfl) ?_
        refine ev (sees_at 0 rfl rfl) rfl rfl (opv_fieldAddr_lp fi46_3 rfl) ?_
        refine ev (sees_at 0 rfl rfl) rfl rfl (opv_load1 ti44 rfl (.lp _ _ _ rfl) rfl) ?_
        refine ev (sees_at 0 rfl rfl) rfl rfl (opv_mv rfl) ?_
        refine ev (sees_at 0 rfl rfl) rfl rfl (opv_ix (f := eGMsgReply) si44 (fun _ => rfl) rfl rfl rfl rfl hu4) ?_
        refine ev (sees_at 0 rfl rfl) rfl rfl (opv_loadNe (ys := [.i .i64 u4.Kind, .i .i64 u4.Seq, .i .i64 u4.Code, .i .i64 u4.N, .b u4.Found, .sl u4.Val.length (u4.Val.flatMap eU8), .sl u4.List.length (u4.List.flatMap eGApiKV)]) ti48 rfl (.cp _) rfl rfl) ?_
        refine ed (sees_at 0 rfl rfl) rfl rfl (opD_call fn24 (opnds_cons rfl opnds_nil) rfl (m24_l16_told_c hv5)) ?_
        refine ed (sees_at 0 rfl rfl) rfl rfl (opD_bld (out := ([v5] : List GR05Reply).flatMap eGR05Reply) Tryd.underlying26 ei37 (parts_cons rfl parts_nil) (.cons _ _ _ _ _ _ _ rfl rfl (Nat.le_of_ble_eq_true rfl) (.nil _)) rfl (by decide)) ?_
        refine ee (x := .s (.one (.ls 4 (s3.2 ++ ([v5] : List GR05Reply)).length))) 0 rfl rfl rfl rfl rfl (fun ζ => ?_) ?_
        · refine sapp (f := eGR05Reply) (xs := s3.2) (us := ([v5] : List GR05Reply)) rfl Tryd.underlying26 ei37 ni26 (fun _ => rfl) rfl rfl (.one _ _ _ _ (.id _ rfl)) rfl rfl rfl (.sl _ _ _ (flat_len (f := eGR05Reply) (fun _ => rfl) _)) rfl rfl hb6 (by decide) ?_
          exact eend
        refine ev (sees_at 1 rfl rfl) rfl rfl (opv_fieldAddr_lp fi28_3 rfl) ?_
        refine ee0 1 rfl rfl rfl rfl (fun ζ => ?_) ?_
        · refine sstore sz26 rfl rfl rfl rfl (Nat.le_of_ble_eq_true rfl) ?_
          refine smem [.box [.i .i64 a0.Win.Base, .i .u64 (a0.Win.Bits.toNat : Int), .i .i64 a0.Next, .sl a0.Wait.length (a0.Wait.flatMap eGMsgReq), .sl a0.Past.length (a0.Past.flatMap eGMsgReply)], .box [.i .i64 0, .i .u64 ((0#64).toNat : Int), .i .i64 0, .raw (.slice none 0 0), .raw (.slice none 0 0)], .box [.i .i64 a0.Win.Base, .i .u64 (a0.Win.Bits.toNat : Int), .i .i64 a0.Next, .ls 3 b1.length, .ls 4 (s3.2 ++ ([v5] : List GR05Reply)).length], .arr 33 10 0 (b1.flatMap eGR05Req), .arr 37 7 0 ((s3.2 ++ ([v5] : List GR05Reply)).flatMap eGR05Reply)] rfl ?_
          exact eend
        refine enil ?_
        refine block_normal ?_
        refine then_normal ?_
        refine cregion ?_
        refine sv rfl (opv_mv rfl) ?_
        refine sv rfl (opv_add rfl rfl) ?_
        refine sv rfl (opv_as rfl) ?_
        refine snil ?_
        obtain rfl := Option.some.inj h
        exact ⟨(n3, ((wI (s3.1 + 1)), (s3.2 ++ ([v5] : List GR05Reply)))), _, hk3, ⟨rfl, rfl, rfl, rfl, trivial⟩, rfl, Nat.lt_succ_self _⟩
      · replace h := ite_f hc h
        clear hc
        refine cexit ?_
        refine then_exit ?_
        refine then_exit ?_
        refine block_hit ?_
        refine then_normal ?_
        obtain rfl := Option.some.inj h
        obtain rfl : _ = x3 := hk3
        exact ⟨s3.2, _, ho3, ⟨rfl, rfl, trivial⟩, rfl⟩
  · skip
    refine cblock ?_
    obtain ⟨x8, hx8, ho8⟩ := bind_eq h
    refine awc_loop (G := Nat × (Int × (List GR05Req))) (fun g => [(1, .s (.one (.lp 0 0))), (2, .s (.one (.lp 1 0))), (3, .s (.one (.lp 2 0))), (4, .s (.one (.i .i64 g.2.1)))]) (fun g => [.box [.i .i64 a0.Win.Base, .i .u64 (a0.Win.Bits.toNat : Int), .i .i64 a0.Next, .sl a0.Wait.length (a0.Wait.flatMap eGMsgReq), .sl a0.Past.length (a0.Past.flatMap eGMsgReply)], .box [.i .i64 0, .i .u64 ((0#64).toNat : Int), .i .i64 0, .raw (.slice none 0 0), .raw (.slice none 0 0)], .box [.i .i64 a0.Win.Base, .i .u64 (a0.Win.Bits.toNat : Int), .i .i64 a0.Next, .ls 3 g.2.2.length, .raw (.slice none 0 0)], .arr 33 10 0 (g.2.2.flatMap eGR05Req)]) (fun g => iterB (m22_l16_theirs_s8 a0) g.1 g.2 = some x8) (fun g => g.1) (fuel, (0, ([] : List GR05Req))) hx8 ⟨rfl, rfl, rfl, rfl, trivial⟩ [] rfl (fun _ _ => inbL_of rfl) (fun _ _ => blkinb_of rfl) (fun _ _ => Nat.le_of_ble_eq_true rfl) ?_
    clear hx8 h
    rintro ⟨n8, s8⟩ h
    obtain ⟨n8, y8, rfl, h, hk8⟩ := iterB_eq h
    unfold m22_l16_theirs_s8 at h
    refine cseq ?_
    refine cseq ?_
    refine cregion ?_
    refine sv rfl (opv_mv rfl) ?_
    refine sv rfl (opv_fieldAddr_lp fi46_2 rfl) ?_
    refine sv rfl (opv_load1 ti43 rfl (.lp _ _ _ rfl) rfl) ?_
    refine sv rfl (opv_len_sl si43 rfl) ?_
    refine sv rfl (opv_lss rfl rfl) ?_
    refine snil ?_
    refine ccond rfl (fun hc => ?_) (fun hc => ?_)
    · replace h := ite_t hc h
      clear hc
      refine cskip ?_
      refine then_normal ?_
      refine cseq ?_
      refine cblock ?_
      obtain ⟨u9, hu9, h⟩ := bind_eq h
      obtain ⟨v10, hv10, h⟩ := bind_eq h
      obtain ⟨hb11, h⟩ := chk_eq h
      refine cdraw_e [9, 11] [0, 1, 0, 4, 0, 28, 60, 124, 252, 511, 1023, 2047] [[.box [.i .i64 a0.Win.Base, .i .u64 (a0.Win.Bits.toNat : Int), .i .i64 a0.Next, .sl a0.Wait.length (a0.Wait.flatMap eGMsgReq), .sl a0.Past.length (a0.Past.flatMap eGMsgReply)], .box [.i .i64 0, .i .u64 ((0#64).toNat : Int), .i .i64 0, .raw (.slice none 0 0), .raw (.slice none 0 0)], .box [.i .i64 a0.Win.Base, .i .u64 (a0.Win.Bits.toNat : Int), .i .i64 a0.Next, .ls 3 s8.2.length, .raw (.slice none 0 0)], .arr 33 10 0 (s8.2.flatMap eGR05Req)], [.box [.i .i64 a0.Win.Base, .i .u64 (a0.Win.Bits.toNat : Int), .i .i64 a0.Next, .sl a0.Wait.length (a0.Wait.flatMap eGMsgReq), .sl a0.Past.length (a0.Past.flatMap eGMsgReply)], .box [.i .i64 0, .i .u64 ((0#64).toNat : Int), .i .i64 0, .raw (.slice none 0 0), .raw (.slice none 0 0)], .box [.i .i64 a0.Win.Base, .i .u64 (a0.Win.Bits.toNat : Int), .i .i64 a0.Next, .ls 3 s8.2.length, .raw (.slice none 0 0)], .arr 33 10 0 ((s8.2 ++ ([(GR05Req.mk v10.Kind v10.Seq v10.Token v10.Attempt v10.RO v10.Key v10.Val (GApiRange.mk v10.Rng.Lo v10.Rng.Hi v10.Rng.Open))] : List GR05Req)).flatMap eGR05Req)], [.box [.i .i64 a0.Win.Base, .i .u64 (a0.Win.Bits.toNat : Int), .i .i64 a0.Next, .sl a0.Wait.length (a0.Wait.flatMap eGMsgReq), .sl a0.Past.length (a0.Past.flatMap eGMsgReply)], .box [.i .i64 0, .i .u64 ((0#64).toNat : Int), .i .i64 0, .raw (.slice none 0 0), .raw (.slice none 0 0)], .box [.i .i64 a0.Win.Base, .i .u64 (a0.Win.Bits.toNat : Int), .i .i64 a0.Next, .ls 3 (s8.2 ++ ([(GR05Req.mk v10.Kind v10.Seq v10.Token v10.Attempt v10.RO v10.Key v10.Val (GApiRange.mk v10.Rng.Lo v10.Rng.Hi v10.Rng.Open))] : List GR05Req)).length, .raw (.slice none 0 0)], .arr 33 10 0 ((s8.2 ++ ([(GR05Req.mk v10.Kind v10.Seq v10.Token v10.Attempt v10.RO v10.Key v10.Val (GApiRange.mk v10.Rng.Lo v10.Rng.Hi v10.Rng.Open))] : List GR05Req)).flatMap eGR05Req)]] (by kernel_rfl) mixed (by kernel_rfl) (by decide) rfl rfl rfl rfl ?_
      refine ev (sees_at 0 rfl rfl) rfl rfl (opv_fieldAddr_lp fi28_2 rfl) ?_
      refine ev (sees_at 0 rfl rfl) rfl rfl (opv_load1 ti25 rfl (.lp _ _ _ rfl) rfl) ?_
      refine ev (sees_at 0 rfl rfl) rfl rfl (opv_fieldAddr_lp fi46_2 rfl) ?_
      refine ev (sees_at 0 rfl rfl) rfl rfl (opv_load1 ti43 rfl (.lp _ _ _ rfl) rfl) ?_
      refine ev (sees_at 0 rfl rfl) rfl rfl (opv_mv rfl) ?_
      refine ev (sees_at 0 rfl rfl) rfl rfl (opv_ix (f := eGMsgReq) si43 (fun _ => rfl) rfl rfl rfl rfl hu9) ?_
      refine ev (sees_at 0 rfl rfl) rfl rfl (opv_loadNe (ys := [.i .i64 u9.Kind, .i .i64 u9.Seq, .i .i64 u9.Token, .i .i64 u9.Attempt, .b u9.RO, .sl u9.Key.length (u9.Key.flatMap eU8), .sl u9.Val.length (u9.Val.flatMap eU8), .sl u9.Rng.Lo.length (u9.Rng.Lo.flatMap eU8), .sl u9.Rng.Hi.length (u9.Rng.Hi.flatMap eU8), .b u9.Rng.Open]) ti51 rfl (.cp _) rfl rfl) ?_
      refine ed (sees_at 0 rfl rfl) rfl rfl (opD_call fn26 (opnds_cons rfl opnds_nil) rfl (m26_l16_asked_c hv10)) ?_
      refine ed (sees_at 0 rfl rfl) rfl rfl (opD_bld (out := ([(GR05Req.mk v10.Kind v10.Seq v10.Token v10.Attempt v10.RO v10.Key v10.Val (GApiRange.mk v10.Rng.Lo v10.Rng.Hi v10.Rng.Open))] : List GR05Req).flatMap eGR05Req) Tryd.underlying25 ei33 (parts_cons rfl parts_nil) (.cons _ _ _ _ _ _ _ rfl rfl (Nat.le_of_ble_eq_true rfl) (.nil _)) rfl (by decide)) ?_
      refine ee (x := .s (.one (.ls 3 (s8.2 ++ ([(GR05Req.mk v10.Kind v10.Seq v10.Token v10.Attempt v10.RO v10.Key v10.Val (GApiRange.mk v10.Rng.Lo v10.Rng.Hi v10.Rng.Open))] : List GR05Req)).length))) 0 rfl rfl rfl rfl rfl (fun ζ => ?_) ?_
      · refine sapp (f := eGR05Req) (xs := s8.2) (us := ([(GR05Req.mk v10.Kind v10.Seq v10.Token v10.Attempt v10.RO v10.Key v10.Val (GApiRange.mk v10.Rng.Lo v10.Rng.Hi v10.Rng.Open))] : List GR05Req)) rfl Tryd.underlying25 ei33 ni25 (fun _ => rfl) rfl rfl (.one _ _ _ _ (.id _ rfl)) rfl rfl rfl (.sl _ _ _ (flat_len (f := eGR05Req) (fun _ => rfl) _)) rfl rfl hb11 (by decide) ?_
        exact eend
      refine ev (sees_at 1 rfl rfl) rfl rfl (opv_fieldAddr_lp fi28_2 rfl) ?_
      refine ee0 1 rfl rfl rfl rfl (fun ζ => ?_) ?_
      · refine sstore sz25 rfl rfl rfl rfl (Nat.le_of_ble_eq_true rfl) ?_
        refine smem [.box [.i .i64 a0.Win.Base, .i .u64 (a0.Win.Bits.toNat : Int), .i .i64 a0.Next, .sl a0.Wait.length (a0.Wait.flatMap eGMsgReq), .sl a0.Past.length (a0.Past.flatMap eGMsgReply)], .box [.i .i64 0, .i .u64 ((0#64).toNat : Int), .i .i64 0, .raw (.slice none 0 0), .raw (.slice none 0 0)], .box [.i .i64 a0.Win.Base, .i .u64 (a0.Win.Bits.toNat : Int), .i .i64 a0.Next, .ls 3 (s8.2 ++ ([(GR05Req.mk v10.Kind v10.Seq v10.Token v10.Attempt v10.RO v10.Key v10.Val (GApiRange.mk v10.Rng.Lo v10.Rng.Hi v10.Rng.Open))] : List GR05Req)).length, .raw (.slice none 0 0)], .arr 33 10 0 ((s8.2 ++ ([(GR05Req.mk v10.Kind v10.Seq v10.Token v10.Attempt v10.RO v10.Key v10.Val (GApiRange.mk v10.Rng.Lo v10.Rng.Hi v10.Rng.Open))] : List GR05Req)).flatMap eGR05Req)] rfl ?_
        exact eend
      refine enil ?_
      refine block_normal ?_
      refine then_normal ?_
      refine cregion ?_
      refine sv rfl (opv_mv rfl) ?_
      refine sv rfl (opv_add rfl rfl) ?_
      refine sv rfl (opv_as rfl) ?_
      refine snil ?_
      obtain rfl := Option.some.inj h
      exact ⟨(n8, ((wI (s8.1 + 1)), (s8.2 ++ ([(GR05Req.mk v10.Kind v10.Seq v10.Token v10.Attempt v10.RO v10.Key v10.Val (GApiRange.mk v10.Rng.Lo v10.Rng.Hi v10.Rng.Open))] : List GR05Req)))), _, hk8, ⟨rfl, rfl, rfl, rfl, trivial⟩, rfl, Nat.lt_succ_self _⟩
    · replace h := ite_f hc h
      clear hc
      refine cexit ?_
      refine then_exit ?_
      refine then_exit ?_
      refine block_hit ?_
      refine then_normal ?_
      obtain rfl := Option.some.inj h
      obtain rfl : _ = x8 := hk8
      exact ⟨s8.2, _, ho8, ⟨rfl, rfl, rfl, trivial⟩, rfl⟩

def m25_r05_SameReq (a0 : GR05Req) (a1 : GR05Req) : Option Bool :=
  if (decide (a0.Kind = a1.Kind)) then (if (decide (a0.Seq = a1.Seq)) then (if (decide (a0.Token = a1.Token)) then (if (decide (a0.Attempt = a1.Attempt)) then (if (a0.RO == a1.RO) then (if (a0.Key == a1.Key) then (if (a0.Val == a1.Val) then (if (a0.Rng.Lo == a1.Rng.Lo) then (if (a0.Rng.Hi == a1.Rng.Hi) then (some (a0.Rng.Open == a1.Rng.Open)) else (some false)) else (some false)) else (some false)) else (some false)) else (some false)) else (some false)) else (some false)) else (some false)) else (some false)

set_option maxRecDepth 100000 in
theorem m25_r05_SameReq_c {a0 : GR05Req} {a1 : GR05Req} {r : Bool} (h : m25_r05_SameReq a0 a1 = some r) : CallsA Tryd.prog 25 [.agg [.i .i64 a0.Kind, .i .i64 a0.Seq, .i .i64 a0.Token, .i .i64 a0.Attempt, .b a0.RO, .sl a0.Key.length (a0.Key.flatMap eU8), .sl a0.Val.length (a0.Val.flatMap eU8), .sl a0.Rng.Lo.length (a0.Rng.Lo.flatMap eU8), .sl a0.Rng.Hi.length (a0.Rng.Hi.flatMap eU8), .b a0.Rng.Open], .agg [.i .i64 a1.Kind, .i .i64 a1.Seq, .i .i64 a1.Token, .i .i64 a1.Attempt, .b a1.RO, .sl a1.Key.length (a1.Key.flatMap eU8), .sl a1.Val.length (a1.Val.flatMap eU8), .sl a1.Rng.Lo.length (a1.Rng.Lo.flatMap eU8), .sl a1.Rng.Hi.length (a1.Rng.Hi.flatMap eU8), .b a1.Rng.Open]] (· = .s (.one (.b r))) := by
  unfold m25_r05_SameReq at h
  refine callsA_of Tryd.func25 rfl (nt := 87) rfl (Nat.le_of_ble_eq_true rfl) ?_
  intro w0 S0
  refine cseq ?_
  refine cregion ?_
  refine sbox rfl rfl ?_
  refine sbox rfl rfl ?_
  refine sv rfl (opv_as rfl) ?_
  refine snil ?_
  refine cseq ?_
  refine cregion ?_
  refine sv rfl (opv_fieldAddr_lp fi33_0 rfl) ?_
  refine sv rfl (opv_load1 ti3 rfl (.lp _ _ _ rfl) rfl) ?_
  refine sv rfl (opv_fieldAddr_lp fi33_0 rfl) ?_
  refine sv rfl (opv_load1 ti3 rfl (.lp _ _ _ rfl) rfl) ?_
  refine sv rfl (opv_ieql rfl rfl) ?_
  refine sv rfl (opv_mv rfl) ?_
  refine ssplit 10 rfl (fun hc => ?_) (fun hc => ?_)
  · replace h := ite_t hc h
    clear hc
    refine son rfl rfl rfl ?_
    refine sv rfl (opv_fieldAddr_lp fi33_1 rfl) ?_
    refine son rfl rfl rfl ?_
    refine sv rfl (opv_load1 ti3 rfl (.lp _ _ _ rfl) rfl) ?_
    refine son rfl rfl rfl ?_
    refine sv rfl (opv_fieldAddr_lp fi33_1 rfl) ?_
    refine son rfl rfl rfl ?_
    refine sv rfl (opv_load1 ti3 rfl (.lp _ _ _ rfl) rfl) ?_
    refine son rfl rfl rfl ?_
    refine sv rfl (opv_ieql rfl rfl) ?_
    refine sv rfl (opv_pick_t rfl rfl) ?_
    refine sv rfl (opv_mv rfl) ?_
    refine ssplit 17 rfl (fun hc => ?_) (fun hc => ?_)
    · replace h := ite_t hc h
      clear hc
      refine son rfl rfl rfl ?_
      refine sv rfl (opv_fieldAddr_lp fi33_2 rfl) ?_
      refine son rfl rfl rfl ?_
      refine sv rfl (opv_load1 ti3 rfl (.lp _ _ _ rfl) rfl) ?_
      refine son rfl rfl rfl ?_
      refine sv rfl (opv_fieldAddr_lp fi33_2 rfl) ?_
      refine son rfl rfl rfl ?_
      refine sv rfl (opv_load1 ti3 rfl (.lp _ _ _ rfl) rfl) ?_
      refine son rfl rfl rfl ?_
      refine sv rfl (opv_ieql rfl rfl) ?_
      refine sv rfl (opv_pick_t rfl rfl) ?_
      refine sv rfl (opv_mv rfl) ?_
      refine ssplit 24 rfl (fun hc => ?_) (fun hc => ?_)
      · replace h := ite_t hc h
        clear hc
        refine son rfl rfl rfl ?_
        refine sv rfl (opv_fieldAddr_lp fi33_3 rfl) ?_
        refine son rfl rfl rfl ?_
        refine sv rfl (opv_load1 ti3 rfl (.lp _ _ _ rfl) rfl) ?_
        refine son rfl rfl rfl ?_
        refine sv rfl (opv_fieldAddr_lp fi33_3 rfl) ?_
        refine son rfl rfl rfl ?_
        refine sv rfl (opv_load1 ti3 rfl (.lp _ _ _ rfl) rfl) ?_
        refine son rfl rfl rfl ?_
        refine sv rfl (opv_ieql rfl rfl) ?_
        refine sv rfl (opv_pick_t rfl rfl) ?_
        refine sv rfl (opv_mv rfl) ?_
        refine ssplit 31 rfl (fun hc => ?_) (fun hc => ?_)
        · replace h := ite_t hc h
          clear hc
          refine son rfl rfl rfl ?_
          refine sv rfl (opv_fieldAddr_lp fi33_4 rfl) ?_
          refine son rfl rfl rfl ?_
          refine sv rfl (opv_load1 ti4 rfl (.lp _ _ _ rfl) rfl) ?_
          refine son rfl rfl rfl ?_
          refine sv rfl (opv_fieldAddr_lp fi33_4 rfl) ?_
          refine son rfl rfl rfl ?_
          refine sv rfl (opv_load1 ti4 rfl (.lp _ _ _ rfl) rfl) ?_
          refine son rfl rfl rfl ?_
          refine sv rfl (opv_beql Tryd.underlying4 rfl rfl) ?_
          refine sv rfl (opv_pick_t rfl rfl) ?_
          refine sv rfl (opv_mv rfl) ?_
          refine ssplit 38 rfl (fun hc => ?_) (fun hc => ?_)
          · replace h := ite_t hc h
            clear hc
            refine son rfl rfl rfl ?_
            refine sv rfl (opv_fieldAddr_lp fi33_5 rfl) ?_
            refine son rfl rfl rfl ?_
            refine sv rfl (opv_load1 ti29 rfl (.lp _ _ _ rfl) rfl) ?_
            refine son rfl rfl rfl ?_
            refine sv rfl (opv_bs (l := a0.Key) Tryd.underlying29 Tryd.underlying5 Tryd.underlying9 rfl rfl rfl) ?_
            refine son rfl rfl rfl ?_
            refine sv rfl (opv_fieldAddr_lp fi33_5 rfl) ?_
            refine son rfl rfl rfl ?_
            refine sv rfl (opv_load1 ti29 rfl (.lp _ _ _ rfl) rfl) ?_
            refine son rfl rfl rfl ?_
            refine sv rfl (opv_bs (l := a1.Key) Tryd.underlying29 Tryd.underlying5 Tryd.underlying9 rfl rfl rfl) ?_
            refine son rfl rfl rfl ?_
            refine sv rfl (opv_seql' rfl rfl) ?_
            refine sv rfl (opv_pick_t rfl rfl) ?_
            refine sv rfl (opv_mv rfl) ?_
            refine ssplit 47 rfl (fun hc => ?_) (fun hc => ?_)
            · replace h := ite_t hc h
              clear hc
              refine son rfl rfl rfl ?_
              refine sv rfl (opv_fieldAddr_lp fi33_6 rfl) ?_
              refine son rfl rfl rfl ?_
              refine sv rfl (opv_load1 ti29 rfl (.lp _ _ _ rfl) rfl) ?_
              refine son rfl rfl rfl ?_
              refine sv rfl (opv_bs (l := a0.Val) Tryd.underlying29 Tryd.underlying5 Tryd.underlying9 rfl rfl rfl) ?_
              refine son rfl rfl rfl ?_
              refine sv rfl (opv_fieldAddr_lp fi33_6 rfl) ?_
              refine son rfl rfl rfl ?_
              refine sv rfl (opv_load1 ti29 rfl (.lp _ _ _ rfl) rfl) ?_
              refine son rfl rfl rfl ?_
              refine sv rfl (opv_bs (l := a1.Val) Tryd.underlying29 Tryd.underlying5 Tryd.underlying9 rfl rfl rfl) ?_
              refine son rfl rfl rfl ?_
              refine sv rfl (opv_seql' rfl rfl) ?_
              refine sv rfl (opv_pick_t rfl rfl) ?_
              refine sv rfl (opv_mv rfl) ?_
              refine ssplit 56 rfl (fun hc => ?_) (fun hc => ?_)
              · replace h := ite_t hc h
                clear hc
                refine son rfl rfl rfl ?_
                refine sv rfl (opv_fieldAddr_lp fi33_7 rfl) ?_
                refine son rfl rfl rfl ?_
                refine sv rfl (opv_fieldAddr_lp fi31_0 rfl) ?_
                refine son rfl rfl rfl ?_
                refine sv rfl (opv_load1 ti29 rfl (.lp _ _ _ rfl) rfl) ?_
                refine son rfl rfl rfl ?_
                refine sv rfl (opv_bs (l := a0.Rng.Lo) Tryd.underlying29 Tryd.underlying5 Tryd.underlying9 rfl rfl rfl) ?_
                refine son rfl rfl rfl ?_
                refine sv rfl (opv_fieldAddr_lp fi33_7 rfl) ?_
                refine son rfl rfl rfl ?_
                refine sv rfl (opv_fieldAddr_lp fi31_0 rfl) ?_
                refine son rfl rfl rfl ?_
                refine sv rfl (opv_load1 ti29 rfl (.lp _ _ _ rfl) rfl) ?_
                refine son rfl rfl rfl ?_
                refine sv rfl (opv_bs (l := a1.Rng.Lo) Tryd.underlying29 Tryd.underlying5 Tryd.underlying9 rfl rfl rfl) ?_
                refine son rfl rfl rfl ?_
                refine sv rfl (opv_seql' rfl rfl) ?_
                refine sv rfl (opv_pick_t rfl rfl) ?_
                refine sv rfl (opv_mv rfl) ?_
                refine ssplit 67 rfl (fun hc => ?_) (fun hc => ?_)
                · replace h := ite_t hc h
                  clear hc
                  refine son rfl rfl rfl ?_
                  refine sv rfl (opv_fieldAddr_lp fi33_7 rfl) ?_
                  refine son rfl rfl rfl ?_
                  refine sv rfl (opv_fieldAddr_lp fi31_1 rfl) ?_
                  refine son rfl rfl rfl ?_
                  refine sv rfl (opv_load1 ti29 rfl (.lp _ _ _ rfl) rfl) ?_
                  refine son rfl rfl rfl ?_
                  refine sv rfl (opv_bs (l := a0.Rng.Hi) Tryd.underlying29 Tryd.underlying5 Tryd.underlying9 rfl rfl rfl) ?_
                  refine son rfl rfl rfl ?_
                  refine sv rfl (opv_fieldAddr_lp fi33_7 rfl) ?_
                  refine son rfl rfl rfl ?_
                  refine sv rfl (opv_fieldAddr_lp fi31_1 rfl) ?_
                  refine son rfl rfl rfl ?_
                  refine sv rfl (opv_load1 ti29 rfl (.lp _ _ _ rfl) rfl) ?_
                  refine son rfl rfl rfl ?_
                  refine sv rfl (opv_bs (l := a1.Rng.Hi) Tryd.underlying29 Tryd.underlying5 Tryd.underlying9 rfl rfl rfl) ?_
                  refine son rfl rfl rfl ?_
                  refine sv rfl (opv_seql' rfl rfl) ?_
                  refine sv rfl (opv_pick_t rfl rfl) ?_
                  refine sv rfl (opv_mv rfl) ?_
                  refine ssplit 78 rfl (fun hc => ?_) (fun hc => ?_)
                  · replace h := ite_t hc h
                    clear hc
                    refine son rfl rfl rfl ?_
                    refine sv rfl (opv_fieldAddr_lp fi33_7 rfl) ?_
                    refine son rfl rfl rfl ?_
                    refine sv rfl (opv_fieldAddr_lp fi31_2 rfl) ?_
                    refine son rfl rfl rfl ?_
                    refine sv rfl (opv_load1 ti4 rfl (.lp _ _ _ rfl) rfl) ?_
                    refine son rfl rfl rfl ?_
                    refine sv rfl (opv_fieldAddr_lp fi33_7 rfl) ?_
                    refine son rfl rfl rfl ?_
                    refine sv rfl (opv_fieldAddr_lp fi31_2 rfl) ?_
                    refine son rfl rfl rfl ?_
                    refine sv rfl (opv_load1 ti4 rfl (.lp _ _ _ rfl) rfl) ?_
                    refine son rfl rfl rfl ?_
                    refine sv rfl (opv_beql Tryd.underlying4 rfl rfl) ?_
                    refine sv rfl (opv_pick_t rfl rfl) ?_
                    refine sv rfl (opv_as rfl) ?_
                    refine snil ?_
                    refine cret ?_
                    obtain rfl := Option.some.inj h
                    refine ⟨Or.inr rfl, _, _, _, (resVs_cons (ResV.tmp _ _ rfl) resVs_nil), (pubA_id rfl), ?_⟩
                    rfl
                  · replace h := ite_f hc h
                    clear hc
                    refine soff rfl rfl rfl rfl ?_
                    refine soff rfl rfl rfl rfl ?_
                    refine soff rfl rfl rfl rfl ?_
                    refine soff rfl rfl rfl rfl ?_
                    refine soff rfl rfl rfl rfl ?_
                    refine soff rfl rfl rfl rfl ?_
                    refine soff rfl rfl rfl rfl ?_
                    refine sv rfl (opv_pick_f rfl rfl) ?_
                    refine sv rfl (opv_as rfl) ?_
                    refine snil ?_
                    refine cret ?_
                    obtain rfl := Option.some.inj h
                    refine ⟨Or.inr rfl, _, _, _, (resVs_cons (ResV.tmp _ _ rfl) resVs_nil), (pubA_id rfl), ?_⟩
                    rfl
                · replace h := ite_f hc h
                  clear hc
                  refine soff rfl rfl rfl rfl ?_
                  refine soff rfl rfl rfl rfl ?_
                  refine soff rfl rfl rfl rfl ?_
                  refine soff rfl rfl rfl rfl ?_
                  refine soff rfl rfl rfl rfl ?_
                  refine soff rfl rfl rfl rfl ?_
                  refine soff rfl rfl rfl rfl ?_
                  refine soff rfl rfl rfl rfl ?_
                  refine soff rfl rfl rfl rfl ?_
                  refine sv rfl (opv_pick_f rfl rfl) ?_
                  refine sv rfl (opv_mv rfl) ?_
                  refine soff rfl rfl rfl rfl ?_
                  refine soff rfl rfl rfl rfl ?_
                  refine soff rfl rfl rfl rfl ?_
                  refine soff rfl rfl rfl rfl ?_
                  refine soff rfl rfl rfl rfl ?_
                  refine soff rfl rfl rfl rfl ?_
                  refine soff rfl rfl rfl rfl ?_
                  refine sv rfl (opv_pick_f rfl rfl) ?_
                  refine sv rfl (opv_as rfl) ?_
                  refine snil ?_
                  refine cret ?_
                  obtain rfl := Option.some.inj h
                  refine ⟨Or.inr rfl, _, _, _, (resVs_cons (ResV.tmp _ _ rfl) resVs_nil), (pubA_id rfl), ?_⟩
                  rfl
              · replace h := ite_f hc h
                clear hc
                refine soff rfl rfl rfl rfl ?_
                refine soff rfl rfl rfl rfl ?_
                refine soff rfl rfl rfl rfl ?_
                refine soff rfl rfl rfl rfl ?_
                refine soff rfl rfl rfl rfl ?_
                refine soff rfl rfl rfl rfl ?_
                refine soff rfl rfl rfl rfl ?_
                refine soff rfl rfl rfl rfl ?_
                refine soff rfl rfl rfl rfl ?_
                refine sv rfl (opv_pick_f rfl rfl) ?_
                refine sv rfl (opv_mv rfl) ?_
                refine soff rfl rfl rfl rfl ?_
                refine soff rfl rfl rfl rfl ?_
                refine soff rfl rfl rfl rfl ?_
                refine soff rfl rfl rfl rfl ?_
                refine soff rfl rfl rfl rfl ?_
                refine soff rfl rfl rfl rfl ?_
                refine soff rfl rfl rfl rfl ?_
                refine soff rfl rfl rfl rfl ?_
                refine soff rfl rfl rfl rfl ?_
                refine sv rfl (opv_pick_f rfl rfl) ?_
                refine sv rfl (opv_mv rfl) ?_
                refine soff rfl rfl rfl rfl ?_
                refine soff rfl rfl rfl rfl ?_
                refine soff rfl rfl rfl rfl ?_
                refine soff rfl rfl rfl rfl ?_
                refine soff rfl rfl rfl rfl ?_
                refine soff rfl rfl rfl rfl ?_
                refine soff rfl rfl rfl rfl ?_
                refine sv rfl (opv_pick_f rfl rfl) ?_
                refine sv rfl (opv_as rfl) ?_
                refine snil ?_
                refine cret ?_
                obtain rfl := Option.some.inj h
                refine ⟨Or.inr rfl, _, _, _, (resVs_cons (ResV.tmp _ _ rfl) resVs_nil), (pubA_id rfl), ?_⟩
                rfl
            · replace h := ite_f hc h
              clear hc
              refine soff rfl rfl rfl rfl ?_
              refine soff rfl rfl rfl rfl ?_
              refine soff rfl rfl rfl rfl ?_
              refine soff rfl rfl rfl rfl ?_
              refine soff rfl rfl rfl rfl ?_
              refine soff rfl rfl rfl rfl ?_
              refine soff rfl rfl rfl rfl ?_
              refine sv rfl (opv_pick_f rfl rfl) ?_
              refine sv rfl (opv_mv rfl) ?_
              refine soff rfl rfl rfl rfl ?_
              refine soff rfl rfl rfl rfl ?_
              refine soff rfl rfl rfl rfl ?_
              refine soff rfl rfl rfl rfl ?_
              refine soff rfl rfl rfl rfl ?_
              refine soff rfl rfl rfl rfl ?_
              refine soff rfl rfl rfl rfl ?_
              refine soff rfl rfl rfl rfl ?_
              refine soff rfl rfl rfl rfl ?_
              refine sv rfl (opv_pick_f rfl rfl) ?_
              refine sv rfl (opv_mv rfl) ?_
              refine soff rfl rfl rfl rfl ?_
              refine soff rfl rfl rfl rfl ?_
              refine soff rfl rfl rfl rfl ?_
              refine soff rfl rfl rfl rfl ?_
              refine soff rfl rfl rfl rfl ?_
              refine soff rfl rfl rfl rfl ?_
              refine soff rfl rfl rfl rfl ?_
              refine soff rfl rfl rfl rfl ?_
              refine soff rfl rfl rfl rfl ?_
              refine sv rfl (opv_pick_f rfl rfl) ?_
              refine sv rfl (opv_mv rfl) ?_
              refine soff rfl rfl rfl rfl ?_
              refine soff rfl rfl rfl rfl ?_
              refine soff rfl rfl rfl rfl ?_
              refine soff rfl rfl rfl rfl ?_
              refine soff rfl rfl rfl rfl ?_
              refine soff rfl rfl rfl rfl ?_
              refine soff rfl rfl rfl rfl ?_
              refine sv rfl (opv_pick_f rfl rfl) ?_
              refine sv rfl (opv_as rfl) ?_
              refine snil ?_
              refine cret ?_
              obtain rfl := Option.some.inj h
              refine ⟨Or.inr rfl, _, _, _, (resVs_cons (ResV.tmp _ _ rfl) resVs_nil), (pubA_id rfl), ?_⟩
              rfl
          · replace h := ite_f hc h
            clear hc
            refine soff rfl rfl rfl rfl ?_
            refine soff rfl rfl rfl rfl ?_
            refine soff rfl rfl rfl rfl ?_
            refine soff rfl rfl rfl rfl ?_
            refine soff rfl rfl rfl rfl ?_
            refine soff rfl rfl rfl rfl ?_
            refine soff rfl rfl rfl rfl ?_
            refine sv rfl (opv_pick_f rfl rfl) ?_
            refine sv rfl (opv_mv rfl) ?_
            refine soff rfl rfl rfl rfl ?_
            refine soff rfl rfl rfl rfl ?_
            refine soff rfl rfl rfl rfl ?_
            refine soff rfl rfl rfl rfl ?_
            refine soff rfl rfl rfl rfl ?_
            refine soff rfl rfl rfl rfl ?_
            refine soff rfl rfl rfl rfl ?_
            refine sv rfl (opv_pick_f rfl rfl) ?_
            refine sv rfl (opv_mv rfl) ?_
            refine soff rfl rfl rfl rfl ?_
            refine soff rfl rfl rfl rfl ?_
            refine soff rfl rfl rfl rfl ?_
            refine soff rfl rfl rfl rfl ?_
            refine soff rfl rfl rfl rfl ?_
            refine soff rfl rfl rfl rfl ?_
            refine soff rfl rfl rfl rfl ?_
            refine soff rfl rfl rfl rfl ?_
            refine soff rfl rfl rfl rfl ?_
            refine sv rfl (opv_pick_f rfl rfl) ?_
            refine sv rfl (opv_mv rfl) ?_
            refine soff rfl rfl rfl rfl ?_
            refine soff rfl rfl rfl rfl ?_
            refine soff rfl rfl rfl rfl ?_
            refine soff rfl rfl rfl rfl ?_
            refine soff rfl rfl rfl rfl ?_
            refine soff rfl rfl rfl rfl ?_
            refine soff rfl rfl rfl rfl ?_
            refine soff rfl rfl rfl rfl ?_
            refine soff rfl rfl rfl rfl ?_
            refine sv rfl (opv_pick_f rfl rfl) ?_
            refine sv rfl (opv_mv rfl) ?_
            refine soff rfl rfl rfl rfl ?_
            refine soff rfl rfl rfl rfl ?_
            refine soff rfl rfl rfl rfl ?_
            refine soff rfl rfl rfl rfl ?_
            refine soff rfl rfl rfl rfl ?_
            refine soff rfl rfl rfl rfl ?_
            refine soff rfl rfl rfl rfl ?_
            refine sv rfl (opv_pick_f rfl rfl) ?_
            refine sv rfl (opv_as rfl) ?_
            refine snil ?_
            refine cret ?_
            obtain rfl := Option.some.inj h
            refine ⟨Or.inr rfl, _, _, _, (resVs_cons (ResV.tmp _ _ rfl) resVs_nil), (pubA_id rfl), ?_⟩
            rfl
        · replace h := ite_f hc h
          clear hc
          refine soff rfl rfl rfl rfl ?_
          refine soff rfl rfl rfl rfl ?_
          refine soff rfl rfl rfl rfl ?_
          refine soff rfl rfl rfl rfl ?_
          refine soff rfl rfl rfl rfl ?_
          refine sv rfl (opv_pick_f rfl rfl) ?_
          refine sv rfl (opv_mv rfl) ?_
          refine soff rfl rfl rfl rfl ?_
          refine soff rfl rfl rfl rfl ?_
          refine soff rfl rfl rfl rfl ?_
          refine soff rfl rfl rfl rfl ?_
          refine soff rfl rfl rfl rfl ?_
          refine soff rfl rfl rfl rfl ?_
          refine soff rfl rfl rfl rfl ?_
          refine sv rfl (opv_pick_f rfl rfl) ?_
          refine sv rfl (opv_mv rfl) ?_
          refine soff rfl rfl rfl rfl ?_
          refine soff rfl rfl rfl rfl ?_
          refine soff rfl rfl rfl rfl ?_
          refine soff rfl rfl rfl rfl ?_
          refine soff rfl rfl rfl rfl ?_
          refine soff rfl rfl rfl rfl ?_
          refine soff rfl rfl rfl rfl ?_
          refine sv rfl (opv_pick_f rfl rfl) ?_
          refine sv rfl (opv_mv rfl) ?_
          refine soff rfl rfl rfl rfl ?_
          refine soff rfl rfl rfl rfl ?_
          refine soff rfl rfl rfl rfl ?_
          refine soff rfl rfl rfl rfl ?_
          refine soff rfl rfl rfl rfl ?_
          refine soff rfl rfl rfl rfl ?_
          refine soff rfl rfl rfl rfl ?_
          refine soff rfl rfl rfl rfl ?_
          refine soff rfl rfl rfl rfl ?_
          refine sv rfl (opv_pick_f rfl rfl) ?_
          refine sv rfl (opv_mv rfl) ?_
          refine soff rfl rfl rfl rfl ?_
          refine soff rfl rfl rfl rfl ?_
          refine soff rfl rfl rfl rfl ?_
          refine soff rfl rfl rfl rfl ?_
          refine soff rfl rfl rfl rfl ?_
          refine soff rfl rfl rfl rfl ?_
          refine soff rfl rfl rfl rfl ?_
          refine soff rfl rfl rfl rfl ?_
          refine soff rfl rfl rfl rfl ?_
          refine sv rfl (opv_pick_f rfl rfl) ?_
          refine sv rfl (opv_mv rfl) ?_
          refine soff rfl rfl rfl rfl ?_
          refine soff rfl rfl rfl rfl ?_
          refine soff rfl rfl rfl rfl ?_
          refine soff rfl rfl rfl rfl ?_
          refine soff rfl rfl rfl rfl ?_
          refine soff rfl rfl rfl rfl ?_
          refine soff rfl rfl rfl rfl ?_
          refine sv rfl (opv_pick_f rfl rfl) ?_
          refine sv rfl (opv_as rfl) ?_
          refine snil ?_
          refine cret ?_
          obtain rfl := Option.some.inj h
          refine ⟨Or.inr rfl, _, _, _, (resVs_cons (ResV.tmp _ _ rfl) resVs_nil), (pubA_id rfl), ?_⟩
          rfl
      · replace h := ite_f hc h
        clear hc
        refine soff rfl rfl rfl rfl ?_
        refine soff rfl rfl rfl rfl ?_
        refine soff rfl rfl rfl rfl ?_
        refine soff rfl rfl rfl rfl ?_
        refine soff rfl rfl rfl rfl ?_
        refine sv rfl (opv_pick_f rfl rfl) ?_
        refine sv rfl (opv_mv rfl) ?_
        refine soff rfl rfl rfl rfl ?_
        refine soff rfl rfl rfl rfl ?_
        refine soff rfl rfl rfl rfl ?_
        refine soff rfl rfl rfl rfl ?_
        refine soff rfl rfl rfl rfl ?_
        refine sv rfl (opv_pick_f rfl rfl) ?_
        refine sv rfl (opv_mv rfl) ?_
        refine soff rfl rfl rfl rfl ?_
        refine soff rfl rfl rfl rfl ?_
        refine soff rfl rfl rfl rfl ?_
        refine soff rfl rfl rfl rfl ?_
        refine soff rfl rfl rfl rfl ?_
        refine soff rfl rfl rfl rfl ?_
        refine soff rfl rfl rfl rfl ?_
        refine sv rfl (opv_pick_f rfl rfl) ?_
        refine sv rfl (opv_mv rfl) ?_
        refine soff rfl rfl rfl rfl ?_
        refine soff rfl rfl rfl rfl ?_
        refine soff rfl rfl rfl rfl ?_
        refine soff rfl rfl rfl rfl ?_
        refine soff rfl rfl rfl rfl ?_
        refine soff rfl rfl rfl rfl ?_
        refine soff rfl rfl rfl rfl ?_
        refine sv rfl (opv_pick_f rfl rfl) ?_
        refine sv rfl (opv_mv rfl) ?_
        refine soff rfl rfl rfl rfl ?_
        refine soff rfl rfl rfl rfl ?_
        refine soff rfl rfl rfl rfl ?_
        refine soff rfl rfl rfl rfl ?_
        refine soff rfl rfl rfl rfl ?_
        refine soff rfl rfl rfl rfl ?_
        refine soff rfl rfl rfl rfl ?_
        refine soff rfl rfl rfl rfl ?_
        refine soff rfl rfl rfl rfl ?_
        refine sv rfl (opv_pick_f rfl rfl) ?_
        refine sv rfl (opv_mv rfl) ?_
        refine soff rfl rfl rfl rfl ?_
        refine soff rfl rfl rfl rfl ?_
        refine soff rfl rfl rfl rfl ?_
        refine soff rfl rfl rfl rfl ?_
        refine soff rfl rfl rfl rfl ?_
        refine soff rfl rfl rfl rfl ?_
        refine soff rfl rfl rfl rfl ?_
        refine soff rfl rfl rfl rfl ?_
        refine soff rfl rfl rfl rfl ?_
        refine sv rfl (opv_pick_f rfl rfl) ?_
        refine sv rfl (opv_mv rfl) ?_
        refine soff rfl rfl rfl rfl ?_
        refine soff rfl rfl rfl rfl ?_
        refine soff rfl rfl rfl rfl ?_
        refine soff rfl rfl rfl rfl ?_
        refine soff rfl rfl rfl rfl ?_
        refine soff rfl rfl rfl rfl ?_
        refine soff rfl rfl rfl rfl ?_
        refine sv rfl (opv_pick_f rfl rfl) ?_
        refine sv rfl (opv_as rfl) ?_
        refine snil ?_
        refine cret ?_
        obtain rfl := Option.some.inj h
        refine ⟨Or.inr rfl, _, _, _, (resVs_cons (ResV.tmp _ _ rfl) resVs_nil), (pubA_id rfl), ?_⟩
        rfl
    · replace h := ite_f hc h
      clear hc
      refine soff rfl rfl rfl rfl ?_
      refine soff rfl rfl rfl rfl ?_
      refine soff rfl rfl rfl rfl ?_
      refine soff rfl rfl rfl rfl ?_
      refine soff rfl rfl rfl rfl ?_
      refine sv rfl (opv_pick_f rfl rfl) ?_
      refine sv rfl (opv_mv rfl) ?_
      refine soff rfl rfl rfl rfl ?_
      refine soff rfl rfl rfl rfl ?_
      refine soff rfl rfl rfl rfl ?_
      refine soff rfl rfl rfl rfl ?_
      refine soff rfl rfl rfl rfl ?_
      refine sv rfl (opv_pick_f rfl rfl) ?_
      refine sv rfl (opv_mv rfl) ?_
      refine soff rfl rfl rfl rfl ?_
      refine soff rfl rfl rfl rfl ?_
      refine soff rfl rfl rfl rfl ?_
      refine soff rfl rfl rfl rfl ?_
      refine soff rfl rfl rfl rfl ?_
      refine sv rfl (opv_pick_f rfl rfl) ?_
      refine sv rfl (opv_mv rfl) ?_
      refine soff rfl rfl rfl rfl ?_
      refine soff rfl rfl rfl rfl ?_
      refine soff rfl rfl rfl rfl ?_
      refine soff rfl rfl rfl rfl ?_
      refine soff rfl rfl rfl rfl ?_
      refine soff rfl rfl rfl rfl ?_
      refine soff rfl rfl rfl rfl ?_
      refine sv rfl (opv_pick_f rfl rfl) ?_
      refine sv rfl (opv_mv rfl) ?_
      refine soff rfl rfl rfl rfl ?_
      refine soff rfl rfl rfl rfl ?_
      refine soff rfl rfl rfl rfl ?_
      refine soff rfl rfl rfl rfl ?_
      refine soff rfl rfl rfl rfl ?_
      refine soff rfl rfl rfl rfl ?_
      refine soff rfl rfl rfl rfl ?_
      refine sv rfl (opv_pick_f rfl rfl) ?_
      refine sv rfl (opv_mv rfl) ?_
      refine soff rfl rfl rfl rfl ?_
      refine soff rfl rfl rfl rfl ?_
      refine soff rfl rfl rfl rfl ?_
      refine soff rfl rfl rfl rfl ?_
      refine soff rfl rfl rfl rfl ?_
      refine soff rfl rfl rfl rfl ?_
      refine soff rfl rfl rfl rfl ?_
      refine soff rfl rfl rfl rfl ?_
      refine soff rfl rfl rfl rfl ?_
      refine sv rfl (opv_pick_f rfl rfl) ?_
      refine sv rfl (opv_mv rfl) ?_
      refine soff rfl rfl rfl rfl ?_
      refine soff rfl rfl rfl rfl ?_
      refine soff rfl rfl rfl rfl ?_
      refine soff rfl rfl rfl rfl ?_
      refine soff rfl rfl rfl rfl ?_
      refine soff rfl rfl rfl rfl ?_
      refine soff rfl rfl rfl rfl ?_
      refine soff rfl rfl rfl rfl ?_
      refine soff rfl rfl rfl rfl ?_
      refine sv rfl (opv_pick_f rfl rfl) ?_
      refine sv rfl (opv_mv rfl) ?_
      refine soff rfl rfl rfl rfl ?_
      refine soff rfl rfl rfl rfl ?_
      refine soff rfl rfl rfl rfl ?_
      refine soff rfl rfl rfl rfl ?_
      refine soff rfl rfl rfl rfl ?_
      refine soff rfl rfl rfl rfl ?_
      refine soff rfl rfl rfl rfl ?_
      refine sv rfl (opv_pick_f rfl rfl) ?_
      refine sv rfl (opv_as rfl) ?_
      refine snil ?_
      refine cret ?_
      obtain rfl := Option.some.inj h
      refine ⟨Or.inr rfl, _, _, _, (resVs_cons (ResV.tmp _ _ rfl) resVs_nil), (pubA_id rfl), ?_⟩
      rfl
  · replace h := ite_f hc h
    clear hc
    refine soff rfl rfl rfl rfl ?_
    refine soff rfl rfl rfl rfl ?_
    refine soff rfl rfl rfl rfl ?_
    refine soff rfl rfl rfl rfl ?_
    refine soff rfl rfl rfl rfl ?_
    refine sv rfl (opv_pick_f rfl rfl) ?_
    refine sv rfl (opv_mv rfl) ?_
    refine soff rfl rfl rfl rfl ?_
    refine soff rfl rfl rfl rfl ?_
    refine soff rfl rfl rfl rfl ?_
    refine soff rfl rfl rfl rfl ?_
    refine soff rfl rfl rfl rfl ?_
    refine sv rfl (opv_pick_f rfl rfl) ?_
    refine sv rfl (opv_mv rfl) ?_
    refine soff rfl rfl rfl rfl ?_
    refine soff rfl rfl rfl rfl ?_
    refine soff rfl rfl rfl rfl ?_
    refine soff rfl rfl rfl rfl ?_
    refine soff rfl rfl rfl rfl ?_
    refine sv rfl (opv_pick_f rfl rfl) ?_
    refine sv rfl (opv_mv rfl) ?_
    refine soff rfl rfl rfl rfl ?_
    refine soff rfl rfl rfl rfl ?_
    refine soff rfl rfl rfl rfl ?_
    refine soff rfl rfl rfl rfl ?_
    refine soff rfl rfl rfl rfl ?_
    refine sv rfl (opv_pick_f rfl rfl) ?_
    refine sv rfl (opv_mv rfl) ?_
    refine soff rfl rfl rfl rfl ?_
    refine soff rfl rfl rfl rfl ?_
    refine soff rfl rfl rfl rfl ?_
    refine soff rfl rfl rfl rfl ?_
    refine soff rfl rfl rfl rfl ?_
    refine soff rfl rfl rfl rfl ?_
    refine soff rfl rfl rfl rfl ?_
    refine sv rfl (opv_pick_f rfl rfl) ?_
    refine sv rfl (opv_mv rfl) ?_
    refine soff rfl rfl rfl rfl ?_
    refine soff rfl rfl rfl rfl ?_
    refine soff rfl rfl rfl rfl ?_
    refine soff rfl rfl rfl rfl ?_
    refine soff rfl rfl rfl rfl ?_
    refine soff rfl rfl rfl rfl ?_
    refine soff rfl rfl rfl rfl ?_
    refine sv rfl (opv_pick_f rfl rfl) ?_
    refine sv rfl (opv_mv rfl) ?_
    refine soff rfl rfl rfl rfl ?_
    refine soff rfl rfl rfl rfl ?_
    refine soff rfl rfl rfl rfl ?_
    refine soff rfl rfl rfl rfl ?_
    refine soff rfl rfl rfl rfl ?_
    refine soff rfl rfl rfl rfl ?_
    refine soff rfl rfl rfl rfl ?_
    refine soff rfl rfl rfl rfl ?_
    refine soff rfl rfl rfl rfl ?_
    refine sv rfl (opv_pick_f rfl rfl) ?_
    refine sv rfl (opv_mv rfl) ?_
    refine soff rfl rfl rfl rfl ?_
    refine soff rfl rfl rfl rfl ?_
    refine soff rfl rfl rfl rfl ?_
    refine soff rfl rfl rfl rfl ?_
    refine soff rfl rfl rfl rfl ?_
    refine soff rfl rfl rfl rfl ?_
    refine soff rfl rfl rfl rfl ?_
    refine soff rfl rfl rfl rfl ?_
    refine soff rfl rfl rfl rfl ?_
    refine sv rfl (opv_pick_f rfl rfl) ?_
    refine sv rfl (opv_mv rfl) ?_
    refine soff rfl rfl rfl rfl ?_
    refine soff rfl rfl rfl rfl ?_
    refine soff rfl rfl rfl rfl ?_
    refine soff rfl rfl rfl rfl ?_
    refine soff rfl rfl rfl rfl ?_
    refine soff rfl rfl rfl rfl ?_
    refine soff rfl rfl rfl rfl ?_
    refine sv rfl (opv_pick_f rfl rfl) ?_
    refine sv rfl (opv_as rfl) ?_
    refine snil ?_
    refine cret ?_
    obtain rfl := Option.some.inj h
    refine ⟨Or.inr rfl, _, _, _, (resVs_cons (ResV.tmp _ _ rfl) resVs_nil), (pubA_id rfl), ?_⟩
    rfl

def m42_r05_KVs_k1 (b1 : Unit) : Option Bool :=
  some true

def m42_r05_KVs_s2 (a0 : List GApiKV) (a1 : List GApiKV) (s2 : Int) : Option (LR (Int) (Unit) (Bool)) :=
  if (decide (s2 < (a0.length : Int))) then ((idx a0 s2).bind fun u3 => (idx a1 s2).bind fun u4 => if (!(u3.Key == u4.Key)) then (some (.ret false)) else ((idx a0 s2).bind fun u5 => (idx a1 s2).bind fun u6 => if (!(u5.Val == u6.Val)) then (some (.ret false)) else (some (.cont (wI (s2 + 1)))))) else (some (.brk ()))
def m42_r05_KVs (a0 : List GApiKV) (a1 : List GApiKV) : Option Bool :=
  if (!decide ((a0.length : Int) = (a1.length : Int))) then (some false) else ((iter (m42_r05_KVs_s2 a0 a1) fuel 0).bind fun x => match x with | .inl r => some r | .inr e7 => m42_r05_KVs_k1 e7)

set_option maxRecDepth 100000 in
theorem m42_r05_KVs_c {a0 : List GApiKV} {a1 : List GApiKV} {r : Bool} (h : m42_r05_KVs a0 a1 = some r) : CallsA Tryd.prog 42 [.one (.sl a0.length (a0.flatMap eGApiKV)), .one (.sl a1.length (a1.flatMap eGApiKV))] (· = .s (.one (.b r))) := by
  unfold m42_r05_KVs at h
  refine callsA_of Tryd.func42 rfl (nt := 45) rfl (Nat.le_of_ble_eq_true rfl) ?_
  intro w0 S0
  refine cseq ?_
  refine cregion ?_
  refine sv rfl (opv_as rfl) ?_
  refine snil ?_
  refine cseq ?_
  refine cseq ?_
  refine cregion ?_
  refine sv rfl (opv_mv rfl) ?_
  refine sv rfl (opv_len_sl si35 rfl) ?_
  refine sv rfl (opv_mv rfl) ?_
  refine sv rfl (opv_len_sl si35 rfl) ?_
  refine sv rfl (opv_ineq rfl rfl) ?_
  refine snil ?_
  refine ccond rfl (fun hc => ?_) (fun hc => ?_)
  · replace h := ite_t hc h
    clear hc
    refine cseq ?_
    refine cregion ?_
    refine sv rfl (opv_as rfl) ?_
    refine snil ?_
    refine cret ?_
    refine then_ret ?_
    obtain rfl := Option.some.inj h
    refine ⟨Or.inr rfl, _, _, _, (resVs_cons (ResV.tmp _ _ rfl) resVs_nil), (pubA_id rfl), ?_⟩
    rfl
  · replace h := ite_f hc h
    clear hc
    refine cskip ?_
    refine then_normal ?_
    refine cseq ?_
    refine cseq ?_
    refine cregion ?_
    refine sv rfl (opv_as rfl) ?_
    refine snil ?_
    refine cjoin (Unit) (fun b1 => []) (fun b1 => []) (fun b1 => m42_r05_KVs_k1 b1 = some r) (fun _ _ => inbL_of rfl) (fun _ _ => blkinb_of rfl) (fun _ _ => Nat.le_of_ble_eq_true rfl) (fun b1 h => ?_) ?_
    · unfold m42_r05_KVs_k1 at h
      refine cseq ?_
      refine cregion ?_
      refine sv rfl (opv_as rfl) ?_
      refine snil ?_
      refine cret ?_
      obtain rfl := Option.some.inj h
      refine ⟨Or.inr rfl, _, _, _, (resVs_cons (ResV.tmp _ _ rfl) resVs_nil), (pubA_id rfl), ?_⟩
      rfl
    · skip
      refine cblock ?_
      obtain ⟨x2, hx2, ho2⟩ := bind_eq h
      refine awc_loop (G := Nat × (Int)) (fun g => [(0, .s (.one (.sl a0.length (a0.flatMap eGApiKV)))), (1, .s (.one (.sl a1.length (a1.flatMap eGApiKV)))), (5, .s (.one (.i .i64 g.2)))]) (fun g => []) (fun g => iter (m42_r05_KVs_s2 a0 a1) g.1 g.2 = some x2) (fun g => g.1) (fuel, 0) hx2 ⟨rfl, rfl, rfl, trivial⟩ [] rfl (fun _ _ => inbL_of rfl) (fun _ _ => blkinb_of rfl) (fun _ _ => Nat.le_of_ble_eq_true rfl) ?_
      clear hx2 h
      rintro ⟨n2, s2⟩ h
      obtain ⟨n2, y2, rfl, h, hk2⟩ := iter_eq h
      unfold m42_r05_KVs_s2 at h
      refine cseq ?_
      refine cseq ?_
      refine cregion ?_
      refine sv rfl (opv_mv rfl) ?_
      refine sv rfl (opv_mv rfl) ?_
      refine sv rfl (opv_len_sl si35 rfl) ?_
      refine sv rfl (opv_lss rfl rfl) ?_
      refine snil ?_
      refine ccond rfl (fun hc => ?_) (fun hc => ?_)
      · replace h := ite_t hc h
        clear hc
        refine cskip ?_
        refine then_normal ?_
        refine cseq ?_
        refine cblock ?_
        refine cseq ?_
        refine cdraw mixed (by kernel_rfl) ?_
        refine dv rfl (opv_mv rfl) ?_
        refine dv rfl (opv_mv rfl) ?_
        obtain ⟨u3, hu3, h⟩ := bind_eq h
        refine dv rfl (opv_ix (f := eGApiKV) si35 (fun _ => rfl) rfl rfl rfl rfl hu3) ?_
        refine dv rfl (opv_fieldAddr_cp fi83_0 rfl) ?_
        refine dv rfl (opv_load1 ti29 rfl (.cp _) rfl) ?_
        refine dv rfl (opv_bs (l := u3.Key) Tryd.underlying29 Tryd.underlying5 Tryd.underlying9 rfl rfl rfl) ?_
        refine dv rfl (opv_mv rfl) ?_
        refine dv rfl (opv_mv rfl) ?_
        obtain ⟨u4, hu4, h⟩ := bind_eq h
        refine dv rfl (opv_ix (f := eGApiKV) si35 (fun _ => rfl) rfl rfl rfl rfl hu4) ?_
        refine dv rfl (opv_fieldAddr_cp fi83_0 rfl) ?_
        refine dv rfl (opv_load1 ti29 rfl (.cp _) rfl) ?_
        refine dv rfl (opv_bs (l := u4.Key) Tryd.underlying29 Tryd.underlying5 Tryd.underlying9 rfl rfl rfl) ?_
        refine dv rfl (opv_sneq' rfl rfl) ?_
        refine dv rfl (opv_mv rfl) ?_
        refine dsplit 30 rfl (fun hc => ?_) (fun hc => ?_)
        · replace h := ite_t hc h
          clear hc
          refine doff rfl rfl rfl rfl ?_
          refine doff rfl rfl rfl rfl ?_
          refine doff rfl rfl rfl rfl ?_
          refine doff rfl rfl rfl rfl ?_
          refine doff rfl rfl rfl rfl ?_
          refine doff rfl rfl rfl rfl ?_
          refine doff rfl rfl rfl rfl ?_
          refine doff rfl rfl rfl rfl ?_
          refine doff rfl rfl rfl rfl ?_
          refine doff rfl rfl rfl rfl ?_
          refine doff rfl rfl rfl rfl ?_
          refine doff rfl rfl rfl rfl ?_
          refine doff rfl rfl rfl rfl ?_
          refine dv rfl (opv_pick_t rfl rfl) ?_
          refine dnil ?_
          refine then_normal ?_
          refine ccond rfl (fun _ => ?_) (fun hx => Bool.noConfusion hx)
          refine cseq ?_
          refine cregion ?_
          refine sv rfl (opv_as rfl) ?_
          refine snil ?_
          refine cret ?_
          refine block_ret ?_
          refine then_ret ?_
          refine then_ret ?_
          refine block_ret ?_
          refine then_ret ?_
          obtain rfl := Option.some.inj h
          obtain rfl : Sum.inl _ = x2 := hk2
          replace ho2 : some _ = some _ := ho2
          obtain rfl := Option.some.inj ho2
          refine ⟨Or.inr rfl, _, _, _, (resVs_cons (ResV.tmp _ _ rfl) resVs_nil), (pubA_id rfl), ?_⟩
          rfl
        · replace h := ite_f hc h
          clear hc
          refine dvg rfl rfl rfl (opv_mv rfl) ?_
          refine dvg rfl rfl rfl (opv_mv rfl) ?_
          obtain ⟨u5, hu5, h⟩ := bind_eq h
          refine dvg rfl rfl rfl (opv_ix (f := eGApiKV) si35 (fun _ => rfl) rfl rfl rfl rfl hu5) ?_
          refine dvg rfl rfl rfl (opv_fieldAddr_cp fi83_1 rfl) ?_
          refine dvg rfl rfl rfl (opv_load1 ti29 rfl (.cp _) rfl) ?_
          refine dvg rfl rfl rfl (opv_bs (l := u5.Val) Tryd.underlying29 Tryd.underlying5 Tryd.underlying9 rfl rfl rfl) ?_
          refine dvg rfl rfl rfl (opv_mv rfl) ?_
          refine dvg rfl rfl rfl (opv_mv rfl) ?_
          obtain ⟨u6, hu6, h⟩ := bind_eq h
          refine dvg rfl rfl rfl (opv_ix (f := eGApiKV) si35 (fun _ => rfl) rfl rfl rfl rfl hu6) ?_
          refine dvg rfl rfl rfl (opv_fieldAddr_cp fi83_1 rfl) ?_
          refine dvg rfl rfl rfl (opv_load1 ti29 rfl (.cp _) rfl) ?_
          refine dvg rfl rfl rfl (opv_bs (l := u6.Val) Tryd.underlying29 Tryd.underlying5 Tryd.underlying9 rfl rfl rfl) ?_
          refine dvg rfl rfl rfl (opv_sneq' rfl rfl) ?_
          refine dv rfl (opv_pick_f rfl rfl) ?_
          refine dnil ?_
          refine then_normal ?_
          refine ccond rfl (fun hc => ?_) (fun hc => ?_)
          · replace h := ite_t hc h
            clear hc
            refine cseq ?_
            refine cregion ?_
            refine sv rfl (opv_as rfl) ?_
            refine snil ?_
            refine cret ?_
            refine block_ret ?_
            refine then_ret ?_
            refine then_ret ?_
            refine block_ret ?_
            refine then_ret ?_
            obtain rfl := Option.some.inj h
            obtain rfl : Sum.inl _ = x2 := hk2
            replace ho2 : some _ = some _ := ho2
            obtain rfl := Option.some.inj ho2
            refine ⟨Or.inr rfl, _, _, _, (resVs_cons (ResV.tmp _ _ rfl) resVs_nil), (pubA_id rfl), ?_⟩
            rfl
          · replace h := ite_f hc h
            clear hc
            refine cskip ?_
            refine block_normal ?_
            refine then_normal ?_
            refine cregion ?_
            refine sv rfl (opv_mv rfl) ?_
            refine sv rfl (opv_add rfl rfl) ?_
            refine sv rfl (opv_as rfl) ?_
            refine snil ?_
            obtain rfl := Option.some.inj h
            exact ⟨(n2, (wI (s2 + 1))), _, hk2, ⟨rfl, rfl, rfl, trivial⟩, rfl, Nat.lt_succ_self _⟩
      · replace h := ite_f hc h
        clear hc
        refine cexit ?_
        refine then_exit ?_
        refine then_exit ?_
        refine block_hit ?_
        refine then_normal ?_
        obtain rfl := Option.some.inj h
        obtain rfl : _ = x2 := hk2
        exact ⟨(), _, ho2, trivial, rfl⟩

end Go.Proofs.YtlpanhfojeaamaaDoor.Abs
