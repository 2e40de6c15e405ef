/-
  What stands beneath the four laws of the timers, part E.
-/
import Derived.Test.YtnphcnhejgpjgaaD
set_option linter.unusedVariables false
set_option linter.unusedSimpArgs false
section
namespace Go.Proofs.Ytnphcnhejgpjgaa.Abs
open Go.Proofs.Ytnphcnhejgpjgaa.Co
open Go.RowKit Go.Proofs
variable [Env] [AtEnv]
set_option maxRecDepth 100000 in
theorem m20_timers_Sane_c {a0 : GTimersTable} {r : Bool} (h : m20_timers_Sane a0 = some r) : CallsA Try.prog 20 [.agg a0] (· = .s (.one (.b r))) := by
  unfold m20_timers_Sane at h
  refine callsA_of Try.func20 rfl (nt := 46) rfl (Nat.le_of_ble_eq_true rfl) ?_
  intro w0 S0
  refine cseq ?_
  refine cregion ?_
  refine sbox rfl rfl ?_
  refine sv rfl (opv_as rfl) ?_
  refine snil ?_
  refine cseq ?_
  refine cseq ?_
  refine cjoin3 (Unit) (fun b1 => [(1, .s (.one (.lp 0 0)))]) (fun b1 => [.box a0]) (fun b1 => m20_timers_Sane_k1 a0 b1 = some r) (fun _ _ => inbL_of rfl) (fun _ _ => blkinb_of rfl) (fun _ _ => Nat.le_of_ble_eq_true rfl) (fun b1 h => ?_) ?_
  · unfold m20_timers_Sane_k1 at h
    refine cseq ?_
    refine cregion ?_
    refine sv rfl (opv_as rfl) ?_
    refine snil ?_
    refine cseq ?_
    refine cseq ?_
    refine cregion ?_
    refine sv rfl (opv_fieldAddr_lp fi28_1 rfl) ?_
    refine sv rfl (opv_load1 ti26 rfl (.lp _ _ _ rfl) rfl) ?_
    refine sv rfl (opv_len_sl si26 rfl) ?_
    refine sv rfl (opv_mv rfl) ?_
    refine snil ?_
    refine cjoin (Unit) (fun b2 => []) (fun b2 => [.box a0]) (fun b2 => m20_timers_Sane_k2 b2 = some r) (fun _ _ => inbL_of rfl) (fun _ _ => blkinb_of rfl) (fun _ _ => Nat.le_of_ble_eq_true rfl) (fun b2 h => ?_) ?_
    · unfold m20_timers_Sane_k2 at h
      refine cseq ?_
      refine cregion ?_
      refine sv rfl (opv_as rfl) ?_
      refine snil ?_
      refine cret ?_
      obtain rfl := Option.some.inj h
      refine ⟨Or.inr rfl, _, _, _, (resVs_cons (ResV.tmp _ _ rfl) resVs_nil), (pubA_id rfl), ?_⟩
      rfl
    · skip
      refine cblock ?_
      obtain ⟨x3, hx3, ho3⟩ := bind_eq h
      refine awc_loop (G := Nat × (Int × Int)) (fun g => [(1, .s (.one (.lp 0 0))), (3, .s (.one (.i .i64 g.2.1))), (21, .s (.one (.sl a0.L.length (a0.L.flatMap eGTimersTimer)))), (22, .s (.one (.i .i64 (a0.L.length : Int)))), (23, .s (.one (.i .i64 g.2.2)))]) (fun g => [.box a0]) (fun g => iter (m20_timers_Sane_s3 a0) g.1 g.2 = some x3) (fun g => g.1) (fuel, ((-1), 0)) hx3 ⟨rfl, rfl, rfl, rfl, rfl, trivial⟩ [] rfl (fun _ _ => inbL_of rfl) (fun _ _ => blkinb_of rfl) (fun _ _ => Nat.le_of_ble_eq_true rfl) ?_
      clear hx3 h
      rintro ⟨n3, s3⟩ h
      obtain ⟨n3, y3, rfl, h, hk3⟩ := iter_eq h
      unfold m20_timers_Sane_s3 at h
      refine cseq ?_
      refine cregion ?_
      refine sv rfl (opv_lss rfl rfl) ?_
      refine snil ?_
      refine cseq ?_
      refine ccond rfl (fun hc => ?_) (fun hc => ?_)
      · replace h := ite_t hc h
        clear hc
        refine cskip ?_
        refine then_normal ?_
        refine cseq ?_
        refine cblock ?_
        refine cseq ?_
        refine cregion ?_
        obtain ⟨u4, hu4, h⟩ := bind_eq h
        refine sv rfl (opv_ix (f := eGTimersTimer) si26 (fun _ => rfl) rfl rfl rfl rfl hu4) ?_
        refine sv rfl (opv_loadNe (ys := [.i .i64 u4.ID, .i .i64 u4.At]) ti61 rfl (.cp _) rfl rfl) ?_
        refine salloc rfl zi61 ?_
        refine sstore sz61 rfl rfl rfl rfl (Nat.le_of_ble_eq_true rfl) ?_
        refine smem [.box a0, .box [.i .i64 u4.ID, .i .i64 u4.At]] rfl ?_
        refine snil ?_
        refine cseq ?_
        refine cseq ?_
        refine cjoin3 (Unit) (fun b5 => [(1, .s (.one (.lp 0 0))), (5, .s (.one (.lp 1 0))), (21, .s (.one (.sl a0.L.length (a0.L.flatMap eGTimersTimer)))), (22, .s (.one (.i .i64 (a0.L.length : Int)))), (23, .s (.one (.i .i64 s3.2)))]) (fun b5 => [.box a0, .box [.i .i64 u4.ID, .i .i64 u4.At]]) (fun b5 => m20_timers_Sane_k5 s3 u4 b5 = some y3) (fun _ _ => inbL_of rfl) (fun _ _ => blkinb_of rfl) (fun _ _ => Nat.le_of_ble_eq_true rfl) (fun b5 h => ?_) ?_
        · unfold m20_timers_Sane_k5 at h
          refine cregion ?_
          refine sv rfl (opv_fieldAddr_lp fi61_0 rfl) ?_
          refine sv rfl (opv_load1 ti3 rfl (.lp _ _ _ rfl) rfl) ?_
          refine sv rfl (opv_as rfl) ?_
          refine snil0 ?_
          refine block_normal ?_
          refine then_normal ?_
          refine cregion ?_
          refine sv rfl (opv_add rfl rfl) ?_
          refine sv rfl (opv_mv rfl) ?_
          refine snil ?_
          obtain rfl := Option.some.inj h
          exact ⟨(n3, (u4.ID, (wI (s3.2 + 1)))), _, hk3, ⟨rfl, rfl, rfl, rfl, rfl, trivial⟩, rfl, Nat.lt_succ_self _⟩
        · skip
          refine cregion ?_
          refine sv rfl (opv_fieldAddr_lp fi61_0 rfl) ?_
          refine sv rfl (opv_load1 ti3 rfl (.lp _ _ _ rfl) rfl) ?_
          refine sv rfl (opv_mv rfl) ?_
          refine sv rfl (opv_leq rfl rfl) ?_
          refine sv rfl (opv_mv rfl) ?_
          refine ssplit 31 rfl (fun hc => ?_) (fun hc => ?_)
          · replace h := ite_t hc h
            clear hc
            refine soff rfl rfl rfl rfl ?_
            refine soff rfl rfl rfl rfl ?_
            refine soff rfl rfl rfl rfl ?_
            refine soff rfl rfl rfl rfl ?_
            refine soff rfl rfl rfl rfl ?_
            refine sv rfl (opv_pick_t rfl rfl) ?_
            refine sv rfl (opv_mv rfl) ?_
            refine soff rfl rfl rfl rfl ?_
            refine soff rfl rfl rfl rfl ?_
            refine soff rfl rfl rfl rfl ?_
            refine sv rfl (opv_pick_t rfl rfl) ?_
            refine snil ?_
            refine ccond rfl (fun _ => ?_) (fun hx => Bool.noConfusion hx)
            refine cseq ?_
            refine cregion ?_
            refine sv rfl (opv_as rfl) ?_
            refine snil ?_
            refine cret ?_
            refine then_ret ?_
            refine block_ret ?_
            refine then_ret ?_
            refine then_ret ?_
            refine block_ret ?_
            refine then_ret ?_
            obtain rfl := Option.some.inj h
            obtain rfl : Sum.inl _ = x3 := hk3
            replace ho3 : some _ = some _ := ho3
            obtain rfl := Option.some.inj ho3
            refine ⟨Or.inr rfl, _, _, _, (resVs_cons (ResV.tmp _ _ rfl) resVs_nil), (pubA_id rfl), ?_⟩
            rfl
          · replace h := ite_f hc h
            clear hc
            refine son rfl rfl rfl ?_
            refine sv rfl (opv_fieldAddr_lp fi61_1 rfl) ?_
            refine son rfl rfl rfl ?_
            refine sv rfl (opv_load1 ti3 rfl (.lp _ _ _ rfl) rfl) ?_
            refine son rfl rfl rfl ?_
            refine sv rfl (opv_fieldAddr_lp fi28_0 rfl) ?_
            refine son rfl rfl rfl ?_
            refine sv rfl (opv_load1 ti3 rfl (.lp _ _ _ rfl) rfl) ?_
            refine son rfl rfl rfl ?_
            refine sv rfl (opv_leq rfl rfl) ?_
            refine sv rfl (opv_pick_f rfl rfl) ?_
            refine sv rfl (opv_mv rfl) ?_
            refine ssplit 38 rfl (fun hc => ?_) (fun hc => ?_)
            · replace h := ite_t hc h
              clear hc
              refine soff rfl rfl rfl rfl ?_
              refine soff rfl rfl rfl rfl ?_
              refine soff rfl rfl rfl rfl ?_
              refine sv rfl (opv_pick_t rfl rfl) ?_
              refine snil ?_
              refine ccond rfl (fun _ => ?_) (fun hx => Bool.noConfusion hx)
              refine cseq ?_
              refine cregion ?_
              refine sv rfl (opv_as rfl) ?_
              refine snil ?_
              refine cret ?_
              refine then_ret ?_
              refine block_ret ?_
              refine then_ret ?_
              refine then_ret ?_
              refine block_ret ?_
              refine then_ret ?_
              obtain rfl := Option.some.inj h
              obtain rfl : Sum.inl _ = x3 := hk3
              replace ho3 : some _ = some _ := ho3
              obtain rfl := Option.some.inj ho3
              refine ⟨Or.inr rfl, _, _, _, (resVs_cons (ResV.tmp _ _ rfl) resVs_nil), (pubA_id rfl), ?_⟩
              rfl
            · replace h := ite_f hc h
              clear hc
              refine son rfl rfl rfl ?_
              refine sv rfl (opv_fieldAddr_lp fi61_1 rfl) ?_
              refine son rfl rfl rfl ?_
              refine sv rfl (opv_load1 ti3 rfl (.lp _ _ _ rfl) rfl) ?_
              refine son rfl rfl rfl ?_
              refine sv rfl (opv_gtr rfl rfl) ?_
              refine sv rfl (opv_pick_f rfl rfl) ?_
              refine snil ?_
              refine ccond rfl (fun hc => ?_) (fun hc => ?_)
              · replace h := ite_t hc h
                clear hc
                refine cseq ?_
                refine cregion ?_
                refine sv rfl (opv_as rfl) ?_
                refine snil ?_
                refine cret ?_
                refine then_ret ?_
                refine block_ret ?_
                refine then_ret ?_
                refine then_ret ?_
                refine block_ret ?_
                refine then_ret ?_
                obtain rfl := Option.some.inj h
                obtain rfl : Sum.inl _ = x3 := hk3
                replace ho3 : some _ = some _ := ho3
                obtain rfl := Option.some.inj ho3
                refine ⟨Or.inr rfl, _, _, _, (resVs_cons (ResV.tmp _ _ rfl) resVs_nil), (pubA_id rfl), ?_⟩
                rfl
              · replace h := ite_f hc h
                clear hc
                refine cskip ?_
                refine then_normal ?_
                exact ⟨(), _, h, ⟨rfl, rfl, rfl, rfl, rfl, trivial⟩, rfl⟩
      · replace h := ite_f hc h
        clear hc
        refine cexit ?_
        refine then_exit ?_
        refine then_exit ?_
        refine block_hit ?_
        refine then_normal ?_
        obtain rfl := Option.some.inj h
        obtain rfl : _ = x3 := hk3
        exact ⟨(), _, ho3, trivial, rfl⟩
  · skip
    refine cregion ?_
    refine sv rfl (opv_fieldAddr_lp fi28_0 rfl) ?_
    refine sv rfl (opv_load1 ti3 rfl (.lp _ _ _ rfl) rfl) ?_
    refine sv rfl (opv_lss rfl rfl) ?_
    refine sv rfl (opv_mv rfl) ?_
    refine ssplit 9 rfl (fun hc => ?_) (fun hc => ?_)
    · replace h := ite_t hc h
      clear hc
      refine soff rfl rfl rfl rfl ?_
      refine soff rfl rfl rfl rfl ?_
      refine soff rfl rfl rfl rfl ?_
      refine sv rfl (opv_pick_t rfl rfl) ?_
      refine sv rfl (opv_mv rfl) ?_
      refine soff rfl rfl rfl rfl ?_
      refine soff rfl rfl rfl rfl ?_
      refine soff rfl rfl rfl rfl ?_
      refine soff rfl rfl rfl rfl ?_
      refine sv rfl (opv_pick_t rfl rfl) ?_
      refine snil ?_
      refine ccond rfl (fun _ => ?_) (fun hx => Bool.noConfusion hx)
      refine cseq ?_
      refine cregion ?_
      refine sv rfl (opv_as rfl) ?_
      refine snil ?_
      refine cret ?_
      refine then_ret ?_
      obtain rfl := Option.some.inj h
      refine ⟨Or.inr rfl, _, _, _, (resVs_cons (ResV.tmp _ _ rfl) resVs_nil), (pubA_id rfl), ?_⟩
      rfl
    · replace h := ite_f hc h
      clear hc
      refine son rfl rfl rfl ?_
      refine sv rfl (opv_fieldAddr_lp fi28_0 rfl) ?_
      refine son rfl rfl rfl ?_
      refine sv rfl (opv_load1 ti3 rfl (.lp _ _ _ rfl) rfl) ?_
      refine son rfl rfl rfl ?_
      refine sv rfl (opv_gtr rfl rfl) ?_
      refine sv rfl (opv_pick_f rfl rfl) ?_
      refine sv rfl (opv_mv rfl) ?_
      refine ssplit 14 rfl (fun hc => ?_) (fun hc => ?_)
      · replace h := ite_t hc h
        clear hc
        refine soff rfl rfl rfl rfl ?_
        refine soff rfl rfl rfl rfl ?_
        refine soff rfl rfl rfl rfl ?_
        refine soff rfl rfl rfl rfl ?_
        refine sv rfl (opv_pick_t rfl rfl) ?_
        refine snil ?_
        refine ccond rfl (fun _ => ?_) (fun hx => Bool.noConfusion hx)
        refine cseq ?_
        refine cregion ?_
        refine sv rfl (opv_as rfl) ?_
        refine snil ?_
        refine cret ?_
        refine then_ret ?_
        obtain rfl := Option.some.inj h
        refine ⟨Or.inr rfl, _, _, _, (resVs_cons (ResV.tmp _ _ rfl) resVs_nil), (pubA_id rfl), ?_⟩
        rfl
      · replace h := ite_f hc h
        clear hc
        refine son rfl rfl rfl ?_
        refine sv rfl (opv_fieldAddr_lp fi28_1 rfl) ?_
        refine son rfl rfl rfl ?_
        refine sv rfl (opv_load1 ti26 rfl (.lp _ _ _ rfl) rfl) ?_
        refine son rfl rfl rfl ?_
        refine sv rfl (opv_len_sl si26 rfl) ?_
        refine son rfl rfl rfl ?_
        refine sv rfl (opv_gtr rfl rfl) ?_
        refine sv rfl (opv_pick_f rfl rfl) ?_
        refine snil ?_
        refine ccond rfl (fun hc => ?_) (fun hc => ?_)
        · replace h := ite_t hc h
          clear hc
          refine cseq ?_
          refine cregion ?_
          refine sv rfl (opv_as rfl) ?_
          refine snil ?_
          refine cret ?_
          refine then_ret ?_
          obtain rfl := Option.some.inj h
          refine ⟨Or.inr rfl, _, _, _, (resVs_cons (ResV.tmp _ _ rfl) resVs_nil), (pubA_id rfl), ?_⟩
          rfl
        · replace h := ite_f hc h
          clear hc
          refine cskip ?_
          refine then_normal ?_
          exact ⟨(), _, h, ⟨rfl, trivial⟩, rfl⟩

def m26_slices_Clone (a0 : List GTimersTimer) : Option (List GTimersTimer) :=
  if (([] : List GTimersTimer).length + a0.length) * 16 ≤ 140737488355328 then (some (([] : List GTimersTimer) ++ a0)) else none

set_option maxRecDepth 100000 in
theorem m26_slices_Clone_c {a0 : List GTimersTimer} {r : (List GTimersTimer)} (h : m26_slices_Clone a0 = some r) : CallsA Try.prog 26 [.one (.sl a0.length (a0.flatMap eGTimersTimer))] (· = .s (.one (.sl r.length (r.flatMap eGTimersTimer)))) := by
  unfold m26_slices_Clone at h
  refine callsA_of Try.func26 rfl (nt := 8) rfl (Nat.le_of_ble_eq_true rfl) ?_
  intro w0 S0
  refine cseq ?_
  refine cregion ?_
  refine sv rfl (opv_as rfl) ?_
  refine snil ?_
  refine cseq ?_
  refine cseq ?_
  refine cregion ?_
  refine sv rfl (opv_mv rfl) ?_
  refine snilq rfl Try.underlying26 rfl (fun nq hnq => ?_)
  cases nq
  · skip
    refine snil ?_
    refine ccond rfl (fun hx => Bool.noConfusion hx) (fun _ => ?_)
    refine cskip ?_
    refine then_normal ?_
    refine cseq ?_
    refine cregion ?_
    refine sbuild0 rfl Try.underlying26 ei61 ?_
    refine sv rfl (opv_mv rfl) ?_
    obtain ⟨hb1, h⟩ := chk_eq h
    refine sapp (f := eGTimersTimer) (xs := ([] : List GTimersTimer)) (us := a0) rfl Try.underlying26 ei61 ni26 (fun _ => rfl) rfl rfl (.one _ _ _ _ (.id _ rfl)) rfl rfl rfl (.sl _ _ _ (flat_len (f := eGTimersTimer) (fun _ => rfl) _)) rfl rfl hb1 (by decide) ?_
    refine sv rfl (opv_as rfl) ?_
    refine snil ?_
    refine cret ?_
    obtain rfl := Option.some.inj h
    refine ⟨Or.inr rfl, _, _, _, (resVs_cons (ResV.tmp _ _ rfl) resVs_nil), (by (repeat' first | exact PubA.nil _ | apply PubA.cons | apply PubV.one | apply PubV.agg | exact PubL.nil | exact PubL.ls _ _ _ _ _ _ rfl (flat_len (f := eGTimersTimer) (fun _ => rfl) _).symm | exact PubL.id _ rfl | exact PubLs.nil _ | apply PubLs.cons)), ?_⟩
    rfl
  · obtain rfl := List.eq_nil_of_length_eq_zero (hnq rfl)
    replace h : (some ([] : List GTimersTimer)) = some r := by first | exact h | (rw [if_pos (by decide)] at h; exact h)
    refine snil ?_
    refine ccond rfl (fun _ => ?_) (fun hx => Bool.noConfusion hx)
    refine cseq ?_
    refine cregion ?_
    refine sv rfl (opv_as rfl) ?_
    refine snil ?_
    refine cret ?_
    refine then_ret ?_
    obtain rfl := Option.some.inj h
    refine ⟨Or.inr rfl, _, _, _, (resVs_cons (ResV.tmp _ _ rfl) resVs_nil), (pubC rfl), ?_⟩
    rfl

def m26_slices_Cloneo (a0 : List GTimersTimer) : Option (List GTimersTimer) :=
  if (([] : List GTimersTimer).length + a0.length) * 16 ≤ 140737488355328 then (some (([] : List GTimersTimer) ++ a0)) else none

set_option maxRecDepth 100000 in
theorem m26_slices_Cloneo_c {a0 : List GTimersTimer} {r : (List GTimersTimer)} (h : m26_slices_Cloneo a0 = some r) : CallsB Try.prog 26 [] [.one (.sl a0.length (a0.flatMap eGTimersTimer))] (fun y m' => y = .s (.one (.ls 0 r.length)) ∧ m' = [.arr 61 2 0 (r.flatMap eGTimersTimer)]) := by
  unfold m26_slices_Cloneo at h
  refine callsB_of Try.func26 rfl (nt := 8) rfl (Nat.le_of_ble_eq_true rfl) ?_
  intro w0 S0 X0 H0
  refine cseq ?_
  refine cregion ?_
  refine sv rfl (opv_as rfl) ?_
  refine snil ?_
  refine cseq ?_
  refine cseq ?_
  refine cregion ?_
  refine sv rfl (opv_mv rfl) ?_
  refine snilq rfl Try.underlying26 rfl (fun nq hnq => ?_)
  cases nq
  · skip
    refine snil ?_
    refine ccond rfl (fun hx => Bool.noConfusion hx) (fun _ => ?_)
    refine cskip ?_
    refine then_normal ?_
    refine cseq ?_
    refine cregion ?_
    refine sbuild0 rfl Try.underlying26 ei61 ?_
    refine sv rfl (opv_mv rfl) ?_
    obtain ⟨hb1, h⟩ := chk_eq h
    refine sapp (f := eGTimersTimer) (xs := ([] : List GTimersTimer)) (us := a0) rfl Try.underlying26 ei61 ni26 (fun _ => rfl) rfl rfl (.one _ _ _ _ (.id _ rfl)) rfl rfl rfl (.sl _ _ _ (flat_len (f := eGTimersTimer) (fun _ => rfl) _)) rfl rfl hb1 (by decide) ?_
    refine sv rfl (opv_as rfl) ?_
    refine snil ?_
    refine cret ?_
    obtain rfl := Option.some.inj h
    exact ⟨Or.inr rfl, _, [0], [.one (.ls 0 (([] : List GTimersTimer) ++ a0).length)], [.arr 61 2 0 ((([] : List GTimersTimer) ++ a0).flatMap eGTimersTimer)], (resVs_cons (ResV.tmp _ _ rfl) resVs_nil), rfl, rfl, ⟨by decide, rfl⟩, rfl, rfl, ⟨rfl, rfl⟩⟩
  · obtain rfl := List.eq_nil_of_length_eq_zero (hnq rfl)
    replace h : (some ([] : List GTimersTimer)) = some r := by first | exact h | (rw [if_pos (by decide)] at h; exact h)
    refine snil ?_
    refine ccond rfl (fun _ => ?_) (fun hx => Bool.noConfusion hx)
    refine cseq ?_
    refine cregion ?_
    refine sv rfl (opv_as rfl) ?_
    refine snil ?_
    refine sadopt_c 61 2 2 (by decide) rfl ?_
    refine cret ?_
    refine then_ret ?_
    obtain rfl := Option.some.inj h
    exact ⟨Or.inr rfl, _, [0], [.one (.ls 0 ([] : List GTimersTimer).length)], [.arr 61 2 0 (([] : List GTimersTimer).flatMap eGTimersTimer)], (resVs_cons (ResV.tmp _ _ rfl) resVs_nil), rfl, rfl, ⟨by decide, rfl⟩, rfl, rfl, ⟨rfl, rfl⟩⟩

omit [Env] [AtEnv] in
theorem inj_of_map {α β : Type} {f : α → β} : ∀ {l : List α}, (l.map f).Nodup → ∀ x ∈ l, ∀ y ∈ l, f x = f y → x = y
  | a :: l, h, x, hx, y, hy, e => by
    rw [List.map_cons, List.nodup_cons] at h
    rcases List.mem_cons.1 hx with h1 | h1
    · rcases List.mem_cons.1 hy with h2 | h2
      · rw [h1, h2]
      · exact absurd (List.mem_map.2 ⟨y, h2, by rw [← e, h1]⟩) h.1
    · rcases List.mem_cons.1 hy with h2 | h2
      · exact absurd (List.mem_map.2 ⟨x, h1, by rw [e, h2]⟩) h.1
      · exact inj_of_map h.2 x h1 y h2 e
def sortF28 (a : List GTimersTimer) : List GTimersTimer := a.mergeSort fun x y => decide (x.ID ≤ y.ID)
omit [Env] [AtEnv] in
theorem sortF28_uniq {a zs : List GTimersTimer} (hd : (a.map (·.ID)).Nodup) (hp : zs.Perm a) (hs : zs.Pairwise fun x y => x.ID ≤ y.ID) : zs = sortF28 a := by
  have hm : (sortF28 a).Perm a := List.mergeSort_perm a _
  refine List.Perm.eq_of_pairwise (le := fun x y => x.ID ≤ y.ID) (fun x y hx hy h1 h2 => ?_) hs ?_ (hp.trans hm.symm)
  · exact inj_of_map hd x (hp.mem_iff.1 hx) y (hm.mem_iff.1 hy) (Int.le_antisymm h1 h2)
  · exact (List.pairwise_mergeSort (le := fun x y : GTimersTimer => decide (x.ID ≤ y.ID)) (fun a b c h1 h2 => by simp at *; omega) (fun a b => by simp; omega) a).imp fun h => by simpa using h
def m27_slices_SortFunc_28 (a0 : List GTimersTimer) : Option (List GTimersTimer) := if a0.length ≤ 1000000000000000000 ∧ (a0.map (·.ID)).Nodup then some (sortF28 a0) else none
theorem m27_slices_SortFunc_28_c {a0 r : List GTimersTimer} (h : m27_slices_SortFunc_28 a0 = some r) : CallsB Try.prog 27 [.arr 61 2 0 (a0.flatMap eGTimersTimer)] [.one (.ls 0 a0.length), .one (.raw (.func (.func 28) #[] #[]))] (fun y m' => y = .tup [] ∧ m' = [.arr 61 2 0 (r.flatMap eGTimersTimer)]) := by
  unfold m27_slices_SortFunc_28 at h
  split at h
  · rename_i hh
    obtain rfl := Option.some.inj h
    exact sort28_K (p := GTimersTimer.ID) (q := GTimersTimer.At) (fun _ => rfl) hh.1 fun zs hz hs => sortF28_uniq hh.2 hz hs
  · cases h

def m9_timers_Set_k1 (a0 : GTimersTable) (a1 : Int) (a2 : Int) (b1 : Unit) : Option (GTimersTable × Int) :=
  (m22_timers_Clear (GTimersTable.mk a0.Now a0.L) a1).bind fun v2 => (m26_slices_Cloneo v2.L).bind fun v3 => if (v3.length + ([(GTimersTimer.mk a1 (wI (a0.Now + a2)))] : List GTimersTimer).length) * 16 ≤ 140737488355328 then (if (decide (64 < ((v3 ++ ([(GTimersTimer.mk a1 (wI (a0.Now + a2)))] : List GTimersTimer)).length : Int))) then (some ((GTimersTable.mk 0 ([] : List GTimersTimer)), 8)) else ((m27_slices_SortFunc_28 (v3 ++ ([(GTimersTimer.mk a1 (wI (a0.Now + a2)))] : List GTimersTimer))).bind fun v5 => if v5.length = (v3 ++ ([(GTimersTimer.mk a1 (wI (a0.Now + a2)))] : List GTimersTimer)).length then (some ((GTimersTable.mk a0.Now v5), 0)) else none)) else none
def m9_timers_Set (a0 : GTimersTable) (a1 : Int) (a2 : Int) : Option (GTimersTable × Int) :=
  (m20_timers_Sane (GTimersTable.mk a0.Now a0.L)).bind fun v7 => if (!v7) then (some ((GTimersTable.mk 0 ([] : List GTimersTimer)), 1)) else (if (decide (a1 < 0)) then (some ((GTimersTable.mk 0 ([] : List GTimersTimer)), 1)) else (if (decide (a2 < 1)) then (some ((GTimersTable.mk 0 ([] : List GTimersTimer)), 1)) else (if (decide (1099511627776 < a2)) then (some ((GTimersTable.mk 0 ([] : List GTimersTimer)), 1)) else (m9_timers_Set_k1 a0 a1 a2 ()))))

set_option maxRecDepth 100000 in
theorem m9_timers_Set_c {a0 : GTimersTable} {a1 : Int} {a2 : Int} {r : GTimersTable × Int} (h : m9_timers_Set a0 a1 a2 = some r) : CallsA Try.prog 9 [.agg a0, .one (.i .i64 a1), .one (.i .i64 a2)] (· = .tup [.agg r.1, .one (.i .i64 r.2)]) := by
  unfold m9_timers_Set at h
  refine callsA_of Try.func9 rfl (nt := 48) rfl (Nat.le_of_ble_eq_true rfl) ?_
  intro w0 S0
  refine cseq ?_
  refine cregion ?_
  refine sbox rfl rfl ?_
  refine salloc rfl zi28 ?_
  refine sv rfl (opv_as rfl) ?_
  refine snil ?_
  refine cseq ?_
  refine cseq ?_
  refine cjoin3 (Unit) (fun b1 => [(1, .s (.one (.i .i64 a1))), (2, .s (.one (.i .i64 a2))), (3, .s (.one (.lp 0 0))), (6, .s (.one (.lp 1 0)))]) (fun b1 => [.box a0, .box [.i .i64 0, .raw (.slice none 0 0)]]) (fun b1 => m9_timers_Set_k1 a0 a1 a2 b1 = some r) (fun _ _ => inbL_of rfl) (fun _ _ => blkinb_of rfl) (fun _ _ => Nat.le_of_ble_eq_true rfl) (fun b1 h => ?_) ?_
  · unfold m9_timers_Set_k1 at h
    refine cseq ?_
    refine chole ?_
    obtain ⟨v2, hv2, h⟩ := bind_eq h
    obtain ⟨v3, hv3, h⟩ := bind_eq h
    obtain ⟨hb4, h⟩ := chk_eq h
    refine cdraw_e [4, 12] [0, 0, 3, 7, 15, 0, 0, 64, 0, 448, 992, 2016, 4095, 8191] [[.box a0, .box [.i .i64 0, .raw (.slice none 0 0)], .hole], [.box a0, .box [.i .i64 0, .raw (.slice none 0 0)], .arr 61 2 0 (v3.flatMap eGTimersTimer)], [.box a0, .box [.i .i64 0, .raw (.slice none 0 0)], .arr 61 2 0 ((v3 ++ ([(GTimersTimer.mk a1 (wI (a0.Now + a2)))] : List GTimersTimer)).flatMap eGTimersTimer)]] (by kernel_rfl) mixed (by kernel_rfl) (by decide) rfl rfl rfl rfl ?_
    refine ev (sees_at 0 rfl rfl) rfl rfl (opv_loadN ti28 rfl (.lp _ _ _ rfl) (Nat.le_of_ble_eq_true rfl)) ?_
    refine ev (sees_at 0 rfl rfl) rfl rfl (opv_mv rfl) ?_
    refine ed (sees_at 0 rfl rfl) rfl rfl (opD_call fn22 (opnds_cons rfl (opnds_cons rfl opnds_nil)) rfl (m22_timers_Clear_c hv2)) ?_
    refine ev (sees_at 0 rfl rfl) rfl rfl (opv_field1 ft28_1 ti26 rfl rfl) ?_
    refine ee (x := .s (.one (.ls 2 v3.length))) 0 rfl rfl rfl rfl rfl (fun ζ => ?_) ?_
    · refine scallB_at (g := eGTimersTimer) (ys := v3) 2 rfl fn26 (.func _) (opnds_cons rfl opnds_nil) (m26_slices_Cloneo_c hv3) rfl (fun _ => rfl) rfl rfl rfl rfl ?_
      exact eend
    refine emv rfl rfl (fun _ => opv_mv rfl) ?_
    refine evA rfl rfl (all_cons (opv_fieldAddr_lp fi28_0 rfl) (all_cons (opv_fieldAddr_lp fi28_0 rfl) (all_cons (opv_fieldAddr_lp fi28_0 rfl) all_nil))) ?_
    refine evA rfl rfl (all_cons (opv_load1 ti3 rfl (.lp _ _ _ rfl) rfl) (all_cons (opv_load1 ti3 rfl (.lp _ _ _ rfl) rfl) (all_cons (opv_load1 ti3 rfl (.lp _ _ _ rfl) rfl) all_nil))) ?_
    refine emv rfl rfl (fun _ => opv_mv rfl) ?_
    refine evA rfl rfl (all_cons (opv_add rfl rfl) (all_cons (opv_add rfl rfl) (all_cons (opv_add rfl rfl) all_nil))) ?_
    refine evA rfl rfl (all_cons (opv_build zi61 pi61 (parts_cons rfl (parts_cons rfl parts_nil)) (.cons _ _ _ _ _ _ _ rfl rfl (Nat.le_of_ble_eq_true rfl) (.cons _ _ _ _ _ _ _ rfl rfl (Nat.le_of_ble_eq_true rfl) (.nil _)))) (all_cons (opv_build zi61 pi61 (parts_cons rfl (parts_cons rfl parts_nil)) (.cons _ _ _ _ _ _ _ rfl rfl (Nat.le_of_ble_eq_true rfl) (.cons _ _ _ _ _ _ _ rfl rfl (Nat.le_of_ble_eq_true rfl) (.nil _)))) (all_cons (opv_build zi61 pi61 (parts_cons rfl (parts_cons rfl parts_nil)) (.cons _ _ _ _ _ _ _ rfl rfl (Nat.le_of_ble_eq_true rfl) (.cons _ _ _ _ _ _ _ rfl rfl (Nat.le_of_ble_eq_true rfl) (.nil _)))) all_nil))) ?_
    refine edA rfl rfl (all_cons (opD_bld (out := ([(GTimersTimer.mk a1 (wI (a0.Now + a2)))] : List GTimersTimer).flatMap eGTimersTimer) Try.underlying26 ei61 (parts_cons rfl parts_nil) (.cons _ _ _ _ _ _ _ rfl rfl (Nat.le_of_ble_eq_true rfl) (.nil _)) rfl (by decide)) (all_cons (opD_bld (out := ([(GTimersTimer.mk a1 (wI (a0.Now + a2)))] : List GTimersTimer).flatMap eGTimersTimer) Try.underlying26 ei61 (parts_cons rfl parts_nil) (.cons _ _ _ _ _ _ _ rfl rfl (Nat.le_of_ble_eq_true rfl) (.nil _)) rfl (by decide)) (all_cons (opD_bld (out := ([(GTimersTimer.mk a1 (wI (a0.Now + a2)))] : List GTimersTimer).flatMap eGTimersTimer) Try.underlying26 ei61 (parts_cons rfl parts_nil) (.cons _ _ _ _ _ _ _ rfl rfl (Nat.le_of_ble_eq_true rfl) (.nil _)) rfl (by decide)) all_nil))) ?_
    refine ee (x := .s (.one (.ls 2 (v3 ++ ([(GTimersTimer.mk a1 (wI (a0.Now + a2)))] : List GTimersTimer)).length))) 1 rfl rfl rfl rfl rfl (fun ζ => ?_) ?_
    · refine sapp (f := eGTimersTimer) (xs := v3) (us := ([(GTimersTimer.mk a1 (wI (a0.Now + a2)))] : List GTimersTimer)) rfl Try.underlying26 ei61 ni26 (fun _ => rfl) rfl rfl (.one _ _ _ _ (.id _ rfl)) rfl rfl rfl (.sl _ _ _ (flat_len (f := eGTimersTimer) (fun _ => rfl) _)) rfl rfl hb4 (by decide) ?_
      exact eend
    refine ev (sees_at 2 rfl rfl) rfl rfl (opv_as rfl) ?_
    refine enil ?_
    refine then_normal ?_
    refine cseq ?_
    refine cseq ?_
    refine cregion ?_
    refine sv rfl (opv_mv rfl) ?_
    refine sv rfl (opv_len_ls si26 rfl rfl (flat_len (f := eGTimersTimer) (fun _ => rfl) _).symm) ?_
    refine sv rfl (opv_gtr rfl rfl) ?_
    refine snil ?_
    refine ccond rfl (fun hc => ?_) (fun hc => ?_)
    · replace h := ite_t hc h
      clear hc
      refine cseq ?_
      refine cregion ?_
      refine sv rfl (opv_build zi28 pi28 parts_nil (.nil _)) ?_
      refine sstore sz28 rfl rfl rfl rfl (Nat.le_of_ble_eq_true rfl) ?_
      refine smem [.box a0, .box [.i .i64 0, .raw (.slice none 0 0)], .arr 61 2 0 ((v3 ++ ([(GTimersTimer.mk a1 (wI (a0.Now + a2)))] : List GTimersTimer)).flatMap eGTimersTimer)] rfl ?_
      refine sv rfl (opv_as rfl) ?_
      refine snil ?_
      refine cret ?_
      refine then_ret ?_
      obtain rfl := Option.some.inj h
      refine ⟨Or.inr rfl, _, _, _, (resVs_cons (ResV.agg _ _ _ _ _ ti28 rfl (.lp _ _ _ rfl) (Nat.le_of_ble_eq_true rfl)) (resVs_cons (ResV.tmp _ _ rfl) resVs_nil)), (pubC rfl), ?_⟩
      rfl
    · replace h := ite_f hc h
      clear hc
      refine cskip ?_
      refine then_normal ?_
      refine cseq ?_
      refine cregion ?_
      refine sv rfl (opv_mv rfl) ?_
      obtain ⟨v5, hv5, h⟩ := bind_eq h
      refine scallB (x' := .tup []) (M' := [.box a0, .box [.i .i64 0, .raw (.slice none 0 0)], .arr 61 2 0 (v5.flatMap eGTimersTimer)]) [2] rfl fn27 (.func _) (opnds_cons rfl (opnds_cons rfl opnds_nil)) (m27_slices_SortFunc_28_c hv5) rfl rfl (by decide) rfl rfl rfl ?_
      obtain ⟨hl6, h⟩ := chk_eq h
      refine stell 37 (y := .s (.one (.ls 2 (v3 ++ ([(GTimersTimer.mk a1 (wI (a0.Now + a2)))] : List GTimersTimer)).length))) (.s (.one (.ls 2 v5.length))) rfl (congrArg (fun n => AV.s (.one (.ls 2 n))) hl6.symm) ?_
      refine stell 8 (y := .s (.one (.ls 2 (v3 ++ ([(GTimersTimer.mk a1 (wI (a0.Now + a2)))] : List GTimersTimer)).length))) (.s (.one (.ls 2 v5.length))) rfl (congrArg (fun n => AV.s (.one (.ls 2 n))) hl6.symm) ?_
      refine stell 38 (y := .s (.one (.ls 2 (v3 ++ ([(GTimersTimer.mk a1 (wI (a0.Now + a2)))] : List GTimersTimer)).length))) (.s (.one (.ls 2 v5.length))) rfl (congrArg (fun n => AV.s (.one (.ls 2 n))) hl6.symm) ?_
      refine stell 42 (y := .s (.one (.ls 2 (v3 ++ ([(GTimersTimer.mk a1 (wI (a0.Now + a2)))] : List GTimersTimer)).length))) (.s (.one (.ls 2 v5.length))) rfl (congrArg (fun n => AV.s (.one (.ls 2 n))) hl6.symm) ?_
      refine snil ?_
      refine cseq ?_
      refine cregion ?_
      refine sv rfl (opv_fieldAddr_lp fi28_0 rfl) ?_
      refine sv rfl (opv_load1 ti3 rfl (.lp _ _ _ rfl) rfl) ?_
      refine sv rfl (opv_mv rfl) ?_
      refine sv rfl (opv_build zi28 pi28 (parts_cons rfl (parts_cons rfl parts_nil)) (.cons _ _ _ _ _ _ _ rfl rfl (Nat.le_of_ble_eq_true rfl) (.cons _ _ _ _ _ _ _ rfl rfl (Nat.le_of_ble_eq_true rfl) (.nil _)))) ?_
      refine sstore sz28 rfl rfl rfl rfl (Nat.le_of_ble_eq_true rfl) ?_
      refine smem [.box a0, .box [.i .i64 a0.Now, .ls 2 v5.length], .arr 61 2 0 (v5.flatMap eGTimersTimer)] rfl ?_
      refine sv rfl (opv_as rfl) ?_
      refine snil ?_
      refine cret ?_
      obtain rfl := Option.some.inj h
      refine ⟨Or.inr rfl, _, _, _, (resVs_cons (ResV.agg _ _ _ _ _ ti28 rfl (.lp _ _ _ rfl) (Nat.le_of_ble_eq_true rfl)) (resVs_cons (ResV.tmp _ _ rfl) resVs_nil)), (by (repeat' first | exact PubA.nil _ | apply PubA.cons | apply PubV.one | apply PubV.agg | exact PubL.nil | exact PubL.ls _ _ _ _ _ _ rfl (flat_len (f := eGTimersTimer) (fun _ => rfl) _).symm | exact PubL.id _ rfl | exact PubLs.nil _ | apply PubLs.cons)), ?_⟩
      rfl
  · skip
    refine cregion ?_
    refine sv rfl (opv_loadN ti28 rfl (.lp _ _ _ rfl) (Nat.le_of_ble_eq_true rfl)) ?_
    obtain ⟨v7, hv7, h⟩ := bind_eq h
    refine scall1 rfl fn20 (opnds_cons rfl opnds_nil) (pubA_id rfl) (m20_timers_Sane_c hv7) ?_
    refine sv rfl (opv_not rfl) ?_
    refine sv rfl (opv_mv rfl) ?_
    refine ssplit 12 rfl (fun hc => ?_) (fun hc => ?_)
    · replace h := ite_t hc h
      clear hc
      refine soff rfl rfl rfl rfl ?_
      refine soff rfl rfl rfl rfl ?_
      refine sv rfl (opv_pick_t rfl rfl) ?_
      refine sv rfl (opv_mv rfl) ?_
      refine soff rfl rfl rfl rfl ?_
      refine soff rfl rfl rfl rfl ?_
      refine sv rfl (opv_pick_t rfl rfl) ?_
      refine sv rfl (opv_mv rfl) ?_
      refine soff rfl rfl rfl rfl ?_
      refine soff rfl rfl rfl rfl ?_
      refine sv rfl (opv_pick_t rfl rfl) ?_
      refine snil ?_
      refine ccond rfl (fun _ => ?_) (fun hx => Bool.noConfusion hx)
      refine cseq ?_
      refine cregion ?_
      refine sv rfl (opv_build zi28 pi28 parts_nil (.nil _)) ?_
      refine sstore sz28 rfl rfl rfl rfl (Nat.le_of_ble_eq_true rfl) ?_
      refine smem [.box a0, .box [.i .i64 0, .raw (.slice none 0 0)]] rfl ?_
      refine sv rfl (opv_as rfl) ?_
      refine snil ?_
      refine cret ?_
      refine then_ret ?_
      obtain rfl := Option.some.inj h
      refine ⟨Or.inr rfl, _, _, _, (resVs_cons (ResV.agg _ _ _ _ _ ti28 rfl (.lp _ _ _ rfl) (Nat.le_of_ble_eq_true rfl)) (resVs_cons (ResV.tmp _ _ rfl) resVs_nil)), (pubC rfl), ?_⟩
      rfl
    · replace h := ite_f hc h
      clear hc
      refine son rfl rfl rfl ?_
      refine sv rfl (opv_mv rfl) ?_
      refine son rfl rfl rfl ?_
      refine sv rfl (opv_lss rfl rfl) ?_
      refine sv rfl (opv_pick_f rfl rfl) ?_
      refine sv rfl (opv_mv rfl) ?_
      refine ssplit 16 rfl (fun hc => ?_) (fun hc => ?_)
      · replace h := ite_t hc h
        clear hc
        refine soff rfl rfl rfl rfl ?_
        refine soff rfl rfl rfl rfl ?_
        refine sv rfl (opv_pick_t rfl rfl) ?_
        refine sv rfl (opv_mv rfl) ?_
        refine soff rfl rfl rfl rfl ?_
        refine soff rfl rfl rfl rfl ?_
        refine sv rfl (opv_pick_t rfl rfl) ?_
        refine snil ?_
        refine ccond rfl (fun _ => ?_) (fun hx => Bool.noConfusion hx)
        refine cseq ?_
        refine cregion ?_
        refine sv rfl (opv_build zi28 pi28 parts_nil (.nil _)) ?_
        refine sstore sz28 rfl rfl rfl rfl (Nat.le_of_ble_eq_true rfl) ?_
        refine smem [.box a0, .box [.i .i64 0, .raw (.slice none 0 0)]] rfl ?_
        refine sv rfl (opv_as rfl) ?_
        refine snil ?_
        refine cret ?_
        refine then_ret ?_
        obtain rfl := Option.some.inj h
        refine ⟨Or.inr rfl, _, _, _, (resVs_cons (ResV.agg _ _ _ _ _ ti28 rfl (.lp _ _ _ rfl) (Nat.le_of_ble_eq_true rfl)) (resVs_cons (ResV.tmp _ _ rfl) resVs_nil)), (pubC rfl), ?_⟩
        rfl
      · replace h := ite_f hc h
        clear hc
        refine son rfl rfl rfl ?_
        refine sv rfl (opv_mv rfl) ?_
        refine son rfl rfl rfl ?_
        refine sv rfl (opv_lss rfl rfl) ?_
        refine sv rfl (opv_pick_f rfl rfl) ?_
        refine sv rfl (opv_mv rfl) ?_
        refine ssplit 20 rfl (fun hc => ?_) (fun hc => ?_)
        · replace h := ite_t hc h
          clear hc
          refine soff rfl rfl rfl rfl ?_
          refine soff rfl rfl rfl rfl ?_
          refine sv rfl (opv_pick_t rfl rfl) ?_
          refine snil ?_
          refine ccond rfl (fun _ => ?_) (fun hx => Bool.noConfusion hx)
          refine cseq ?_
          refine cregion ?_
          refine sv rfl (opv_build zi28 pi28 parts_nil (.nil _)) ?_
          refine sstore sz28 rfl rfl rfl rfl (Nat.le_of_ble_eq_true rfl) ?_
          refine smem [.box a0, .box [.i .i64 0, .raw (.slice none 0 0)]] rfl ?_
          refine sv rfl (opv_as rfl) ?_
          refine snil ?_
          refine cret ?_
          refine then_ret ?_
          obtain rfl := Option.some.inj h
          refine ⟨Or.inr rfl, _, _, _, (resVs_cons (ResV.agg _ _ _ _ _ ti28 rfl (.lp _ _ _ rfl) (Nat.le_of_ble_eq_true rfl)) (resVs_cons (ResV.tmp _ _ rfl) resVs_nil)), (pubC rfl), ?_⟩
          rfl
        · replace h := ite_f hc h
          clear hc
          refine son rfl rfl rfl ?_
          refine sv rfl (opv_mv rfl) ?_
          refine son rfl rfl rfl ?_
          refine sv rfl (opv_gtr rfl rfl) ?_
          refine sv rfl (opv_pick_f rfl rfl) ?_
          refine snil ?_
          refine ccond rfl (fun hc => ?_) (fun hc => ?_)
          · replace h := ite_t hc h
            clear hc
            refine cseq ?_
            refine cregion ?_
            refine sv rfl (opv_build zi28 pi28 parts_nil (.nil _)) ?_
            refine sstore sz28 rfl rfl rfl rfl (Nat.le_of_ble_eq_true rfl) ?_
            refine smem [.box a0, .box [.i .i64 0, .raw (.slice none 0 0)]] rfl ?_
            refine sv rfl (opv_as rfl) ?_
            refine snil ?_
            refine cret ?_
            refine then_ret ?_
            obtain rfl := Option.some.inj h
            refine ⟨Or.inr rfl, _, _, _, (resVs_cons (ResV.agg _ _ _ _ _ ti28 rfl (.lp _ _ _ rfl) (Nat.le_of_ble_eq_true rfl)) (resVs_cons (ResV.tmp _ _ rfl) resVs_nil)), (pubC rfl), ?_⟩
            rfl
          · replace h := ite_f hc h
            clear hc
            refine cskip ?_
            refine then_normal ?_
            exact ⟨(), _, h, ⟨rfl, rfl, rfl, rfl, trivial⟩, rfl⟩

def m45_cmp_isNaN (a0 : Int) : Option Bool :=
  some (!decide (a0 = a0))

set_option maxRecDepth 100000 in
theorem m45_cmp_isNaN_c {a0 : Int} {r : Bool} (h : m45_cmp_isNaN a0 = some r) : CallsA Try.prog 45 [.one (.i .i64 a0)] (· = .s (.one (.b r))) := by
  unfold m45_cmp_isNaN at h
  refine callsA_of Try.func45 rfl (nt := 6) rfl (Nat.le_of_ble_eq_true rfl) ?_
  intro w0 S0
  refine cseq ?_
  refine cregion ?_
  refine sv rfl (opv_as rfl) ?_
  refine snil ?_
  refine cseq ?_
  refine cregion ?_
  refine sv rfl (opv_mv rfl) ?_
  refine sv rfl (opv_mv rfl) ?_
  refine sv rfl (opv_ineq rfl rfl) ?_
  refine sv rfl (opv_as rfl) ?_
  refine snil ?_
  refine cret ?_
  obtain rfl := Option.some.inj h
  refine ⟨Or.inr rfl, _, _, _, (resVs_cons (ResV.tmp _ _ rfl) resVs_nil), (pubA_id rfl), ?_⟩
  rfl

def m34_cmp_Compare (a0 : Int) (a1 : Int) : Option Int :=
  (m45_cmp_isNaN a0).bind fun v1 => (m45_cmp_isNaN a1).bind fun v2 => if v1 then (if v2 then (some 0) else (some (-1))) else (if v2 then (some 1) else (if (decide (a0 < a1)) then (some (-1)) else (if (decide (a1 < a0)) then (some 1) else (some 0))))

set_option maxRecDepth 100000 in
theorem m34_cmp_Compare_c {a0 : Int} {a1 : Int} {r : Int} (h : m34_cmp_Compare a0 a1 = some r) : CallsA Try.prog 34 [.one (.i .i64 a0), .one (.i .i64 a1)] (· = .s (.one (.i .i64 r))) := by
  unfold m34_cmp_Compare at h
  refine callsA_of Try.func34 rfl (nt := 20) rfl (Nat.le_of_ble_eq_true rfl) ?_
  intro w0 S0
  refine cseq ?_
  refine cregion ?_
  refine sv rfl (opv_as rfl) ?_
  refine snil ?_
  refine cseq ?_
  refine cregion ?_
  refine sv rfl (opv_mv rfl) ?_
  obtain ⟨v1, hv1, h⟩ := bind_eq h
  refine scall1 rfl fn45 (opnds_cons rfl opnds_nil) (pubA_id rfl) (m45_cmp_isNaN_c hv1) ?_
  refine sv rfl (opv_as rfl) ?_
  refine snil ?_
  refine cseq ?_
  refine cregion ?_
  refine sv rfl (opv_mv rfl) ?_
  obtain ⟨v2, hv2, h⟩ := bind_eq h
  refine scall1 rfl fn45 (opnds_cons rfl opnds_nil) (pubA_id rfl) (m45_cmp_isNaN_c hv2) ?_
  refine sv rfl (opv_as rfl) ?_
  refine snil ?_
  refine cseq ?_
  refine cseq ?_
  refine cregion ?_
  refine sv rfl (opv_mv rfl) ?_
  refine snil ?_
  refine ccond rfl (fun hc => ?_) (fun hc => ?_)
  · replace h := ite_t hc h
    clear hc
    refine cseq ?_
    refine cseq ?_
    refine cregion ?_
    refine sv rfl (opv_mv rfl) ?_
    refine snil ?_
    refine ccond rfl (fun hc => ?_) (fun hc => ?_)
    · replace h := ite_t hc h
      clear hc
      refine cseq ?_
      refine cregion ?_
      refine sv rfl (opv_as rfl) ?_
      refine snil ?_
      refine cret ?_
      refine then_ret ?_
      refine then_ret ?_
      obtain rfl := Option.some.inj h
      refine ⟨Or.inr rfl, _, _, _, (resVs_cons (ResV.tmp _ _ rfl) resVs_nil), (pubA_id rfl), ?_⟩
      rfl
    · replace h := ite_f hc h
      clear hc
      refine cskip ?_
      refine then_normal ?_
      refine cseq ?_
      refine cregion ?_
      refine sv rfl (opv_as rfl) ?_
      refine snil ?_
      refine cret ?_
      refine then_ret ?_
      obtain rfl := Option.some.inj h
      refine ⟨Or.inr rfl, _, _, _, (resVs_cons (ResV.tmp _ _ rfl) resVs_nil), (pubA_id rfl), ?_⟩
      rfl
  · replace h := ite_f hc h
    clear hc
    refine cskip ?_
    refine then_normal ?_
    refine cseq ?_
    refine cseq ?_
    refine cregion ?_
    refine sv rfl (opv_mv rfl) ?_
    refine snil ?_
    refine ccond rfl (fun hc => ?_) (fun hc => ?_)
    · replace h := ite_t hc h
      clear hc
      refine cseq ?_
      refine cregion ?_
      refine sv rfl (opv_as rfl) ?_
      refine snil ?_
      refine cret ?_
      refine then_ret ?_
      obtain rfl := Option.some.inj h
      refine ⟨Or.inr rfl, _, _, _, (resVs_cons (ResV.tmp _ _ rfl) resVs_nil), (pubA_id rfl), ?_⟩
      rfl
    · replace h := ite_f hc h
      clear hc
      refine cskip ?_
      refine then_normal ?_
      refine cseq ?_
      refine cseq ?_
      refine cregion ?_
      refine sv rfl (opv_mv rfl) ?_
      refine sv rfl (opv_mv rfl) ?_
      refine sv rfl (opv_lss rfl rfl) ?_
      refine snil ?_
      refine ccond rfl (fun hc => ?_) (fun hc => ?_)
      · replace h := ite_t hc h
        clear hc
        refine cseq ?_
        refine cregion ?_
        refine sv rfl (opv_as rfl) ?_
        refine snil ?_
        refine cret ?_
        refine then_ret ?_
        obtain rfl := Option.some.inj h
        refine ⟨Or.inr rfl, _, _, _, (resVs_cons (ResV.tmp _ _ rfl) resVs_nil), (pubA_id rfl), ?_⟩
        rfl
      · replace h := ite_f hc h
        clear hc
        refine cskip ?_
        refine then_normal ?_
        refine cseq ?_
        refine cseq ?_
        refine cregion ?_
        refine sv rfl (opv_mv rfl) ?_
        refine sv rfl (opv_mv rfl) ?_
        refine sv rfl (opv_gtr rfl rfl) ?_
        refine snil ?_
        refine ccond rfl (fun hc => ?_) (fun hc => ?_)
        · replace h := ite_t hc h
          clear hc
          refine cseq ?_
          refine cregion ?_
          refine sv rfl (opv_as rfl) ?_
          refine snil ?_
          refine cret ?_
          refine then_ret ?_
          obtain rfl := Option.some.inj h
          refine ⟨Or.inr rfl, _, _, _, (resVs_cons (ResV.tmp _ _ rfl) resVs_nil), (pubA_id rfl), ?_⟩
          rfl
        · replace h := ite_f hc h
          clear hc
          refine cskip ?_
          refine then_normal ?_
          refine cseq ?_
          refine cregion ?_
          refine sv rfl (opv_as rfl) ?_
          refine snil ?_
          refine cret ?_
          obtain rfl := Option.some.inj h
          refine ⟨Or.inr rfl, _, _, _, (resVs_cons (ResV.tmp _ _ rfl) resVs_nil), (pubA_id rfl), ?_⟩
          rfl

def m28_timers_byID (a0 : GTimersTimer) (a1 : GTimersTimer) : Option Int :=
  (m34_cmp_Compare a0.ID a1.ID).bind fun v1 => some v1

set_option maxRecDepth 100000 in
theorem m28_timers_byID_c {a0 : GTimersTimer} {a1 : GTimersTimer} {r : Int} (h : m28_timers_byID a0 a1 = some r) : CallsA Try.prog 28 [.agg [.i .i64 a0.ID, .i .i64 a0.At], .agg [.i .i64 a1.ID, .i .i64 a1.At]] (· = .s (.one (.i .i64 r))) := by
  unfold m28_timers_byID at h
  refine callsA_of Try.func28 rfl (nt := 10) rfl (Nat.le_of_ble_eq_true rfl) ?_
  intro w0 S0
  refine cseq ?_
  refine cregion ?_
  refine sbox rfl rfl ?_
  refine sbox rfl rfl ?_
  refine sv rfl (opv_as rfl) ?_
  refine snil ?_
  refine cseq ?_
  refine cregion ?_
  refine sv rfl (opv_fieldAddr_lp fi61_0 rfl) ?_
  refine sv rfl (opv_load1 ti3 rfl (.lp _ _ _ rfl) rfl) ?_
  refine sv rfl (opv_fieldAddr_lp fi61_0 rfl) ?_
  refine sv rfl (opv_load1 ti3 rfl (.lp _ _ _ rfl) rfl) ?_
  obtain ⟨v1, hv1, h⟩ := bind_eq h
  refine scall1 rfl fn34 (opnds_cons rfl (opnds_cons rfl opnds_nil)) (pubA_id rfl) (m34_cmp_Compare_c hv1) ?_
  refine sv rfl (opv_as rfl) ?_
  refine snil ?_
  refine cret ?_
  obtain rfl := Option.some.inj h
  refine ⟨Or.inr rfl, _, _, _, (resVs_cons (ResV.tmp _ _ rfl) resVs_nil), (pubA_id rfl), ?_⟩
  rfl

def m31_timers_byAts (a0 : GTimersTimer) (a1 : GTimersTimer) : Option Int :=
  if (!decide (a0.At = a1.At)) then ((m34_cmp_Compare a0.At a1.At).bind fun v1 => some v1) else ((m28_timers_byID a0 a1).bind fun v2 => some v2)

set_option maxRecDepth 100000 in
theorem m31_timers_byAts_c {a0 : GTimersTimer} {a1 : GTimersTimer} {r : Int} (h : m31_timers_byAts a0 a1 = some r) : CallsA Try.prog 31 [.agg [.i .i64 a0.ID, .i .i64 a0.At], .agg [.i .i64 a1.ID, .i .i64 a1.At]] (· = .s (.one (.i .i64 r))) := by
  unfold m31_timers_byAts at h
  refine callsA_of Try.func31 rfl (nt := 18) rfl (Nat.le_of_ble_eq_true rfl) ?_
  intro w0 S0
  refine cseq ?_
  refine cregion ?_
  refine sbox rfl rfl ?_
  refine sbox rfl rfl ?_
  refine sv rfl (opv_as rfl) ?_
  refine snil ?_
  refine cseq ?_
  refine cseq ?_
  refine cregion ?_
  refine sv rfl (opv_fieldAddr_lp fi61_1 rfl) ?_
  refine sv rfl (opv_load1 ti3 rfl (.lp _ _ _ rfl) rfl) ?_
  refine sv rfl (opv_fieldAddr_lp fi61_1 rfl) ?_
  refine sv rfl (opv_load1 ti3 rfl (.lp _ _ _ rfl) rfl) ?_
  refine sv rfl (opv_ineq rfl rfl) ?_
  refine snil ?_
  refine ccond rfl (fun hc => ?_) (fun hc => ?_)
  · replace h := ite_t hc h
    clear hc
    refine cseq ?_
    refine cregion ?_
    refine sv rfl (opv_fieldAddr_lp fi61_1 rfl) ?_
    refine sv rfl (opv_load1 ti3 rfl (.lp _ _ _ rfl) rfl) ?_
    refine sv rfl (opv_fieldAddr_lp fi61_1 rfl) ?_
    refine sv rfl (opv_load1 ti3 rfl (.lp _ _ _ rfl) rfl) ?_
    obtain ⟨v1, hv1, h⟩ := bind_eq h
    refine scall1 rfl fn34 (opnds_cons rfl (opnds_cons rfl opnds_nil)) (pubA_id rfl) (m34_cmp_Compare_c hv1) ?_
    refine sv rfl (opv_as rfl) ?_
    refine snil ?_
    refine cret ?_
    refine then_ret ?_
    obtain rfl := Option.some.inj h
    refine ⟨Or.inr rfl, _, _, _, (resVs_cons (ResV.tmp _ _ rfl) resVs_nil), (pubA_id rfl), ?_⟩
    rfl
  · replace h := ite_f hc h
    clear hc
    refine cskip ?_
    refine then_normal ?_
    refine cseq ?_
    refine cregion ?_
    refine sv rfl (opv_loadN ti61 rfl (.lp _ _ _ rfl) (Nat.le_of_ble_eq_true rfl)) ?_
    refine sv rfl (opv_loadN ti61 rfl (.lp _ _ _ rfl) (Nat.le_of_ble_eq_true rfl)) ?_
    obtain ⟨v2, hv2, h⟩ := bind_eq h
    refine scall1 rfl fn28 (opnds_cons rfl (opnds_cons rfl opnds_nil)) (pubA_id rfl) (m28_timers_byID_c hv2) ?_
    refine sv rfl (opv_as rfl) ?_
    refine snil ?_
    refine cret ?_
    obtain rfl := Option.some.inj h
    refine ⟨Or.inr rfl, _, _, _, (resVs_cons (ResV.tmp _ _ rfl) resVs_nil), (pubA_id rfl), ?_⟩
    rfl

def m30_slices_MinFuncs_k3 (b3 : Int × Int) : Option GTimersTimer :=
  some (GTimersTimer.mk b3.1 b3.2)

def m30_slices_MinFuncs_s4 (a0 : List GTimersTimer) (s4 : Int × Int × Int) : Option (LB (Int × Int × Int) (Int × Int)) :=
  if (decide (s4.1 < (a0.length : Int))) then ((idx a0 s4.1).bind fun u5 => (m31_timers_byAts u5 (GTimersTimer.mk s4.2.1 s4.2.2)).bind fun v6 => if (decide (v6 < 0)) then ((idx a0 s4.1).bind fun u7 => some (.cont ((wI (s4.1 + 1)), u7.ID, u7.At))) else (some (.cont ((wI (s4.1 + 1)), s4.2.1, s4.2.2)))) else (some (.brk (s4.2.1, s4.2.2)))

def m30_slices_MinFuncs_k1 (a0 : List GTimersTimer) (b1 : Unit) : Option GTimersTimer :=
  (idx a0 0).bind fun u2 => (iterB (m30_slices_MinFuncs_s4 a0) fuel (1, u2.ID, u2.At)).bind fun e8 => m30_slices_MinFuncs_k3 e8
def m30_slices_MinFuncs (a0 : List GTimersTimer) : Option GTimersTimer :=
  if (decide ((a0.length : Int) < 1)) then none else (m30_slices_MinFuncs_k1 a0 ())

set_option maxRecDepth 100000 in
theorem m30_slices_MinFuncs_c {a0 : List GTimersTimer} {r : GTimersTimer} (h : m30_slices_MinFuncs a0 = some r) : CallsA Try.prog 30 [.one (.sl a0.length (a0.flatMap eGTimersTimer)), .one (.raw (.func (.func 31) #[] #[]))] (· = .s (.agg [.i .i64 r.ID, .i .i64 r.At])) := by
  unfold m30_slices_MinFuncs at h
  refine callsA_of Try.func30 rfl (nt := 33) rfl (Nat.le_of_ble_eq_true rfl) ?_
  intro w0 S0
  refine cseq ?_
  refine cregion ?_
  refine salloc rfl zi61 ?_
  refine snil ?_
  refine cseq ?_
  refine cseq ?_
  refine cregion ?_
  refine sv rfl (opv_mv rfl) ?_
  refine sv rfl (opv_len_sl si26 rfl) ?_
  refine sv rfl (opv_lss rfl rfl) ?_
  refine snil ?_
  refine cjoin (Unit) (fun b1 => [(0, .s (.one (.sl a0.length (a0.flatMap eGTimersTimer)))), (1, .s (.one (.raw (.func (.func 31) #[] #[])))), (4, .s (.one (.lp 0 0)))]) (fun b1 => [.box [.i .i64 0, .i .i64 0]]) (fun b1 => m30_slices_MinFuncs_k1 a0 b1 = some r) (fun _ _ => inbL_of rfl) (fun _ _ => blkinb_of rfl) (fun _ _ => Nat.le_of_ble_eq_true rfl) (fun b1 h => ?_) ?_
  · unfold m30_slices_MinFuncs_k1 at h
    refine cseq ?_
    refine cregion ?_
    refine sv rfl (opv_mv rfl) ?_
    obtain ⟨u2, hu2, h⟩ := bind_eq h
    refine sv rfl (opv_ix (f := eGTimersTimer) si26 (fun _ => rfl) rfl rfl rfl rfl hu2) ?_
    refine sv rfl (opv_loadNe (ys := [.i .i64 u2.ID, .i .i64 u2.At]) ti61 rfl (.cp _) rfl rfl) ?_
    refine salloc rfl zi61 ?_
    refine sstore sz61 rfl rfl rfl rfl (Nat.le_of_ble_eq_true rfl) ?_
    refine smem [.box [.i .i64 0, .i .i64 0], .box [.i .i64 u2.ID, .i .i64 u2.At]] rfl ?_
    refine snil ?_
    refine cseq ?_
    refine cseq ?_
    refine cregion ?_
    refine sv rfl (opv_as rfl) ?_
    refine snil ?_
    refine cjoin (Int × Int) (fun b3 => [(4, .s (.one (.lp 0 0))), (5, .s (.one (.lp 1 0)))]) (fun b3 => [.box [.i .i64 0, .i .i64 0], .box [.i .i64 b3.1, .i .i64 b3.2]]) (fun b3 => m30_slices_MinFuncs_k3 b3 = some r) (fun _ _ => inbL_of rfl) (fun _ _ => blkinb_of rfl) (fun _ _ => Nat.le_of_ble_eq_true rfl) (fun b3 h => ?_) ?_
    · unfold m30_slices_MinFuncs_k3 at h
      refine cseq ?_
      refine cregion ?_
      refine sv rfl (opv_loadN ti61 rfl (.lp _ _ _ rfl) (Nat.le_of_ble_eq_true rfl)) ?_
      refine sstore sz61 rfl rfl rfl rfl (Nat.le_of_ble_eq_true rfl) ?_
      refine smem [.box [.i .i64 b3.1, .i .i64 b3.2], .box [.i .i64 b3.1, .i .i64 b3.2]] rfl ?_
      refine snil ?_
      refine cret ?_
      obtain rfl := Option.some.inj h
      refine ⟨Or.inr rfl, _, _, _, (resVs_cons (ResV.agg _ _ _ _ _ ti61 rfl (.lp _ _ _ rfl) (Nat.le_of_ble_eq_true rfl)) resVs_nil), (pubA_id rfl), ?_⟩
      rfl
    · skip
      refine cblock ?_
      obtain ⟨x4, hx4, ho4⟩ := bind_eq h
      refine awc_loop (G := Nat × (Int × Int × Int)) (fun g => [(0, .s (.one (.sl a0.length (a0.flatMap eGTimersTimer)))), (1, .s (.one (.raw (.func (.func 31) #[] #[])))), (4, .s (.one (.lp 0 0))), (5, .s (.one (.lp 1 0))), (6, .s (.one (.i .i64 g.2.1)))]) (fun g => [.box [.i .i64 0, .i .i64 0], .box [.i .i64 g.2.2.1, .i .i64 g.2.2.2]]) (fun g => iterB (m30_slices_MinFuncs_s4 a0) g.1 g.2 = some x4) (fun g => g.1) (fuel, (1, u2.ID, u2.At)) hx4 ⟨rfl, rfl, rfl, rfl, rfl, trivial⟩ [] rfl (fun _ _ => inbL_of rfl) (fun _ _ => blkinb_of rfl) (fun _ _ => Nat.le_of_ble_eq_true rfl) ?_
      clear hx4 h
      rintro ⟨n4, s4⟩ h
      obtain ⟨n4, y4, rfl, h, hk4⟩ := iterB_eq h
      unfold m30_slices_MinFuncs_s4 at h
      refine cseq ?_
      refine cseq ?_
      refine cregion ?_
      refine sv rfl (opv_mv rfl) ?_
      refine sv rfl (opv_mv rfl) ?_
      refine sv rfl (opv_len_sl si26 rfl) ?_
      refine sv rfl (opv_lss rfl rfl) ?_
      refine snil ?_
      refine ccond rfl (fun hc => ?_) (fun hc => ?_)
      · replace h := ite_t hc h
        clear hc
        refine cskip ?_
        refine then_normal ?_
        refine cseq ?_
        refine cblock ?_
        refine cseq ?_
        refine cdraw mixed (by kernel_rfl) ?_
        refine dv rfl (opv_mv rfl) ?_
        refine dv rfl (opv_mv rfl) ?_
        refine dv rfl (opv_mv rfl) ?_
        obtain ⟨u5, hu5, h⟩ := bind_eq h
        refine dv rfl (opv_ix (f := eGTimersTimer) si26 (fun _ => rfl) rfl rfl rfl rfl hu5) ?_
        refine dv rfl (opv_loadNe (ys := [.i .i64 u5.ID, .i .i64 u5.At]) ti61 rfl (.cp _) rfl rfl) ?_
        refine dv rfl (opv_loadN ti61 rfl (.lp _ _ _ rfl) (Nat.le_of_ble_eq_true rfl)) ?_
        obtain ⟨v6, hv6, h⟩ := bind_eq h
        refine dd rfl (opD_callC fn31 (.raw _ _ rfl) (opnds_cons rfl (opnds_cons rfl opnds_nil)) rfl (m31_timers_byAts_c hv6)) ?_
        refine dv rfl (opv_lss rfl rfl) ?_
        refine dnil ?_
        refine then_normal ?_
        refine ccond rfl (fun hc => ?_) (fun hc => ?_)
        · replace h := ite_t hc h
          clear hc
          refine cregion ?_
          refine sv rfl (opv_mv rfl) ?_
          refine sv rfl (opv_mv rfl) ?_
          obtain ⟨u7, hu7, h⟩ := bind_eq h
          refine sv rfl (opv_ix (f := eGTimersTimer) si26 (fun _ => rfl) rfl rfl rfl rfl hu7) ?_
          refine sv rfl (opv_loadNe (ys := [.i .i64 u7.ID, .i .i64 u7.At]) ti61 rfl (.cp _) rfl rfl) ?_
          refine sstore sz61 rfl rfl rfl rfl (Nat.le_of_ble_eq_true rfl) ?_
          refine smem [.box [.i .i64 0, .i .i64 0], .box [.i .i64 u7.ID, .i .i64 u7.At]] rfl ?_
          refine snil0 ?_
          refine block_normal ?_
          refine then_normal ?_
          refine cregion ?_
          refine sv rfl (opv_mv rfl) ?_
          refine sv rfl (opv_add rfl rfl) ?_
          refine sv rfl (opv_as rfl) ?_
          refine snil ?_
          obtain rfl := Option.some.inj h
          exact ⟨(n4, ((wI (s4.1 + 1)), u7.ID, u7.At)), _, hk4, ⟨rfl, rfl, rfl, rfl, rfl, trivial⟩, rfl, Nat.lt_succ_self _⟩
        · replace h := ite_f hc h
          clear hc
          refine cskip ?_
          refine block_normal ?_
          refine then_normal ?_
          refine cregion ?_
          refine sv rfl (opv_mv rfl) ?_
          refine sv rfl (opv_add rfl rfl) ?_
          refine sv rfl (opv_as rfl) ?_
          refine snil ?_
          obtain rfl := Option.some.inj h
          exact ⟨(n4, ((wI (s4.1 + 1)), s4.2.1, s4.2.2)), _, hk4, ⟨rfl, rfl, rfl, rfl, rfl, trivial⟩, rfl, Nat.lt_succ_self _⟩
      · replace h := ite_f hc h
        clear hc
        refine cexit ?_
        refine then_exit ?_
        refine then_exit ?_
        refine block_hit ?_
        refine then_normal ?_
        obtain rfl := Option.some.inj h
        obtain rfl : _ = x4 := hk4
        exact ⟨(s4.2.1, s4.2.2), _, ho4, ⟨rfl, rfl, trivial⟩, rfl⟩
  · skip
    refine ccond rfl (fun hc => ?_) (fun hc => ?_)
    · replace h := ite_t hc h
      clear hc
      cases h
    · replace h := ite_f hc h
      clear hc
      refine cskip ?_
      refine then_normal ?_
      exact ⟨(), _, h, ⟨rfl, rfl, rfl, trivial⟩, rfl⟩

def m16_timers_Next_k1 (a0 : GTimersTable) (b1 : Unit) : Option (Int × Bool) :=
  (m30_slices_MinFuncs a0.L).bind fun v2 => some ((wI (v2.At - a0.Now)), true)
def m16_timers_Next (a0 : GTimersTable) : Option (Int × Bool) :=
  (m20_timers_Sane (GTimersTable.mk a0.Now a0.L)).bind fun v3 => if (!v3) then (some (0, false)) else (if (decide ((a0.L.length : Int) = 0)) then (some (0, false)) else (m16_timers_Next_k1 a0 ()))

set_option maxRecDepth 100000 in
theorem m16_timers_Next_c {a0 : GTimersTable} {r : Int × Bool} (h : m16_timers_Next a0 = some r) : CallsA Try.prog 16 [.agg a0] (· = .tup [.one (.i .i64 r.1), .one (.b r.2)]) := by
  unfold m16_timers_Next at h
  refine callsA_of Try.func16 rfl (nt := 20) rfl (Nat.le_of_ble_eq_true rfl) ?_
  intro w0 S0
  refine cseq ?_
  refine cregion ?_
  refine sbox rfl rfl ?_
  refine sv rfl (opv_as rfl) ?_
  refine sv rfl (opv_as rfl) ?_
  refine snil ?_
  refine cseq ?_
  refine cseq ?_
  refine cjoin3 (Unit) (fun b1 => [(1, .s (.one (.lp 0 0)))]) (fun b1 => [.box a0]) (fun b1 => m16_timers_Next_k1 a0 b1 = some r) (fun _ _ => inbL_of rfl) (fun _ _ => blkinb_of rfl) (fun _ _ => Nat.le_of_ble_eq_true rfl) (fun b1 h => ?_) ?_
  · unfold m16_timers_Next_k1 at h
    refine cseq ?_
    refine cdraw mixed (by kernel_rfl) ?_
    refine dv rfl (opv_fieldAddr_lp fi28_1 rfl) ?_
    refine dv rfl (opv_load1 ti26 rfl (.lp _ _ _ rfl) rfl) ?_
    obtain ⟨v2, hv2, h⟩ := bind_eq h
    refine dd rfl (opD_callC fn30 (.func _) (opnds_cons rfl (opnds_cons rfl opnds_nil)) rfl (m30_slices_MinFuncs_c hv2)) ?_
    refine dv rfl (opv_field1 ft61_1 ti3 rfl rfl) ?_
    refine dv rfl (opv_fieldAddr_lp fi28_0 rfl) ?_
    refine dv rfl (opv_load1 ti3 rfl (.lp _ _ _ rfl) rfl) ?_
    refine dv rfl (opv_sub rfl rfl) ?_
    refine dv rfl (opv_as rfl) ?_
    refine dv rfl (opv_as rfl) ?_
    refine dnil ?_
    refine then_normal ?_
    refine cret ?_
    obtain rfl := Option.some.inj h
    refine ⟨Or.inr rfl, _, _, _, (resVs_cons (ResV.tmp _ _ rfl) (resVs_cons (ResV.tmp _ _ rfl) resVs_nil)), (pubA_id rfl), ?_⟩
    rfl
  · skip
    refine cregion ?_
    refine sv rfl (opv_loadN ti28 rfl (.lp _ _ _ rfl) (Nat.le_of_ble_eq_true rfl)) ?_
    obtain ⟨v3, hv3, h⟩ := bind_eq h
    refine scall1 rfl fn20 (opnds_cons rfl opnds_nil) (pubA_id rfl) (m20_timers_Sane_c hv3) ?_
    refine sv rfl (opv_not rfl) ?_
    refine sv rfl (opv_mv rfl) ?_
    refine ssplit 7 rfl (fun hc => ?_) (fun hc => ?_)
    · replace h := ite_t hc h
      clear hc
      refine soff rfl rfl rfl rfl ?_
      refine soff rfl rfl rfl rfl ?_
      refine soff rfl rfl rfl rfl ?_
      refine soff rfl rfl rfl rfl ?_
      refine sv rfl (opv_pick_t rfl rfl) ?_
      refine snil ?_
      refine ccond rfl (fun _ => ?_) (fun hx => Bool.noConfusion hx)
      refine cseq ?_
      refine cregion ?_
      refine sv rfl (opv_as rfl) ?_
      refine sv rfl (opv_as rfl) ?_
      refine snil ?_
      refine cret ?_
      refine then_ret ?_
      obtain rfl := Option.some.inj h
      refine ⟨Or.inr rfl, _, _, _, (resVs_cons (ResV.tmp _ _ rfl) (resVs_cons (ResV.tmp _ _ rfl) resVs_nil)), (pubA_id rfl), ?_⟩
      rfl
    · replace h := ite_f hc h
      clear hc
      refine son rfl rfl rfl ?_
      refine sv rfl (opv_fieldAddr_lp fi28_1 rfl) ?_
      refine son rfl rfl rfl ?_
      refine sv rfl (opv_load1 ti26 rfl (.lp _ _ _ rfl) rfl) ?_
      refine son rfl rfl rfl ?_
      refine sv rfl (opv_len_sl si26 rfl) ?_
      refine son rfl rfl rfl ?_
      refine sv rfl (opv_ieql rfl rfl) ?_
      refine sv rfl (opv_pick_f rfl rfl) ?_
      refine snil ?_
      refine ccond rfl (fun hc => ?_) (fun hc => ?_)
      · replace h := ite_t hc h
        clear hc
        refine cseq ?_
        refine cregion ?_
        refine sv rfl (opv_as rfl) ?_
        refine sv rfl (opv_as rfl) ?_
        refine snil ?_
        refine cret ?_
        refine then_ret ?_
        obtain rfl := Option.some.inj h
        refine ⟨Or.inr rfl, _, _, _, (resVs_cons (ResV.tmp _ _ rfl) (resVs_cons (ResV.tmp _ _ rfl) resVs_nil)), (pubA_id rfl), ?_⟩
        rfl
      · replace h := ite_f hc h
        clear hc
        refine cskip ?_
        refine then_normal ?_
        exact ⟨(), _, h, ⟨rfl, trivial⟩, rfl⟩

/-- What is proved of Tick elsewhere (Tk4). -/
class TickC [Env] : Prop where
  c : ∀ {a0 : GTimersTable} {a1 : Int} {r : GTimersTable × (List Int) × Int}, m11_timers_Tick a0 a1 = some r → CallsA Try.prog 11 [.agg a0, .one (.i .i64 a1)] (· = .tup [.agg r.1, .one (.sl r.2.1.length (r.2.1.flatMap eI)), .one (.i .i64 r.2.2)])
variable [TickC]
omit [AtEnv] in
theorem m11_timers_Tick_c {a0 : GTimersTable} {a1 : Int} {r : GTimersTable × (List Int) × Int} (h : m11_timers_Tick a0 a1 = some r) : CallsA Try.prog 11 [.agg a0, .one (.i .i64 a1)] (· = .tup [.agg r.1, .one (.sl r.2.1.length (r.2.1.flatMap eI)), .one (.i .i64 r.2.2)]) := TickC.c h


def m7_l13_awake  : Option Bool :=
  (m9_timers_Set (GTimersTable.mk 0 ([] : List GTimersTimer)) 3 5).bind fun v1 => (m11_timers_Tick v1.1 4).bind fun v2 => (m16_timers_Next v2.1).bind fun v3 => (m11_timers_Tick v2.1 1).bind fun v4 => if (decide (v1.2 = 0)) then (if (decide (v2.2.2 = 0)) then (if (decide (v4.2.2 = 0)) then (if (decide ((v2.2.1.length : Int) = 0)) then (if (decide ((v4.2.1.length : Int) = 1)) then ((idx v4.2.1 0).bind fun u5 => if (decide (u5 = 3)) then (if (decide (v3.1 = 1)) then (if v3.2 then (some (decide (v4.1.Now = 5))) else (some false)) else (some false)) else (some false)) else (some false)) else (some false)) else (some false)) else (some false)) else (some false)

set_option maxRecDepth 100000 in
theorem m7_l13_awake_c  {r : Bool} (h : m7_l13_awake = some r) : CallsA Try.prog 7 [] (· = .s (.one (.b r))) := by
  unfold m7_l13_awake at h
  refine callsA_of Try.func7 rfl (nt := 69) rfl (Nat.le_of_ble_eq_true rfl) ?_
  intro w0 S0
  refine cseq ?_
  refine cregion ?_
  refine sv rfl (opv_as rfl) ?_
  refine snil ?_
  refine cseq ?_
  refine cregion ?_
  refine sv rfl (opv_build zi28 pi28 parts_nil (.nil _)) ?_
  obtain ⟨v1, hv1, h⟩ := bind_eq h
  refine scall1 rfl fn9 (opnds_cons rfl (opnds_cons rfl (opnds_cons rfl opnds_nil))) (pubC rfl) (m9_timers_Set_c hv1) ?_
  refine sv rfl (opv_mvt rfl) ?_
  refine sv rfl (opv_extract rfl rfl) ?_
  refine sv rfl (opv_extract rfl rfl) ?_
  refine salloc rfl zi28 ?_
  refine sstore sz28 rfl rfl rfl rfl (Nat.le_of_ble_eq_true rfl) ?_
  refine smem [.box v1.1] rfl ?_
  refine sv rfl (opv_as rfl) ?_
  refine snil ?_
  refine cseq ?_
  refine cregion ?_
  refine sv rfl (opv_loadN ti28 rfl (.lp _ _ _ rfl) (Nat.le_of_ble_eq_true rfl)) ?_
  obtain ⟨v2, hv2, h⟩ := bind_eq h
  refine scall1 rfl fn11 (opnds_cons rfl (opnds_cons rfl opnds_nil)) (pubA_id rfl) (m11_timers_Tick_c hv2) ?_
  refine sv rfl (opv_mvt rfl) ?_
  refine sv rfl (opv_extract rfl rfl) ?_
  refine sv rfl (opv_extract rfl rfl) ?_
  refine sv rfl (opv_extract rfl rfl) ?_
  refine sstore sz28 rfl rfl rfl rfl (Nat.le_of_ble_eq_true rfl) ?_
  refine smem [.box v2.1] rfl ?_
  refine sv rfl (opv_as rfl) ?_
  refine sv rfl (opv_as rfl) ?_
  refine snil ?_
  refine cseq ?_
  refine cregion ?_
  refine sv rfl (opv_loadN ti28 rfl (.lp _ _ _ rfl) (Nat.le_of_ble_eq_true rfl)) ?_
  obtain ⟨v3, hv3, h⟩ := bind_eq h
  refine scall1 rfl fn16 (opnds_cons rfl opnds_nil) (pubA_id rfl) (m16_timers_Next_c hv3) ?_
  refine sv rfl (opv_mvt rfl) ?_
  refine sv rfl (opv_extract rfl rfl) ?_
  refine sv rfl (opv_extract rfl rfl) ?_
  refine sv rfl (opv_as rfl) ?_
  refine sv rfl (opv_as rfl) ?_
  refine snil ?_
  refine cseq ?_
  refine cregion ?_
  refine sv rfl (opv_loadN ti28 rfl (.lp _ _ _ rfl) (Nat.le_of_ble_eq_true rfl)) ?_
  obtain ⟨v4, hv4, h⟩ := bind_eq h
  refine scall1 rfl fn11 (opnds_cons rfl (opnds_cons rfl opnds_nil)) (pubA_id rfl) (m11_timers_Tick_c hv4) ?_
  refine sv rfl (opv_mvt rfl) ?_
  refine sv rfl (opv_extract rfl rfl) ?_
  refine sv rfl (opv_extract rfl rfl) ?_
  refine sv rfl (opv_extract rfl rfl) ?_
  refine sstore sz28 rfl rfl rfl rfl (Nat.le_of_ble_eq_true rfl) ?_
  refine smem [.box v4.1] rfl ?_
  refine sv rfl (opv_as rfl) ?_
  refine sv rfl (opv_as rfl) ?_
  refine snil ?_
  refine cseq ?_
  refine cregion ?_
  refine sv rfl (opv_mv rfl) ?_
  refine sv rfl (opv_ieql rfl rfl) ?_
  refine sv rfl (opv_mv rfl) ?_
  refine ssplit 33 rfl (fun hc => ?_) (fun hc => ?_)
  · replace h := ite_t hc h
    clear hc
    refine son rfl rfl rfl ?_
    refine sv rfl (opv_mv rfl) ?_
    refine son rfl rfl rfl ?_
    refine sv rfl (opv_ieql rfl rfl) ?_
    refine sv rfl (opv_pick_t rfl rfl) ?_
    refine sv rfl (opv_mv rfl) ?_
    refine ssplit 37 rfl (fun hc => ?_) (fun hc => ?_)
    · replace h := ite_t hc h
      clear hc
      refine son rfl rfl rfl ?_
      refine sv rfl (opv_mv rfl) ?_
      refine son rfl rfl rfl ?_
      refine sv rfl (opv_ieql rfl rfl) ?_
      refine sv rfl (opv_pick_t rfl rfl) ?_
      refine sv rfl (opv_mv rfl) ?_
      refine ssplit 41 rfl (fun hc => ?_) (fun hc => ?_)
      · replace h := ite_t hc h
        clear hc
        refine son rfl rfl rfl ?_
        refine sv rfl (opv_mv rfl) ?_
        refine son rfl rfl rfl ?_
        refine sv rfl (opv_len_sl si35 rfl) ?_
        refine son rfl rfl rfl ?_
        refine sv rfl (opv_ieql rfl rfl) ?_
        refine sv rfl (opv_pick_t rfl rfl) ?_
        refine sv rfl (opv_mv rfl) ?_
        refine ssplit 46 rfl (fun hc => ?_) (fun hc => ?_)
        · replace h := ite_t hc h
          clear hc
          refine son rfl rfl rfl ?_
          refine sv rfl (opv_mv rfl) ?_
          refine son rfl rfl rfl ?_
          refine sv rfl (opv_len_sl si35 rfl) ?_
          refine son rfl rfl rfl ?_
          refine sv rfl (opv_ieql rfl rfl) ?_
          refine sv rfl (opv_pick_t rfl rfl) ?_
          refine sv rfl (opv_mv rfl) ?_
          refine ssplit 51 rfl (fun hc => ?_) (fun hc => ?_)
          · replace h := ite_t hc h
            clear hc
            refine son rfl rfl rfl ?_
            refine sv rfl (opv_mv rfl) ?_
            refine son rfl rfl rfl ?_
            obtain ⟨u5, hu5, h⟩ := bind_eq h
            refine sv rfl (opv_ix (f := eI) si35 (fun _ => rfl) rfl rfl rfl rfl hu5) ?_
            refine son rfl rfl rfl ?_
            refine sv rfl (opv_load1 ti3 rfl (.cp _) rfl) ?_
            refine son rfl rfl rfl ?_
            refine sv rfl (opv_ieql rfl rfl) ?_
            refine sv rfl (opv_pick_t rfl rfl) ?_
            refine sv rfl (opv_mv rfl) ?_
            refine ssplit 57 rfl (fun hc => ?_) (fun hc => ?_)
            · replace h := ite_t hc h
              clear hc
              refine son rfl rfl rfl ?_
              refine sv rfl (opv_mv rfl) ?_
              refine son rfl rfl rfl ?_
              refine sv rfl (opv_ieql rfl rfl) ?_
              refine sv rfl (opv_pick_t rfl rfl) ?_
              refine sv rfl (opv_mv rfl) ?_
              refine ssplit 61 rfl (fun hc => ?_) (fun hc => ?_)
              · replace h := ite_t hc h
                clear hc
                refine son rfl rfl rfl ?_
                refine sv rfl (opv_mv rfl) ?_
                refine sv rfl (opv_pick_t rfl rfl) ?_
                refine sv rfl (opv_mv rfl) ?_
                refine ssplit 64 rfl (fun hc => ?_) (fun hc => ?_)
                · replace h := ite_t hc h
                  clear hc
                  refine son rfl rfl rfl ?_
                  refine sv rfl (opv_fieldAddr_lp fi28_0 rfl) ?_
                  refine son rfl rfl rfl ?_
                  refine sv rfl (opv_load1 ti3 rfl (.lp _ _ _ rfl) rfl) ?_
                  refine son rfl rfl rfl ?_
                  refine sv rfl (opv_ieql rfl rfl) ?_
                  refine sv rfl (opv_pick_t rfl rfl) ?_
                  refine sv rfl (opv_as rfl) ?_
                  refine snil ?_
                  refine cret ?_
                  obtain rfl := Option.some.inj h
                  refine ⟨Or.inr rfl, _, _, _, (resVs_cons (ResV.tmp _ _ rfl) resVs_nil), (pubA_id rfl), ?_⟩
                  rfl
                · replace h := ite_f hc h
                  clear hc
                  refine soff rfl rfl rfl rfl ?_
                  refine soff rfl rfl rfl rfl ?_
                  refine soff rfl rfl rfl rfl ?_
                  refine sv rfl (opv_pick_f rfl rfl) ?_
                  refine sv rfl (opv_as rfl) ?_
                  refine snil ?_
                  refine cret ?_
                  obtain rfl := Option.some.inj h
                  refine ⟨Or.inr rfl, _, _, _, (resVs_cons (ResV.tmp _ _ rfl) resVs_nil), (pubA_id rfl), ?_⟩
                  rfl
              · replace h := ite_f hc h
                clear hc
                refine soff rfl rfl rfl rfl ?_
                refine sv rfl (opv_pick_f rfl rfl) ?_
                refine sv rfl (opv_mv rfl) ?_
                refine soff rfl rfl rfl rfl ?_
                refine soff rfl rfl rfl rfl ?_
                refine soff rfl rfl rfl rfl ?_
                refine sv rfl (opv_pick_f rfl rfl) ?_
                refine sv rfl (opv_as rfl) ?_
                refine snil ?_
                refine cret ?_
                obtain rfl := Option.some.inj h
                refine ⟨Or.inr rfl, _, _, _, (resVs_cons (ResV.tmp _ _ rfl) resVs_nil), (pubA_id rfl), ?_⟩
                rfl
            · replace h := ite_f hc h
              clear hc
              refine soff rfl rfl rfl rfl ?_
              refine soff rfl rfl rfl rfl ?_
              refine sv rfl (opv_pick_f rfl rfl) ?_
              refine sv rfl (opv_mv rfl) ?_
              refine soff rfl rfl rfl rfl ?_
              refine sv rfl (opv_pick_f rfl rfl) ?_
              refine sv rfl (opv_mv rfl) ?_
              refine soff rfl rfl rfl rfl ?_
              refine soff rfl rfl rfl rfl ?_
              refine soff rfl rfl rfl rfl ?_
              refine sv rfl (opv_pick_f rfl rfl) ?_
              refine sv rfl (opv_as rfl) ?_
              refine snil ?_
              refine cret ?_
              obtain rfl := Option.some.inj h
              refine ⟨Or.inr rfl, _, _, _, (resVs_cons (ResV.tmp _ _ rfl) resVs_nil), (pubA_id rfl), ?_⟩
              rfl
          · replace h := ite_f hc h
            clear hc
            refine soff rfl rfl rfl rfl ?_
            refine soff rfl rfl rfl rfl ?_
            refine soff rfl rfl rfl rfl ?_
            refine soff rfl rfl rfl rfl ?_
            refine sv rfl (opv_pick_f rfl rfl) ?_
            refine sv rfl (opv_mv rfl) ?_
            refine soff rfl rfl rfl rfl ?_
            refine soff rfl rfl rfl rfl ?_
            refine sv rfl (opv_pick_f rfl rfl) ?_
            refine sv rfl (opv_mv rfl) ?_
            refine soff rfl rfl rfl rfl ?_
            refine sv rfl (opv_pick_f rfl rfl) ?_
            refine sv rfl (opv_mv rfl) ?_
            refine soff rfl rfl rfl rfl ?_
            refine soff rfl rfl rfl rfl ?_
            refine soff rfl rfl rfl rfl ?_
            refine sv rfl (opv_pick_f rfl rfl) ?_
            refine sv rfl (opv_as rfl) ?_
            refine snil ?_
            refine cret ?_
            obtain rfl := Option.some.inj h
            refine ⟨Or.inr rfl, _, _, _, (resVs_cons (ResV.tmp _ _ rfl) resVs_nil), (pubA_id rfl), ?_⟩
            rfl
        · replace h := ite_f hc h
          clear hc
          refine soff rfl rfl rfl rfl ?_
          refine soff rfl rfl rfl rfl ?_
          refine soff rfl rfl rfl rfl ?_
          refine sv rfl (opv_pick_f rfl rfl) ?_
          refine sv rfl (opv_mv rfl) ?_
          refine soff rfl rfl rfl rfl ?_
          refine soff rfl rfl rfl rfl ?_
          refine soff rfl rfl rfl rfl ?_
          refine soff rfl rfl rfl rfl ?_
          refine sv rfl (opv_pick_f rfl rfl) ?_
          refine sv rfl (opv_mv rfl) ?_
          refine soff rfl rfl rfl rfl ?_
          refine soff rfl rfl rfl rfl ?_
          refine sv rfl (opv_pick_f rfl rfl) ?_
          refine sv rfl (opv_mv rfl) ?_
          refine soff rfl rfl rfl rfl ?_
          refine sv rfl (opv_pick_f rfl rfl) ?_
          refine sv rfl (opv_mv rfl) ?_
          refine soff rfl rfl rfl rfl ?_
          refine soff rfl rfl rfl rfl ?_
          refine soff rfl rfl rfl rfl ?_
          refine sv rfl (opv_pick_f rfl rfl) ?_
          refine sv rfl (opv_as rfl) ?_
          refine snil ?_
          refine cret ?_
          obtain rfl := Option.some.inj h
          refine ⟨Or.inr rfl, _, _, _, (resVs_cons (ResV.tmp _ _ rfl) resVs_nil), (pubA_id rfl), ?_⟩
          rfl
      · replace h := ite_f hc h
        clear hc
        refine soff rfl rfl rfl rfl ?_
        refine soff rfl rfl rfl rfl ?_
        refine soff rfl rfl rfl rfl ?_
        refine sv rfl (opv_pick_f rfl rfl) ?_
        refine sv rfl (opv_mv rfl) ?_
        refine soff rfl rfl rfl rfl ?_
        refine soff rfl rfl rfl rfl ?_
        refine soff rfl rfl rfl rfl ?_
        refine sv rfl (opv_pick_f rfl rfl) ?_
        refine sv rfl (opv_mv rfl) ?_
        refine soff rfl rfl rfl rfl ?_
        refine soff rfl rfl rfl rfl ?_
        refine soff rfl rfl rfl rfl ?_
        refine soff rfl rfl rfl rfl ?_
        refine sv rfl (opv_pick_f rfl rfl) ?_
        refine sv rfl (opv_mv rfl) ?_
        refine soff rfl rfl rfl rfl ?_
        refine soff rfl rfl rfl rfl ?_
        refine sv rfl (opv_pick_f rfl rfl) ?_
        refine sv rfl (opv_mv rfl) ?_
        refine soff rfl rfl rfl rfl ?_
        refine sv rfl (opv_pick_f rfl rfl) ?_
        refine sv rfl (opv_mv rfl) ?_
        refine soff rfl rfl rfl rfl ?_
        refine soff rfl rfl rfl rfl ?_
        refine soff rfl rfl rfl rfl ?_
        refine sv rfl (opv_pick_f rfl rfl) ?_
        refine sv rfl (opv_as rfl) ?_
        refine snil ?_
        refine cret ?_
        obtain rfl := Option.some.inj h
        refine ⟨Or.inr rfl, _, _, _, (resVs_cons (ResV.tmp _ _ rfl) resVs_nil), (pubA_id rfl), ?_⟩
        rfl
    · replace h := ite_f hc h
      clear hc
      refine soff rfl rfl rfl rfl ?_
      refine soff rfl rfl rfl rfl ?_
      refine sv rfl (opv_pick_f rfl rfl) ?_
      refine sv rfl (opv_mv rfl) ?_
      refine soff rfl rfl rfl rfl ?_
      refine soff rfl rfl rfl rfl ?_
      refine soff rfl rfl rfl rfl ?_
      refine sv rfl (opv_pick_f rfl rfl) ?_
      refine sv rfl (opv_mv rfl) ?_
      refine soff rfl rfl rfl rfl ?_
      refine soff rfl rfl rfl rfl ?_
      refine soff rfl rfl rfl rfl ?_
      refine sv rfl (opv_pick_f rfl rfl) ?_
      refine sv rfl (opv_mv rfl) ?_
      refine soff rfl rfl rfl rfl ?_
      refine soff rfl rfl rfl rfl ?_
      refine soff rfl rfl rfl rfl ?_
      refine soff rfl rfl rfl rfl ?_
      refine sv rfl (opv_pick_f rfl rfl) ?_
      refine sv rfl (opv_mv rfl) ?_
      refine soff rfl rfl rfl rfl ?_
      refine soff rfl rfl rfl rfl ?_
      refine sv rfl (opv_pick_f rfl rfl) ?_
      refine sv rfl (opv_mv rfl) ?_
      refine soff rfl rfl rfl rfl ?_
      refine sv rfl (opv_pick_f rfl rfl) ?_
      refine sv rfl (opv_mv rfl) ?_
      refine soff rfl rfl rfl rfl ?_
      refine soff rfl rfl rfl rfl ?_
      refine soff rfl rfl rfl rfl ?_
      refine sv rfl (opv_pick_f rfl rfl) ?_
      refine sv rfl (opv_as rfl) ?_
      refine snil ?_
      refine cret ?_
      obtain rfl := Option.some.inj h
      refine ⟨Or.inr rfl, _, _, _, (resVs_cons (ResV.tmp _ _ rfl) resVs_nil), (pubA_id rfl), ?_⟩
      rfl
  · replace h := ite_f hc h
    clear hc
    refine soff rfl rfl rfl rfl ?_
    refine soff rfl rfl rfl rfl ?_
    refine sv rfl (opv_pick_f rfl rfl) ?_
    refine sv rfl (opv_mv rfl) ?_
    refine soff rfl rfl rfl rfl ?_
    refine soff rfl rfl rfl rfl ?_
    refine sv rfl (opv_pick_f rfl rfl) ?_
    refine sv rfl (opv_mv rfl) ?_
    refine soff rfl rfl rfl rfl ?_
    refine soff rfl rfl rfl rfl ?_
    refine soff rfl rfl rfl rfl ?_
    refine sv rfl (opv_pick_f rfl rfl) ?_
    refine sv rfl (opv_mv rfl) ?_
    refine soff rfl rfl rfl rfl ?_
    refine soff rfl rfl rfl rfl ?_
    refine soff rfl rfl rfl rfl ?_
    refine sv rfl (opv_pick_f rfl rfl) ?_
    refine sv rfl (opv_mv rfl) ?_
    refine soff rfl rfl rfl rfl ?_
    refine soff rfl rfl rfl rfl ?_
    refine soff rfl rfl rfl rfl ?_
    refine soff rfl rfl rfl rfl ?_
    refine sv rfl (opv_pick_f rfl rfl) ?_
    refine sv rfl (opv_mv rfl) ?_
    refine soff rfl rfl rfl rfl ?_
    refine soff rfl rfl rfl rfl ?_
    refine sv rfl (opv_pick_f rfl rfl) ?_
    refine sv rfl (opv_mv rfl) ?_
    refine soff rfl rfl rfl rfl ?_
    refine sv rfl (opv_pick_f rfl rfl) ?_
    refine sv rfl (opv_mv rfl) ?_
    refine soff rfl rfl rfl rfl ?_
    refine soff rfl rfl rfl rfl ?_
    refine soff rfl rfl rfl rfl ?_
    refine sv rfl (opv_pick_f rfl rfl) ?_
    refine sv rfl (opv_as rfl) ?_
    refine snil ?_
    refine cret ?_
    obtain rfl := Option.some.inj h
    refine ⟨Or.inr rfl, _, _, _, (resVs_cons (ResV.tmp _ _ rfl) resVs_nil), (pubA_id rfl), ?_⟩
    rfl

def m8_l13_ours_k1 (a0 : GR13Table) (b1 : (List GTimersTimer)) : Option GTimersTable :=
  some (GTimersTable.mk a0.Now b1)

def m8_l13_ours_s2 (a0 : GR13Table) (s2 : Int × (List GTimersTimer)) : Option (LB (Int × (List GTimersTimer)) ((List GTimersTimer))) :=
  if (decide (s2.1 < (a0.L.length : Int))) then ((idx a0.L s2.1).bind fun u3 => (idx a0.L s2.1).bind fun u4 => if (s2.2.length + ([(GTimersTimer.mk u3.ID u4.At)] : List GTimersTimer).length) * 16 ≤ 140737488355328 then (some (.cont ((wI (s2.1 + 1)), (s2.2 ++ ([(GTimersTimer.mk u3.ID u4.At)] : List GTimersTimer))))) else none) else (some (.brk s2.2))
def m8_l13_ours (a0 : GR13Table) : Option GTimersTable :=
  (iterB (m8_l13_ours_s2 a0) fuel (0, ([] : List GTimersTimer))).bind fun e6 => m8_l13_ours_k1 a0 e6

omit [TickC] in
set_option maxRecDepth 100000 in
theorem m8_l13_ours_c {a0 : GR13Table} {r : GTimersTable} (h : m8_l13_ours a0 = some r) : CallsA Try.prog 8 [.agg a0] (· = .s (.agg r)) := by
  unfold m8_l13_ours at h
  refine callsA_of Try.func8 rfl (nt := 34) rfl (Nat.le_of_ble_eq_true rfl) ?_
  intro w0 S0
  refine cseq ?_
  refine cregion ?_
  refine sbox rfl rfl ?_
  refine salloc rfl zi28 ?_
  refine snil ?_
  refine cseq ?_
  refine cregion ?_
  refine sv rfl (opv_fieldAddr_lp fi24_0 rfl) ?_
  refine sv rfl (opv_load1 ti3 rfl (.lp _ _ _ rfl) rfl) ?_
  refine sv rfl (opv_build zi28 pi28 (parts_cons rfl parts_nil) (.cons _ _ _ _ _ _ _ rfl rfl (Nat.le_of_ble_eq_true rfl) (.nil _))) ?_
  refine salloc rfl zi28 ?_
  refine sstore sz28 rfl rfl rfl rfl (Nat.le_of_ble_eq_true rfl) ?_
  refine smem [.box a0, .box [.i .i64 0, .raw (.slice none 0 0)], .box [.i .i64 a0.Now, .raw (.slice none 0 0)]] rfl ?_
  refine snil ?_
  refine cseq ?_
  refine cseq ?_
  refine cregion ?_
  refine sv rfl (opv_as rfl) ?_
  refine snil ?_
  refine sadopt_box_c 61 2 2 1 (by decide) rfl rfl ?_
  refine cjoin ((List GTimersTimer)) (fun b1 => [(2, .s (.one (.lp 1 0))), (3, .s (.one (.lp 2 0)))]) (fun b1 => [.box a0, .box [.i .i64 0, .raw (.slice none 0 0)], .box [.i .i64 a0.Now, .ls 3 b1.length], .arr 61 2 0 (b1.flatMap eGTimersTimer)]) (fun b1 => m8_l13_ours_k1 a0 b1 = some r) (fun _ _ => inbL_of rfl) (fun _ _ => blkinb_of rfl) (fun _ _ => Nat.le_of_ble_eq_true rfl) (fun b1 h => ?_) ?_
  · unfold m8_l13_ours_k1 at h
    refine cseq ?_
    refine cregion ?_
    refine sv rfl (opv_loadN ti28 rfl (.lp _ _ _ rfl) (Nat.le_of_ble_eq_true rfl)) ?_
    refine sstore sz28 rfl rfl rfl rfl (Nat.le_of_ble_eq_true rfl) ?_
    refine smem [.box a0, .box [.i .i64 a0.Now, .ls 3 b1.length], .box [.i .i64 a0.Now, .ls 3 b1.length], .arr 61 2 0 (b1.flatMap eGTimersTimer)] rfl ?_
    refine snil ?_
    refine cret ?_
    obtain rfl := Option.some.inj h
    refine ⟨Or.inr rfl, _, _, _, (resVs_cons (ResV.agg _ _ _ _ _ ti28 rfl (.lp _ _ _ rfl) (Nat.le_of_ble_eq_true rfl)) resVs_nil), (by (repeat' first | exact PubA.nil _ | apply PubA.cons | apply PubV.one | apply PubV.agg | exact PubL.nil | exact PubL.ls _ _ _ _ _ _ rfl (flat_len (f := eGTimersTimer) (fun _ => rfl) _).symm | exact PubL.id _ rfl | exact PubLs.nil _ | apply PubLs.cons)), ?_⟩
    rfl
  · skip
    refine cblock ?_
    obtain ⟨x2, hx2, ho2⟩ := bind_eq h
    refine awc_loop (G := Nat × (Int × (List GTimersTimer))) (fun g => [(1, .s (.one (.lp 0 0))), (2, .s (.one (.lp 1 0))), (3, .s (.one (.lp 2 0))), (4, .s (.one (.i .i64 g.2.1)))]) (fun g => [.box a0, .box [.i .i64 0, .raw (.slice none 0 0)], .box [.i .i64 a0.Now, .ls 3 g.2.2.length], .arr 61 2 0 (g.2.2.flatMap eGTimersTimer)]) (fun g => iterB (m8_l13_ours_s2 a0) g.1 g.2 = some x2) (fun g => g.1) (fuel, (0, ([] : List GTimersTimer))) hx2 ⟨rfl, rfl, rfl, rfl, trivial⟩ [] rfl (fun _ _ => inbL_of rfl) (fun _ _ => blkinb_of rfl) (fun _ _ => Nat.le_of_ble_eq_true rfl) ?_
    clear hx2 h
    rintro ⟨n2, s2⟩ h
    obtain ⟨n2, y2, rfl, h, hk2⟩ := iterB_eq h
    unfold m8_l13_ours_s2 at h
    refine cseq ?_
    refine cseq ?_
    refine cregion ?_
    refine sv rfl (opv_mv rfl) ?_
    refine sv rfl (opv_fieldAddr_lp fi24_1 rfl) ?_
    refine sv rfl (opv_load1 ti22 rfl (.lp _ _ _ rfl) rfl) ?_
    refine sv rfl (opv_len_sl si22 rfl) ?_
    refine sv rfl (opv_lss rfl rfl) ?_
    refine snil ?_
    refine ccond rfl (fun hc => ?_) (fun hc => ?_)
    · replace h := ite_t hc h
      clear hc
      refine cskip ?_
      refine then_normal ?_
      refine cseq ?_
      refine cblock ?_
      obtain ⟨u3, hu3, h⟩ := bind_eq h
      obtain ⟨u4, hu4, h⟩ := bind_eq h
      obtain ⟨hb5, h⟩ := chk_eq h
      refine cdraw_e [16, 18] [0, 1, 0, 4, 0, 28, 60, 124, 0, 256, 0, 1792, 3840, 7936, 16380, 32764, 65535, 131071, 262143] [[.box a0, .box [.i .i64 0, .raw (.slice none 0 0)], .box [.i .i64 a0.Now, .ls 3 s2.2.length], .arr 61 2 0 (s2.2.flatMap eGTimersTimer)], [.box a0, .box [.i .i64 0, .raw (.slice none 0 0)], .box [.i .i64 a0.Now, .ls 3 s2.2.length], .arr 61 2 0 ((s2.2 ++ ([(GTimersTimer.mk u3.ID u4.At)] : List GTimersTimer)).flatMap eGTimersTimer)], [.box a0, .box [.i .i64 0, .raw (.slice none 0 0)], .box [.i .i64 a0.Now, .ls 3 (s2.2 ++ ([(GTimersTimer.mk u3.ID u4.At)] : List GTimersTimer)).length], .arr 61 2 0 ((s2.2 ++ ([(GTimersTimer.mk u3.ID u4.At)] : List GTimersTimer)).flatMap eGTimersTimer)]] (by kernel_rfl) mixed (by kernel_rfl) (by decide) rfl rfl rfl rfl ?_
      refine ev (sees_at 0 rfl rfl) rfl rfl (opv_fieldAddr_lp fi28_1 rfl) ?_
      refine ev (sees_at 0 rfl rfl) rfl rfl (opv_load1 ti26 rfl (.lp _ _ _ rfl) rfl) ?_
      refine ev (sees_at 0 rfl rfl) rfl rfl (opv_fieldAddr_lp fi24_1 rfl) ?_
      refine ev (sees_at 0 rfl rfl) rfl rfl (opv_load1 ti22 rfl (.lp _ _ _ rfl) rfl) ?_
      refine ev (sees_at 0 rfl rfl) rfl rfl (opv_mv rfl) ?_
      refine ev (sees_at 0 rfl rfl) rfl rfl (opv_ix (f := eGR13Timer) si22 (fun _ => rfl) rfl rfl rfl rfl hu3) ?_
      refine ev (sees_at 0 rfl rfl) rfl rfl (opv_fieldAddr_cp fi60_0 rfl) ?_
      refine ev (sees_at 0 rfl rfl) rfl rfl (opv_load1 ti3 rfl (.cp _) rfl) ?_
      refine ev (sees_at 0 rfl rfl) rfl rfl (opv_fieldAddr_lp fi24_1 rfl) ?_
      refine ev (sees_at 0 rfl rfl) rfl rfl (opv_load1 ti22 rfl (.lp _ _ _ rfl) rfl) ?_
      refine ev (sees_at 0 rfl rfl) rfl rfl (opv_mv rfl) ?_
      refine ev (sees_at 0 rfl rfl) rfl rfl (opv_ix (f := eGR13Timer) si22 (fun _ => rfl) rfl rfl rfl rfl hu4) ?_
      refine ev (sees_at 0 rfl rfl) rfl rfl (opv_fieldAddr_cp fi60_1 rfl) ?_
      refine ev (sees_at 0 rfl rfl) rfl rfl (opv_load1 ti3 rfl (.cp _) rfl) ?_
      refine ev (sees_at 0 rfl rfl) rfl rfl (opv_build zi61 pi61 (parts_cons rfl (parts_cons rfl parts_nil)) (.cons _ _ _ _ _ _ _ rfl rfl (Nat.le_of_ble_eq_true rfl) (.cons _ _ _ _ _ _ _ rfl rfl (Nat.le_of_ble_eq_true rfl) (.nil _)))) ?_
      refine ed (sees_at 0 rfl rfl) rfl rfl (opD_bld (out := ([(GTimersTimer.mk u3.ID u4.At)] : List GTimersTimer).flatMap eGTimersTimer) Try.underlying26 ei61 (parts_cons rfl parts_nil) (.cons _ _ _ _ _ _ _ rfl rfl (Nat.le_of_ble_eq_true rfl) (.nil _)) rfl (by decide)) ?_
      refine ee (x := .s (.one (.ls 3 (s2.2 ++ ([(GTimersTimer.mk u3.ID u4.At)] : List GTimersTimer)).length))) 0 rfl rfl rfl rfl rfl (fun ζ => ?_) ?_
      · refine sapp (f := eGTimersTimer) (xs := s2.2) (us := ([(GTimersTimer.mk u3.ID u4.At)] : List GTimersTimer)) rfl Try.underlying26 ei61 ni26 (fun _ => rfl) rfl rfl (.one _ _ _ _ (.id _ rfl)) rfl rfl rfl (.sl _ _ _ (flat_len (f := eGTimersTimer) (fun _ => rfl) _)) rfl rfl hb5 (by decide) ?_
        exact eend
      refine ev (sees_at 1 rfl rfl) rfl rfl (opv_fieldAddr_lp fi28_1 rfl) ?_
      refine ee0 1 rfl rfl rfl rfl (fun ζ => ?_) ?_
      · refine sstore sz26 rfl rfl rfl rfl (Nat.le_of_ble_eq_true rfl) ?_
        refine smem [.box a0, .box [.i .i64 0, .raw (.slice none 0 0)], .box [.i .i64 a0.Now, .ls 3 (s2.2 ++ ([(GTimersTimer.mk u3.ID u4.At)] : List GTimersTimer)).length], .arr 61 2 0 ((s2.2 ++ ([(GTimersTimer.mk u3.ID u4.At)] : List GTimersTimer)).flatMap eGTimersTimer)] rfl ?_
        exact eend
      refine enil ?_
      refine block_normal ?_
      refine then_normal ?_
      refine cregion ?_
      refine sv rfl (opv_mv rfl) ?_
      refine sv rfl (opv_add rfl rfl) ?_
      refine sv rfl (opv_as rfl) ?_
      refine snil ?_
      obtain rfl := Option.some.inj h
      exact ⟨(n2, ((wI (s2.1 + 1)), (s2.2 ++ ([(GTimersTimer.mk u3.ID u4.At)] : List GTimersTimer)))), _, hk2, ⟨rfl, rfl, rfl, rfl, trivial⟩, rfl, Nat.lt_succ_self _⟩
    · replace h := ite_f hc h
      clear hc
      refine cexit ?_
      refine then_exit ?_
      refine then_exit ?_
      refine block_hit ?_
      refine then_normal ?_
      obtain rfl := Option.some.inj h
      obtain rfl : _ = x2 := hk2
      exact ⟨s2.2, _, ho2, ⟨rfl, rfl, trivial⟩, rfl⟩

def m21_r13_Sane_k2 (b2 : Unit) : Option Bool :=
  some true

def m21_r13_Sane_s3 (a0 : GR13Table) (s3 : Int) : Option (LR (Int) (Unit) (Bool)) :=
  if (decide (s3 < (a0.L.length : Int))) then ((idx a0.L s3).bind fun u4 => if (decide (u4.ID < 0)) then (some (.ret false)) else (if (decide (0 < s3)) then ((idx a0.L (wI (s3 - 1))).bind fun u5 => if (decide (u4.ID ≤ u5.ID)) then (some (.ret false)) else (if (decide (u4.At ≤ a0.Now)) then (some (.ret false)) else (if (decide (2199023255552 < u4.At)) then (some (.ret false)) else (some (.cont (wI (s3 + 1))))))) else (if (decide (u4.At ≤ a0.Now)) then (some (.ret false)) else (if (decide (2199023255552 < u4.At)) then (some (.ret false)) else (some (.cont (wI (s3 + 1)))))))) else (some (.brk ()))

def m21_r13_Sane_k1 (a0 : GR13Table) (b1 : Unit) : Option Bool :=
  (iter (m21_r13_Sane_s3 a0) fuel 0).bind fun x => match x with | .inl r => some r | .inr e6 => m21_r13_Sane_k2 e6
def m21_r13_Sane (a0 : GR13Table) : Option Bool :=
  if (decide (a0.Now < 0)) then (some false) else (if (decide (1099511627776 < a0.Now)) then (some false) else (if (decide (64 < (a0.L.length : Int))) then (some false) else (m21_r13_Sane_k1 a0 ())))

omit [TickC] in
set_option maxRecDepth 100000 in
theorem m21_r13_Sane_c {a0 : GR13Table} {r : Bool} (h : m21_r13_Sane a0 = some r) : CallsA Try.prog 21 [.agg a0] (· = .s (.one (.b r))) := by
  unfold m21_r13_Sane at h
  refine callsA_of Try.func21 rfl (nt := 62) rfl (Nat.le_of_ble_eq_true rfl) ?_
  intro w0 S0
  refine cseq ?_
  refine cregion ?_
  refine sbox rfl rfl ?_
  refine sv rfl (opv_as rfl) ?_
  refine snil ?_
  refine cseq ?_
  refine cseq ?_
  refine cjoin3 (Unit) (fun b1 => [(1, .s (.one (.lp 0 0)))]) (fun b1 => [.box a0]) (fun b1 => m21_r13_Sane_k1 a0 b1 = some r) (fun _ _ => inbL_of rfl) (fun _ _ => blkinb_of rfl) (fun _ _ => Nat.le_of_ble_eq_true rfl) (fun b1 h => ?_) ?_
  · unfold m21_r13_Sane_k1 at h
    refine cseq ?_
    refine cseq ?_
    refine cregion ?_
    refine sv rfl (opv_as rfl) ?_
    refine snil ?_
    refine cjoin (Unit) (fun b2 => []) (fun b2 => [.box a0]) (fun b2 => m21_r13_Sane_k2 b2 = some r) (fun _ _ => inbL_of rfl) (fun _ _ => blkinb_of rfl) (fun _ _ => Nat.le_of_ble_eq_true rfl) (fun b2 h => ?_) ?_
    · unfold m21_r13_Sane_k2 at h
      refine cseq ?_
      refine cregion ?_
      refine sv rfl (opv_as rfl) ?_
      refine snil ?_
      refine cret ?_
      obtain rfl := Option.some.inj h
      refine ⟨Or.inr rfl, _, _, _, (resVs_cons (ResV.tmp _ _ rfl) resVs_nil), (pubA_id rfl), ?_⟩
      rfl
    · skip
      refine cblock ?_
      obtain ⟨x3, hx3, ho3⟩ := bind_eq h
      refine awc_loop (G := Nat × (Int)) (fun g => [(1, .s (.one (.lp 0 0))), (3, .s (.one (.i .i64 g.2)))]) (fun g => [.box a0]) (fun g => iter (m21_r13_Sane_s3 a0) g.1 g.2 = some x3) (fun g => g.1) (fuel, 0) hx3 ⟨rfl, rfl, trivial⟩ [] rfl (fun _ _ => inbL_of rfl) (fun _ _ => blkinb_of rfl) (fun _ _ => Nat.le_of_ble_eq_true rfl) ?_
      clear hx3 h
      rintro ⟨n3, s3⟩ h
      obtain ⟨n3, y3, rfl, h, hk3⟩ := iter_eq h
      unfold m21_r13_Sane_s3 at h
      refine cseq ?_
      refine cseq ?_
      refine cregion ?_
      refine sv rfl (opv_mv rfl) ?_
      refine sv rfl (opv_fieldAddr_lp fi24_1 rfl) ?_
      refine sv rfl (opv_load1 ti22 rfl (.lp _ _ _ rfl) rfl) ?_
      refine sv rfl (opv_len_sl si22 rfl) ?_
      refine sv rfl (opv_lss rfl rfl) ?_
      refine snil ?_
      refine ccond rfl (fun hc => ?_) (fun hc => ?_)
      · replace h := ite_t hc h
        clear hc
        refine cskip ?_
        refine then_normal ?_
        refine cseq ?_
        refine cblock ?_
        refine cseq ?_
        refine cregion ?_
        refine sv rfl (opv_fieldAddr_lp fi24_1 rfl) ?_
        refine sv rfl (opv_load1 ti22 rfl (.lp _ _ _ rfl) rfl) ?_
        refine sv rfl (opv_mv rfl) ?_
        obtain ⟨u4, hu4, h⟩ := bind_eq h
        refine sv rfl (opv_ix (f := eGR13Timer) si22 (fun _ => rfl) rfl rfl rfl rfl hu4) ?_
        refine sv rfl (opv_loadNe (ys := [.i .i64 u4.ID, .i .i64 u4.At]) ti60 rfl (.cp _) rfl rfl) ?_
        refine salloc rfl zi60 ?_
        refine sstore sz60 rfl rfl rfl rfl (Nat.le_of_ble_eq_true rfl) ?_
        refine smem [.box a0, .box [.i .i64 u4.ID, .i .i64 u4.At]] rfl ?_
        refine snil ?_
        refine cseq ?_
        refine cdraw mixed (by kernel_rfl) ?_
        refine dv rfl (opv_fieldAddr_lp fi60_0 rfl) ?_
        refine dv rfl (opv_load1 ti3 rfl (.lp _ _ _ rfl) rfl) ?_
        refine dv rfl (opv_lss rfl rfl) ?_
        refine dv rfl (opv_mv rfl) ?_
        refine dsplit 34 rfl (fun hc => ?_) (fun hc => ?_)
        · replace h := ite_t hc h
          clear hc
          refine doff rfl rfl rfl rfl ?_
          refine doff rfl rfl rfl rfl ?_
          refine doff rfl rfl rfl rfl ?_
          refine doffu rfl rfl rfl ?_
          refine doffu rfl rfl rfl ?_
          refine doffu rfl rfl rfl ?_
          refine doffu rfl rfl rfl ?_
          refine doffu rfl rfl rfl ?_
          refine doffu rfl rfl rfl ?_
          refine doffu rfl rfl rfl ?_
          refine doffu rfl rfl rfl ?_
          refine doffu rfl rfl rfl ?_
          refine doffu rfl rfl rfl ?_
          refine doff rfl rfl rfl rfl ?_
          refine dv rfl (opv_pick_t rfl rfl) ?_
          refine dv rfl (opv_mv rfl) ?_
          refine doff rfl rfl rfl rfl ?_
          refine doff rfl rfl rfl rfl ?_
          refine doff rfl rfl rfl rfl ?_
          refine doff rfl rfl rfl rfl ?_
          refine doff rfl rfl rfl rfl ?_
          refine dv rfl (opv_pick_t rfl rfl) ?_
          refine dv rfl (opv_mv rfl) ?_
          refine doff rfl rfl rfl rfl ?_
          refine doff rfl rfl rfl rfl ?_
          refine doff rfl rfl rfl rfl ?_
          refine dv rfl (opv_pick_t rfl rfl) ?_
          refine dnil ?_
          refine then_normal ?_
          refine ccond rfl (fun _ => ?_) (fun hx => Bool.noConfusion hx)
          refine cseq ?_
          refine cregion ?_
          refine sv rfl (opv_as rfl) ?_
          refine snil ?_
          refine cret ?_
          refine block_ret ?_
          refine then_ret ?_
          refine then_ret ?_
          refine block_ret ?_
          refine then_ret ?_
          obtain rfl := Option.some.inj h
          obtain rfl : Sum.inl _ = x3 := hk3
          replace ho3 : some _ = some _ := ho3
          obtain rfl := Option.some.inj ho3
          refine ⟨Or.inr rfl, _, _, _, (resVs_cons (ResV.tmp _ _ rfl) resVs_nil), (pubA_id rfl), ?_⟩
          rfl
        · replace h := ite_f hc h
          clear hc
          refine dvg rfl rfl rfl (opv_mv rfl) ?_
          refine dvg rfl rfl rfl (opv_gtr rfl rfl) ?_
          refine dvg rfl rfl rfl (opv_mv rfl) ?_
          refine dsplit 37 rfl (fun hc => ?_) (fun hc => ?_)
          · replace h := ite_t hc h
            clear hc
            refine dvg rfl rfl rfl (opv_fieldAddr_lp fi60_0 rfl) ?_
            refine dvg rfl rfl rfl (opv_load1 ti3 rfl (.lp _ _ _ rfl) rfl) ?_
            refine dvg rfl rfl rfl (opv_fieldAddr_lp fi24_1 rfl) ?_
            refine dvg rfl rfl rfl (opv_load1 ti22 rfl (.lp _ _ _ rfl) rfl) ?_
            refine dvg rfl rfl rfl (opv_mv rfl) ?_
            refine dvg rfl rfl rfl (opv_sub rfl rfl) ?_
            obtain ⟨u5, hu5, h⟩ := bind_eq h
            refine dvg rfl rfl rfl (opv_ix (f := eGR13Timer) si22 (fun _ => rfl) rfl rfl rfl rfl hu5) ?_
            refine dvg rfl rfl rfl (opv_fieldAddr_cp fi60_0 rfl) ?_
            refine dvg rfl rfl rfl (opv_load1 ti3 rfl (.cp _) rfl) ?_
            refine dvg rfl rfl rfl (opv_leq rfl rfl) ?_
            refine dvg rfl rfl rfl (opv_pick_t rfl rfl) ?_
            refine dv rfl (opv_pick_f rfl rfl) ?_
            refine dv rfl (opv_mv rfl) ?_
            refine dsplit 50 rfl (fun hc => ?_) (fun hc => ?_)
            · replace h := ite_t hc h
              clear hc
              refine doff rfl rfl rfl rfl ?_
              refine doff rfl rfl rfl rfl ?_
              refine doff rfl rfl rfl rfl ?_
              refine doff rfl rfl rfl rfl ?_
              refine doff rfl rfl rfl rfl ?_
              refine dv rfl (opv_pick_t rfl rfl) ?_
              refine dv rfl (opv_mv rfl) ?_
              refine doff rfl rfl rfl rfl ?_
              refine doff rfl rfl rfl rfl ?_
              refine doff rfl rfl rfl rfl ?_
              refine dv rfl (opv_pick_t rfl rfl) ?_
              refine dnil ?_
              refine then_normal ?_
              refine ccond rfl (fun _ => ?_) (fun hx => Bool.noConfusion hx)
              refine cseq ?_
              refine cregion ?_
              refine sv rfl (opv_as rfl) ?_
              refine snil ?_
              refine cret ?_
              refine block_ret ?_
              refine then_ret ?_
              refine then_ret ?_
              refine block_ret ?_
              refine then_ret ?_
              obtain rfl := Option.some.inj h
              obtain rfl : Sum.inl _ = x3 := hk3
              replace ho3 : some _ = some _ := ho3
              obtain rfl := Option.some.inj ho3
              refine ⟨Or.inr rfl, _, _, _, (resVs_cons (ResV.tmp _ _ rfl) resVs_nil), (pubA_id rfl), ?_⟩
              rfl
            · replace h := ite_f hc h
              clear hc
              refine dvg rfl rfl rfl (opv_fieldAddr_lp fi60_1 rfl) ?_
              refine dvg rfl rfl rfl (opv_load1 ti3 rfl (.lp _ _ _ rfl) rfl) ?_
              refine dvg rfl rfl rfl (opv_fieldAddr_lp fi24_0 rfl) ?_
              refine dvg rfl rfl rfl (opv_load1 ti3 rfl (.lp _ _ _ rfl) rfl) ?_
              refine dvg rfl rfl rfl (opv_leq rfl rfl) ?_
              refine dv rfl (opv_pick_f rfl rfl) ?_
              refine dv rfl (opv_mv rfl) ?_
              refine dsplit 57 rfl (fun hc => ?_) (fun hc => ?_)
              · replace h := ite_t hc h
                clear hc
                refine doff rfl rfl rfl rfl ?_
                refine doff rfl rfl rfl rfl ?_
                refine doff rfl rfl rfl rfl ?_
                refine dv rfl (opv_pick_t rfl rfl) ?_
                refine dnil ?_
                refine then_normal ?_
                refine ccond rfl (fun _ => ?_) (fun hx => Bool.noConfusion hx)
                refine cseq ?_
                refine cregion ?_
                refine sv rfl (opv_as rfl) ?_
                refine snil ?_
                refine cret ?_
                refine block_ret ?_
                refine then_ret ?_
                refine then_ret ?_
                refine block_ret ?_
                refine then_ret ?_
                obtain rfl := Option.some.inj h
                obtain rfl : Sum.inl _ = x3 := hk3
                replace ho3 : some _ = some _ := ho3
                obtain rfl := Option.some.inj ho3
                refine ⟨Or.inr rfl, _, _, _, (resVs_cons (ResV.tmp _ _ rfl) resVs_nil), (pubA_id rfl), ?_⟩
                rfl
              · replace h := ite_f hc h
                clear hc
                refine dvg rfl rfl rfl (opv_fieldAddr_lp fi60_1 rfl) ?_
                refine dvg rfl rfl rfl (opv_load1 ti3 rfl (.lp _ _ _ rfl) rfl) ?_
                refine dvg rfl rfl rfl (opv_gtr rfl rfl) ?_
                refine dv rfl (opv_pick_f rfl rfl) ?_
                refine dnil ?_
                refine then_normal ?_
                refine ccond rfl (fun hc => ?_) (fun hc => ?_)
                · replace h := ite_t hc h
                  clear hc
                  refine cseq ?_
                  refine cregion ?_
                  refine sv rfl (opv_as rfl) ?_
                  refine snil ?_
                  refine cret ?_
                  refine block_ret ?_
                  refine then_ret ?_
                  refine then_ret ?_
                  refine block_ret ?_
                  refine then_ret ?_
                  obtain rfl := Option.some.inj h
                  obtain rfl : Sum.inl _ = x3 := hk3
                  replace ho3 : some _ = some _ := ho3
                  obtain rfl := Option.some.inj ho3
                  refine ⟨Or.inr rfl, _, _, _, (resVs_cons (ResV.tmp _ _ rfl) resVs_nil), (pubA_id rfl), ?_⟩
                  rfl
                · replace h := ite_f hc h
                  clear hc
                  refine cskip ?_
                  refine block_normal ?_
                  refine then_normal ?_
                  refine cregion ?_
                  refine sv rfl (opv_mv rfl) ?_
                  refine sv rfl (opv_add rfl rfl) ?_
                  refine sv rfl (opv_as rfl) ?_
                  refine snil ?_
                  obtain rfl := Option.some.inj h
                  exact ⟨(n3, (wI (s3 + 1))), _, hk3, ⟨rfl, rfl, trivial⟩, rfl, Nat.lt_succ_self _⟩
          · replace h := ite_f hc h
            clear hc
            refine doff rfl rfl rfl rfl ?_
            refine doff rfl rfl rfl rfl ?_
            refine doff rfl rfl rfl rfl ?_
            refine doff rfl rfl rfl rfl ?_
            refine doff rfl rfl rfl rfl ?_
            refine doff rfl rfl rfl rfl ?_
            refine doff rfl rfl rfl rfl ?_
            refine doff rfl rfl rfl rfl ?_
            refine doff rfl rfl rfl rfl ?_
            refine doff rfl rfl rfl rfl ?_
            refine dvg rfl rfl rfl (opv_pick_f rfl rfl) ?_
            refine dv rfl (opv_pick_f rfl rfl) ?_
            refine dv rfl (opv_mv rfl) ?_
            refine dvg rfl rfl rfl (opv_fieldAddr_lp fi60_1 rfl) ?_
            refine dvg rfl rfl rfl (opv_load1 ti3 rfl (.lp _ _ _ rfl) rfl) ?_
            refine dvg rfl rfl rfl (opv_fieldAddr_lp fi24_0 rfl) ?_
            refine dvg rfl rfl rfl (opv_load1 ti3 rfl (.lp _ _ _ rfl) rfl) ?_
            refine dvg rfl rfl rfl (opv_leq rfl rfl) ?_
            refine dv rfl (opv_pick_f rfl rfl) ?_
            refine dv rfl (opv_mv rfl) ?_
            refine dsplit 57 rfl (fun hc => ?_) (fun hc => ?_)
            · replace h := ite_t hc h
              clear hc
              refine doff rfl rfl rfl rfl ?_
              refine doff rfl rfl rfl rfl ?_
              refine doff rfl rfl rfl rfl ?_
              refine dv rfl (opv_pick_t rfl rfl) ?_
              refine dnil ?_
              refine then_normal ?_
              refine ccond rfl (fun _ => ?_) (fun hx => Bool.noConfusion hx)
              refine cseq ?_
              refine cregion ?_
              refine sv rfl (opv_as rfl) ?_
              refine snil ?_
              refine cret ?_
              refine block_ret ?_
              refine then_ret ?_
              refine then_ret ?_
              refine block_ret ?_
              refine then_ret ?_
              obtain rfl := Option.some.inj h
              obtain rfl : Sum.inl _ = x3 := hk3
              replace ho3 : some _ = some _ := ho3
              obtain rfl := Option.some.inj ho3
              refine ⟨Or.inr rfl, _, _, _, (resVs_cons (ResV.tmp _ _ rfl) resVs_nil), (pubA_id rfl), ?_⟩
              rfl
            · replace h := ite_f hc h
              clear hc
              refine dvg rfl rfl rfl (opv_fieldAddr_lp fi60_1 rfl) ?_
              refine dvg rfl rfl rfl (opv_load1 ti3 rfl (.lp _ _ _ rfl) rfl) ?_
              refine dvg rfl rfl rfl (opv_gtr rfl rfl) ?_
              refine dv rfl (opv_pick_f rfl rfl) ?_
              refine dnil ?_
              refine then_normal ?_
              refine ccond rfl (fun hc => ?_) (fun hc => ?_)
              · replace h := ite_t hc h
                clear hc
                refine cseq ?_
                refine cregion ?_
                refine sv rfl (opv_as rfl) ?_
                refine snil ?_
                refine cret ?_
                refine block_ret ?_
                refine then_ret ?_
                refine then_ret ?_
                refine block_ret ?_
                refine then_ret ?_
                obtain rfl := Option.some.inj h
                obtain rfl : Sum.inl _ = x3 := hk3
                replace ho3 : some _ = some _ := ho3
                obtain rfl := Option.some.inj ho3
                refine ⟨Or.inr rfl, _, _, _, (resVs_cons (ResV.tmp _ _ rfl) resVs_nil), (pubA_id rfl), ?_⟩
                rfl
              · replace h := ite_f hc h
                clear hc
                refine cskip ?_
                refine block_normal ?_
                refine then_normal ?_
                refine cregion ?_
                refine sv rfl (opv_mv rfl) ?_
                refine sv rfl (opv_add rfl rfl) ?_
                refine sv rfl (opv_as rfl) ?_
                refine snil ?_
                obtain rfl := Option.some.inj h
                exact ⟨(n3, (wI (s3 + 1))), _, hk3, ⟨rfl, rfl, trivial⟩, rfl, Nat.lt_succ_self _⟩
      · replace h := ite_f hc h
        clear hc
        refine cexit ?_
        refine then_exit ?_
        refine then_exit ?_
        refine block_hit ?_
        refine then_normal ?_
        obtain rfl := Option.some.inj h
        obtain rfl : _ = x3 := hk3
        exact ⟨(), _, ho3, trivial, rfl⟩
  · skip
    refine cregion ?_
    refine sv rfl (opv_fieldAddr_lp fi24_0 rfl) ?_
    refine sv rfl (opv_load1 ti3 rfl (.lp _ _ _ rfl) rfl) ?_
    refine sv rfl (opv_lss rfl rfl) ?_
    refine sv rfl (opv_mv rfl) ?_
    refine ssplit 8 rfl (fun hc => ?_) (fun hc => ?_)
    · replace h := ite_t hc h
      clear hc
      refine soff rfl rfl rfl rfl ?_
      refine soff rfl rfl rfl rfl ?_
      refine soff rfl rfl rfl rfl ?_
      refine sv rfl (opv_pick_t rfl rfl) ?_
      refine sv rfl (opv_mv rfl) ?_
      refine soff rfl rfl rfl rfl ?_
      refine soff rfl rfl rfl rfl ?_
      refine soff rfl rfl rfl rfl ?_
      refine soff rfl rfl rfl rfl ?_
      refine sv rfl (opv_pick_t rfl rfl) ?_
      refine snil ?_
      refine ccond rfl (fun _ => ?_) (fun hx => Bool.noConfusion hx)
      refine cseq ?_
      refine cregion ?_
      refine sv rfl (opv_as rfl) ?_
      refine snil ?_
      refine cret ?_
      refine then_ret ?_
      obtain rfl := Option.some.inj h
      refine ⟨Or.inr rfl, _, _, _, (resVs_cons (ResV.tmp _ _ rfl) resVs_nil), (pubA_id rfl), ?_⟩
      rfl
    · replace h := ite_f hc h
      clear hc
      refine son rfl rfl rfl ?_
      refine sv rfl (opv_fieldAddr_lp fi24_0 rfl) ?_
      refine son rfl rfl rfl ?_
      refine sv rfl (opv_load1 ti3 rfl (.lp _ _ _ rfl) rfl) ?_
      refine son rfl rfl rfl ?_
      refine sv rfl (opv_gtr rfl rfl) ?_
      refine sv rfl (opv_pick_f rfl rfl) ?_
      refine sv rfl (opv_mv rfl) ?_
      refine ssplit 13 rfl (fun hc => ?_) (fun hc => ?_)
      · replace h := ite_t hc h
        clear hc
        refine soff rfl rfl rfl rfl ?_
        refine soff rfl rfl rfl rfl ?_
        refine soff rfl rfl rfl rfl ?_
        refine soff rfl rfl rfl rfl ?_
        refine sv rfl (opv_pick_t rfl rfl) ?_
        refine snil ?_
        refine ccond rfl (fun _ => ?_) (fun hx => Bool.noConfusion hx)
        refine cseq ?_
        refine cregion ?_
        refine sv rfl (opv_as rfl) ?_
        refine snil ?_
        refine cret ?_
        refine then_ret ?_
        obtain rfl := Option.some.inj h
        refine ⟨Or.inr rfl, _, _, _, (resVs_cons (ResV.tmp _ _ rfl) resVs_nil), (pubA_id rfl), ?_⟩
        rfl
      · replace h := ite_f hc h
        clear hc
        refine son rfl rfl rfl ?_
        refine sv rfl (opv_fieldAddr_lp fi24_1 rfl) ?_
        refine son rfl rfl rfl ?_
        refine sv rfl (opv_load1 ti22 rfl (.lp _ _ _ rfl) rfl) ?_
        refine son rfl rfl rfl ?_
        refine sv rfl (opv_len_sl si22 rfl) ?_
        refine son rfl rfl rfl ?_
        refine sv rfl (opv_gtr rfl rfl) ?_
        refine sv rfl (opv_pick_f rfl rfl) ?_
        refine snil ?_
        refine ccond rfl (fun hc => ?_) (fun hc => ?_)
        · replace h := ite_t hc h
          clear hc
          refine cseq ?_
          refine cregion ?_
          refine sv rfl (opv_as rfl) ?_
          refine snil ?_
          refine cret ?_
          refine then_ret ?_
          obtain rfl := Option.some.inj h
          refine ⟨Or.inr rfl, _, _, _, (resVs_cons (ResV.tmp _ _ rfl) resVs_nil), (pubA_id rfl), ?_⟩
          rfl
        · replace h := ite_f hc h
          clear hc
          refine cskip ?_
          refine then_normal ?_
          exact ⟨(), _, h, ⟨rfl, trivial⟩, rfl⟩

def m23_r13_Clear_k1 (a0 : GR13Table) (b1 : (List GR13Timer)) : Option GR13Table :=
  some (GR13Table.mk a0.Now b1)

def m23_r13_Clear_s2 (a0 : GR13Table) (a1 : Int) (s2 : Int × (List GR13Timer)) : Option (LB (Int × (List GR13Timer)) ((List GR13Timer))) :=
  if (decide (s2.1 < (a0.L.length : Int))) then ((idx a0.L s2.1).bind fun u3 => if (!decide (u3.ID = a1)) then ((idx a0.L s2.1).bind fun u4 => if (s2.2.length + ([u4] : List GR13Timer).length) * 16 ≤ 140737488355328 then (some (.cont ((wI (s2.1 + 1)), (s2.2 ++ ([u4] : List GR13Timer))))) else none) else (some (.cont ((wI (s2.1 + 1)), s2.2)))) else (some (.brk s2.2))
def m23_r13_Clear (a0 : GR13Table) (a1 : Int) : Option GR13Table :=
  (iterB (m23_r13_Clear_s2 a0 a1) fuel (0, ([] : List GR13Timer))).bind fun e6 => m23_r13_Clear_k1 a0 e6

omit [TickC] in
set_option maxRecDepth 100000 in
theorem m23_r13_Clear_c {a0 : GR13Table} {a1 : Int} {r : GR13Table} (h : m23_r13_Clear a0 a1 = some r) : CallsA Try.prog 23 [.agg a0, .one (.i .i64 a1)] (· = .s (.agg r)) := by
  unfold m23_r13_Clear at h
  refine callsA_of Try.func23 rfl (nt := 36) rfl (Nat.le_of_ble_eq_true rfl) ?_
  intro w0 S0
  refine cseq ?_
  refine cregion ?_
  refine sbox rfl rfl ?_
  refine salloc rfl zi24 ?_
  refine snil ?_
  refine cseq ?_
  refine cregion ?_
  refine sv rfl (opv_fieldAddr_lp fi24_0 rfl) ?_
  refine sv rfl (opv_load1 ti3 rfl (.lp _ _ _ rfl) rfl) ?_
  refine sv rfl (opv_build zi24 pi24 (parts_cons rfl parts_nil) (.cons _ _ _ _ _ _ _ rfl rfl (Nat.le_of_ble_eq_true rfl) (.nil _))) ?_
  refine salloc rfl zi24 ?_
  refine sstore sz24 rfl rfl rfl rfl (Nat.le_of_ble_eq_true rfl) ?_
  refine smem [.box a0, .box [.i .i64 0, .raw (.slice none 0 0)], .box [.i .i64 a0.Now, .raw (.slice none 0 0)]] rfl ?_
  refine snil ?_
  refine cseq ?_
  refine cseq ?_
  refine cregion ?_
  refine sv rfl (opv_as rfl) ?_
  refine snil ?_
  refine sadopt_box_c 60 2 2 1 (by decide) rfl rfl ?_
  refine cjoin ((List GR13Timer)) (fun b1 => [(4, .s (.one (.lp 1 0))), (5, .s (.one (.lp 2 0)))]) (fun b1 => [.box a0, .box [.i .i64 0, .raw (.slice none 0 0)], .box [.i .i64 a0.Now, .ls 3 b1.length], .arr 60 2 0 (b1.flatMap eGR13Timer)]) (fun b1 => m23_r13_Clear_k1 a0 b1 = some r) (fun _ _ => inbL_of rfl) (fun _ _ => blkinb_of rfl) (fun _ _ => Nat.le_of_ble_eq_true rfl) (fun b1 h => ?_) ?_
  · unfold m23_r13_Clear_k1 at h
    refine cseq ?_
    refine cregion ?_
    refine sv rfl (opv_loadN ti24 rfl (.lp _ _ _ rfl) (Nat.le_of_ble_eq_true rfl)) ?_
    refine sstore sz24 rfl rfl rfl rfl (Nat.le_of_ble_eq_true rfl) ?_
    refine smem [.box a0, .box [.i .i64 a0.Now, .ls 3 b1.length], .box [.i .i64 a0.Now, .ls 3 b1.length], .arr 60 2 0 (b1.flatMap eGR13Timer)] rfl ?_
    refine snil ?_
    refine cret ?_
    obtain rfl := Option.some.inj h
    refine ⟨Or.inr rfl, _, _, _, (resVs_cons (ResV.agg _ _ _ _ _ ti24 rfl (.lp _ _ _ rfl) (Nat.le_of_ble_eq_true rfl)) resVs_nil), (by (repeat' first | exact PubA.nil _ | apply PubA.cons | apply PubV.one | apply PubV.agg | exact PubL.nil | exact PubL.ls _ _ _ _ _ _ rfl (flat_len (f := eGR13Timer) (fun _ => rfl) _).symm | exact PubL.id _ rfl | exact PubLs.nil _ | apply PubLs.cons)), ?_⟩
    rfl
  · skip
    refine cblock ?_
    obtain ⟨x2, hx2, ho2⟩ := bind_eq h
    refine awc_loop (G := Nat × (Int × (List GR13Timer))) (fun g => [(1, .s (.one (.i .i64 a1))), (2, .s (.one (.lp 0 0))), (4, .s (.one (.lp 1 0))), (5, .s (.one (.lp 2 0))), (6, .s (.one (.i .i64 g.2.1)))]) (fun g => [.box a0, .box [.i .i64 0, .raw (.slice none 0 0)], .box [.i .i64 a0.Now, .ls 3 g.2.2.length], .arr 60 2 0 (g.2.2.flatMap eGR13Timer)]) (fun g => iterB (m23_r13_Clear_s2 a0 a1) g.1 g.2 = some x2) (fun g => g.1) (fuel, (0, ([] : List GR13Timer))) hx2 ⟨rfl, rfl, rfl, rfl, rfl, trivial⟩ [] rfl (fun _ _ => inbL_of rfl) (fun _ _ => blkinb_of rfl) (fun _ _ => Nat.le_of_ble_eq_true rfl) ?_
    clear hx2 h
    rintro ⟨n2, s2⟩ h
    obtain ⟨n2, y2, rfl, h, hk2⟩ := iterB_eq h
    unfold m23_r13_Clear_s2 at h
    refine cseq ?_
    refine cseq ?_
    refine cregion ?_
    refine sv rfl (opv_mv rfl) ?_
    refine sv rfl (opv_fieldAddr_lp fi24_1 rfl) ?_
    refine sv rfl (opv_load1 ti22 rfl (.lp _ _ _ rfl) rfl) ?_
    refine sv rfl (opv_len_sl si22 rfl) ?_
    refine sv rfl (opv_lss rfl rfl) ?_
    refine snil ?_
    refine ccond rfl (fun hc => ?_) (fun hc => ?_)
    · replace h := ite_t hc h
      clear hc
      refine cskip ?_
      refine then_normal ?_
      refine cseq ?_
      refine cblock ?_
      refine cseq ?_
      refine cregion ?_
      refine sv rfl (opv_fieldAddr_lp fi24_1 rfl) ?_
      refine sv rfl (opv_load1 ti22 rfl (.lp _ _ _ rfl) rfl) ?_
      refine sv rfl (opv_mv rfl) ?_
      obtain ⟨u3, hu3, h⟩ := bind_eq h
      refine sv rfl (opv_ix (f := eGR13Timer) si22 (fun _ => rfl) rfl rfl rfl rfl hu3) ?_
      refine sv rfl (opv_fieldAddr_cp fi60_0 rfl) ?_
      refine sv rfl (opv_load1 ti3 rfl (.cp _) rfl) ?_
      refine sv rfl (opv_mv rfl) ?_
      refine sv rfl (opv_ineq rfl rfl) ?_
      refine snil ?_
      refine ccond rfl (fun hc => ?_) (fun hc => ?_)
      · replace h := ite_t hc h
        clear hc
        obtain ⟨u4, hu4, h⟩ := bind_eq h
        obtain ⟨hb5, h⟩ := chk_eq h
        refine cdraw_e [8, 10] [0, 1, 0, 4, 0, 28, 60, 124, 255, 511, 1023] [[.box a0, .box [.i .i64 0, .raw (.slice none 0 0)], .box [.i .i64 a0.Now, .ls 3 s2.2.length], .arr 60 2 0 (s2.2.flatMap eGR13Timer)], [.box a0, .box [.i .i64 0, .raw (.slice none 0 0)], .box [.i .i64 a0.Now, .ls 3 s2.2.length], .arr 60 2 0 ((s2.2 ++ ([u4] : List GR13Timer)).flatMap eGR13Timer)], [.box a0, .box [.i .i64 0, .raw (.slice none 0 0)], .box [.i .i64 a0.Now, .ls 3 (s2.2 ++ ([u4] : List GR13Timer)).length], .arr 60 2 0 ((s2.2 ++ ([u4] : List GR13Timer)).flatMap eGR13Timer)]] (by kernel_rfl) mixed (by kernel_rfl) (by decide) rfl rfl rfl rfl ?_
        refine ev (sees_at 0 rfl rfl) rfl rfl (opv_fieldAddr_lp fi24_1 rfl) ?_
        refine ev (sees_at 0 rfl rfl) rfl rfl (opv_load1 ti22 rfl (.lp _ _ _ rfl) rfl) ?_
        refine ev (sees_at 0 rfl rfl) rfl rfl (opv_fieldAddr_lp fi24_1 rfl) ?_
        refine ev (sees_at 0 rfl rfl) rfl rfl (opv_load1 ti22 rfl (.lp _ _ _ rfl) rfl) ?_
        refine ev (sees_at 0 rfl rfl) rfl rfl (opv_mv rfl) ?_
        refine ev (sees_at 0 rfl rfl) rfl rfl (opv_ix (f := eGR13Timer) si22 (fun _ => rfl) rfl rfl rfl rfl hu4) ?_
        refine ev (sees_at 0 rfl rfl) rfl rfl (opv_loadNe (ys := [.i .i64 u4.ID, .i .i64 u4.At]) ti60 rfl (.cp _) rfl rfl) ?_
        refine ed (sees_at 0 rfl rfl) rfl rfl (opD_bld (out := ([u4] : List GR13Timer).flatMap eGR13Timer) Try.underlying22 ei60 (parts_cons rfl parts_nil) (.cons _ _ _ _ _ _ _ rfl rfl (Nat.le_of_ble_eq_true rfl) (.nil _)) rfl (by decide)) ?_
        refine ee (x := .s (.one (.ls 3 (s2.2 ++ ([u4] : List GR13Timer)).length))) 0 rfl rfl rfl rfl rfl (fun ζ => ?_) ?_
        · refine sapp (f := eGR13Timer) (xs := s2.2) (us := ([u4] : List GR13Timer)) rfl Try.underlying22 ei60 ni22 (fun _ => rfl) rfl rfl (.one _ _ _ _ (.id _ rfl)) rfl rfl rfl (.sl _ _ _ (flat_len (f := eGR13Timer) (fun _ => rfl) _)) rfl rfl hb5 (by decide) ?_
          exact eend
        refine ev (sees_at 1 rfl rfl) rfl rfl (opv_fieldAddr_lp fi24_1 rfl) ?_
        refine ee0 1 rfl rfl rfl rfl (fun ζ => ?_) ?_
        · refine sstore sz22 rfl rfl rfl rfl (Nat.le_of_ble_eq_true rfl) ?_
          refine smem [.box a0, .box [.i .i64 0, .raw (.slice none 0 0)], .box [.i .i64 a0.Now, .ls 3 (s2.2 ++ ([u4] : List GR13Timer)).length], .arr 60 2 0 ((s2.2 ++ ([u4] : List GR13Timer)).flatMap eGR13Timer)] rfl ?_
          exact eend
        refine enil ?_
        refine block_normal ?_
        refine then_normal ?_
        refine cregion ?_
        refine sv rfl (opv_mv rfl) ?_
        refine sv rfl (opv_add rfl rfl) ?_
        refine sv rfl (opv_as rfl) ?_
        refine snil ?_
        obtain rfl := Option.some.inj h
        exact ⟨(n2, ((wI (s2.1 + 1)), (s2.2 ++ ([u4] : List GR13Timer)))), _, hk2, ⟨rfl, rfl, rfl, rfl, rfl, trivial⟩, rfl, Nat.lt_succ_self _⟩
      · replace h := ite_f hc h
        clear hc
        refine cskip ?_
        refine block_normal ?_
        refine then_normal ?_
        refine cregion ?_
        refine sv rfl (opv_mv rfl) ?_
        refine sv rfl (opv_add rfl rfl) ?_
        refine sv rfl (opv_as rfl) ?_
        refine snil ?_
        obtain rfl := Option.some.inj h
        exact ⟨(n2, ((wI (s2.1 + 1)), s2.2)), _, hk2, ⟨rfl, rfl, rfl, rfl, rfl, trivial⟩, rfl, Nat.lt_succ_self _⟩
    · replace h := ite_f hc h
      clear hc
      refine cexit ?_
      refine then_exit ?_
      refine then_exit ?_
      refine block_hit ?_
      refine then_normal ?_
      obtain rfl := Option.some.inj h
      obtain rfl : _ = x2 := hk2
      exact ⟨s2.2, _, ho2, ⟨rfl, rfl, trivial⟩, rfl⟩

def m10_r13_Set_k4 (a0 : GR13Table) (b4 : (List GR13Timer)) : Option (GR13Table × Int) :=
  some ((GR13Table.mk a0.Now b4), 0)

def m10_r13_Set_k3 (a0 : GR13Table) (a1 : Int) (a2 : Int) (b3 : Bool × (List GR13Timer)) : Option (GR13Table × Int) :=
  if (!b3.1) then (if (b3.2.length + [(GR13Timer.mk a1 (wI (a0.Now + a2)))].length) * 16 ≤ 140737488355328 then (m10_r13_Set_k4 a0 (b3.2 ++ [(GR13Timer.mk a1 (wI (a0.Now + a2)))])) else none) else (m10_r13_Set_k4 a0 b3.2)

def m10_r13_Set_k7 (v2 : GR13Table) (s6 : Bool × Int × (List GR13Timer)) (b7 : Bool × (List GR13Timer)) : Option (LB (Bool × Int × (List GR13Timer)) (Bool × (List GR13Timer))) :=
  (idx v2.L s6.2.1).bind fun u8 => if (b7.2.length + ([u8] : List GR13Timer).length) * 16 ≤ 140737488355328 then (some (.cont (b7.1, (wI (s6.2.1 + 1)), (b7.2 ++ ([u8] : List GR13Timer))))) else none

def m10_r13_Set_s6 (a0 : GR13Table) (a1 : Int) (a2 : Int) (v2 : GR13Table) (s6 : Bool × Int × (List GR13Timer)) : Option (LB (Bool × Int × (List GR13Timer)) (Bool × (List GR13Timer))) :=
  if (decide (s6.2.1 < (v2.L.length : Int))) then ((idx v2.L s6.2.1).bind fun u10 => if (decide (a1 < u10.ID)) then (if (!s6.1) then (if (s6.2.2.length + [(GR13Timer.mk a1 (wI (a0.Now + a2)))].length) * 16 ≤ 140737488355328 then (m10_r13_Set_k7 v2 s6 (true, (s6.2.2 ++ [(GR13Timer.mk a1 (wI (a0.Now + a2)))]))) else none) else (m10_r13_Set_k7 v2 s6 (s6.1, s6.2.2))) else (m10_r13_Set_k7 v2 s6 (s6.1, s6.2.2))) else (some (.brk (s6.1, s6.2.2)))

def m10_r13_Set_k1 (a0 : GR13Table) (a1 : Int) (a2 : Int) (b1 : Unit) : Option (GR13Table × Int) :=
  (m23_r13_Clear a0 a1).bind fun v2 => if (decide (64 ≤ (v2.L.length : Int))) then (some ((GR13Table.mk 0 ([] : List GR13Timer)), 8)) else ((iterB (m10_r13_Set_s6 a0 a1 a2 v2) fuel (false, 0, ([] : List GR13Timer))).bind fun e12 => m10_r13_Set_k3 a0 a1 a2 e12)
def m10_r13_Set (a0 : GR13Table) (a1 : Int) (a2 : Int) : Option (GR13Table × Int) :=
  (m21_r13_Sane a0).bind fun v13 => if (!v13) then (some ((GR13Table.mk 0 ([] : List GR13Timer)), 1)) else (if (decide (a1 < 0)) then (some ((GR13Table.mk 0 ([] : List GR13Timer)), 1)) else (if (decide (a2 < 1)) then (some ((GR13Table.mk 0 ([] : List GR13Timer)), 1)) else (if (decide (1099511627776 < a2)) then (some ((GR13Table.mk 0 ([] : List GR13Timer)), 1)) else (m10_r13_Set_k1 a0 a1 a2 ()))))

omit [TickC] in
set_option maxRecDepth 100000 in
theorem m10_r13_Set_c {a0 : GR13Table} {a1 : Int} {a2 : Int} {r : GR13Table × Int} (h : m10_r13_Set a0 a1 a2 = some r) : CallsA Try.prog 10 [.agg a0, .one (.i .i64 a1), .one (.i .i64 a2)] (· = .tup [.agg r.1, .one (.i .i64 r.2)]) := by
  unfold m10_r13_Set at h
  refine callsA_of Try.func10 rfl (nt := 93) rfl (Nat.le_of_ble_eq_true rfl) ?_
  intro w0 S0
  refine cseq ?_
  refine cregion ?_
  refine sbox rfl rfl ?_
  refine salloc rfl zi24 ?_
  refine sv rfl (opv_as rfl) ?_
  refine snil ?_
  refine cseq ?_
  refine cseq ?_
  refine cjoin3 (Unit) (fun b1 => [(1, .s (.one (.i .i64 a1))), (2, .s (.one (.i .i64 a2))), (3, .s (.one (.lp 0 0))), (6, .s (.one (.lp 1 0)))]) (fun b1 => [.box a0, .box [.i .i64 0, .raw (.slice none 0 0)]]) (fun b1 => m10_r13_Set_k1 a0 a1 a2 b1 = some r) (fun _ _ => inbL_of rfl) (fun _ _ => blkinb_of rfl) (fun _ _ => Nat.le_of_ble_eq_true rfl) (fun b1 h => ?_) ?_
  · unfold m10_r13_Set_k1 at h
    refine cseq ?_
    refine cregion ?_
    refine sv rfl (opv_loadN ti24 rfl (.lp _ _ _ rfl) (Nat.le_of_ble_eq_true rfl)) ?_
    refine sv rfl (opv_mv rfl) ?_
    obtain ⟨v2, hv2, h⟩ := bind_eq h
    refine scall1 rfl fn23 (opnds_cons rfl (opnds_cons rfl opnds_nil)) (pubA_id rfl) (m23_r13_Clear_c hv2) ?_
    refine salloc rfl zi24 ?_
    refine sstore sz24 rfl rfl rfl rfl (Nat.le_of_ble_eq_true rfl) ?_
    refine smem [.box a0, .box [.i .i64 0, .raw (.slice none 0 0)], .box v2] rfl ?_
    refine snil ?_
    refine cseq ?_
    refine cseq ?_
    refine cregion ?_
    refine sv rfl (opv_fieldAddr_lp fi24_1 rfl) ?_
    refine sv rfl (opv_load1 ti22 rfl (.lp _ _ _ rfl) rfl) ?_
    refine sv rfl (opv_len_sl si22 rfl) ?_
    refine sv rfl (opv_geq rfl rfl) ?_
    refine snil ?_
    refine ccond rfl (fun hc => ?_) (fun hc => ?_)
    · replace h := ite_t hc h
      clear hc
      refine cseq ?_
      refine cregion ?_
      refine sv rfl (opv_build zi24 pi24 parts_nil (.nil _)) ?_
      refine sstore sz24 rfl rfl rfl rfl (Nat.le_of_ble_eq_true rfl) ?_
      refine smem [.box a0, .box [.i .i64 0, .raw (.slice none 0 0)], .box v2] rfl ?_
      refine sv rfl (opv_as rfl) ?_
      refine snil ?_
      refine cret ?_
      refine then_ret ?_
      obtain rfl := Option.some.inj h
      refine ⟨Or.inr rfl, _, _, _, (resVs_cons (ResV.agg _ _ _ _ _ ti24 rfl (.lp _ _ _ rfl) (Nat.le_of_ble_eq_true rfl)) (resVs_cons (ResV.tmp _ _ rfl) resVs_nil)), (pubC rfl), ?_⟩
      rfl
    · replace h := ite_f hc h
      clear hc
      refine cskip ?_
      refine then_normal ?_
      refine cseq ?_
      refine cregion ?_
      refine sv rfl (opv_fieldAddr_lp fi24_0 rfl) ?_
      refine sv rfl (opv_load1 ti3 rfl (.lp _ _ _ rfl) rfl) ?_
      refine sv rfl (opv_build zi24 pi24 (parts_cons rfl parts_nil) (.cons _ _ _ _ _ _ _ rfl rfl (Nat.le_of_ble_eq_true rfl) (.nil _))) ?_
      refine salloc rfl zi24 ?_
      refine sstore sz24 rfl rfl rfl rfl (Nat.le_of_ble_eq_true rfl) ?_
      refine smem [.box a0, .box [.i .i64 0, .raw (.slice none 0 0)], .box v2, .box [.i .i64 a0.Now, .raw (.slice none 0 0)]] rfl ?_
      refine snil ?_
      refine cseq ?_
      refine cregion ?_
      refine sv rfl (opv_as rfl) ?_
      refine snil ?_
      refine cseq ?_
      refine cseq ?_
      refine cregion ?_
      refine sv rfl (opv_as rfl) ?_
      refine snil ?_
      refine sadopt_box_c 60 2 3 1 (by decide) rfl rfl ?_
      refine cjoin (Bool × (List GR13Timer)) (fun b3 => [(1, .s (.one (.i .i64 a1))), (2, .s (.one (.i .i64 a2))), (3, .s (.one (.lp 0 0))), (6, .s (.one (.lp 1 0))), (9, .s (.one (.lp 3 0))), (10, .s (.one (.b b3.1)))]) (fun b3 => [.box a0, .box [.i .i64 0, .raw (.slice none 0 0)], .box v2, .box [.i .i64 a0.Now, .ls 4 b3.2.length], .arr 60 2 0 (b3.2.flatMap eGR13Timer)]) (fun b3 => m10_r13_Set_k3 a0 a1 a2 b3 = some r) (fun _ _ => inbL_of rfl) (fun _ _ => blkinb_of rfl) (fun _ _ => Nat.le_of_ble_eq_true rfl) (fun b3 h => ?_) ?_
      · unfold m10_r13_Set_k3 at h
        refine cseq ?_
        refine cseq ?_
        refine cregion ?_
        refine sv rfl (opv_mv rfl) ?_
        refine sv rfl (opv_not rfl) ?_
        refine snil ?_
        refine cjoin ((List GR13Timer)) (fun b4 => [(6, .s (.one (.lp 1 0))), (9, .s (.one (.lp 3 0)))]) (fun b4 => [.box a0, .box [.i .i64 0, .raw (.slice none 0 0)], .box v2, .box [.i .i64 a0.Now, .ls 4 b4.length], .arr 60 2 0 (b4.flatMap eGR13Timer)]) (fun b4 => m10_r13_Set_k4 a0 b4 = some r) (fun _ _ => inbL_of rfl) (fun _ _ => blkinb_of rfl) (fun _ _ => Nat.le_of_ble_eq_true rfl) (fun b4 h => ?_) ?_
        · unfold m10_r13_Set_k4 at h
          refine cseq ?_
          refine cregion ?_
          refine sv rfl (opv_loadN ti24 rfl (.lp _ _ _ rfl) (Nat.le_of_ble_eq_true rfl)) ?_
          refine sstore sz24 rfl rfl rfl rfl (Nat.le_of_ble_eq_true rfl) ?_
          refine smem [.box a0, .box [.i .i64 a0.Now, .ls 4 b4.length], .box v2, .box [.i .i64 a0.Now, .ls 4 b4.length], .arr 60 2 0 (b4.flatMap eGR13Timer)] rfl ?_
          refine sv rfl (opv_as rfl) ?_
          refine snil ?_
          refine cret ?_
          obtain rfl := Option.some.inj h
          refine ⟨Or.inr rfl, _, _, _, (resVs_cons (ResV.agg _ _ _ _ _ ti24 rfl (.lp _ _ _ rfl) (Nat.le_of_ble_eq_true rfl)) (resVs_cons (ResV.tmp _ _ rfl) resVs_nil)), (by (repeat' first | exact PubA.nil _ | apply PubA.cons | apply PubV.one | apply PubV.agg | exact PubL.nil | exact PubL.ls _ _ _ _ _ _ rfl (flat_len (f := eGR13Timer) (fun _ => rfl) _).symm | exact PubL.id _ rfl | exact PubLs.nil _ | apply PubLs.cons)), ?_⟩
          rfl
        · skip
          refine ccond rfl (fun hc => ?_) (fun hc => ?_)
          · replace h := ite_t hc h
            clear hc
            refine cregion ?_
            refine sv rfl (opv_fieldAddr_lp fi24_1 rfl) ?_
            refine sv rfl (opv_load1 ti22 rfl (.lp _ _ _ rfl) rfl) ?_
            refine sv rfl (opv_mv rfl) ?_
            refine sv rfl (opv_fieldAddr_lp fi24_0 rfl) ?_
            refine sv rfl (opv_load1 ti3 rfl (.lp _ _ _ rfl) rfl) ?_
            refine sv rfl (opv_mv rfl) ?_
            refine sv rfl (opv_add rfl rfl) ?_
            refine sv rfl (opv_build zi60 pi60 (parts_cons rfl (parts_cons rfl parts_nil)) (.cons _ _ _ _ _ _ _ rfl rfl (Nat.le_of_ble_eq_true rfl) (.cons _ _ _ _ _ _ _ rfl rfl (Nat.le_of_ble_eq_true rfl) (.nil _)))) ?_
            refine sbuild1 rfl Try.underlying22 ei60 rfl rfl (List.all_eq_true.1 rfl) (by decide) ?_
            refine smem [.box a0, .box [.i .i64 0, .raw (.slice none 0 0)], .box v2, .box [.i .i64 a0.Now, .ls 4 b3.2.length], .arr 60 2 0 (b3.2.flatMap eGR13Timer), .arr 60 2 0 ([(GR13Timer.mk a1 (wI (a0.Now + a2)))].flatMap eGR13Timer)] rfl ?_
            obtain ⟨hb5, h⟩ := chk_eq h
            refine sapp (f := eGR13Timer) (xs := b3.2) (us := [(GR13Timer.mk a1 (wI (a0.Now + a2)))]) rfl Try.underlying22 ei60 ni22 (fun _ => rfl) rfl rfl (.one _ _ _ _ (.ls _ _ _ _ _ _ rfl (flat_len (f := eGR13Timer) (fun _ => rfl) [(GR13Timer.mk a1 (wI (a0.Now + a2)))]).symm)) rfl rfl rfl (.sl _ _ _ (flat_len (f := eGR13Timer) (fun _ => rfl) _)) rfl rfl hb5 (by decide) ?_
            refine sv rfl (opv_fieldAddr_lp fi24_1 rfl) ?_
            refine sstore sz22 rfl rfl rfl rfl (Nat.le_of_ble_eq_true rfl) ?_
            refine smem [.box a0, .box [.i .i64 0, .raw (.slice none 0 0)], .box v2, .box [.i .i64 a0.Now, .ls 4 (b3.2 ++ [(GR13Timer.mk a1 (wI (a0.Now + a2)))]).length], .arr 60 2 0 ((b3.2 ++ [(GR13Timer.mk a1 (wI (a0.Now + a2)))]).flatMap eGR13Timer), .arr 60 2 ([(GR13Timer.mk a1 (wI (a0.Now + a2)))].flatMap eGR13Timer).length ([(GR13Timer.mk a1 (wI (a0.Now + a2)))].flatMap eGR13Timer)] rfl ?_
            refine snil ?_
            exact ⟨(b3.2 ++ [(GR13Timer.mk a1 (wI (a0.Now + a2)))]), _, h, ⟨rfl, rfl, trivial⟩, rfl⟩
          · replace h := ite_f hc h
            clear hc
            refine cskip ?_
            refine then_normal ?_
            exact ⟨b3.2, _, h, ⟨rfl, rfl, trivial⟩, rfl⟩
      · skip
        refine cblock ?_
        obtain ⟨x6, hx6, ho6⟩ := bind_eq h
        refine awc_loop (G := Nat × (Bool × Int × (List GR13Timer))) (fun g => [(1, .s (.one (.i .i64 a1))), (2, .s (.one (.i .i64 a2))), (3, .s (.one (.lp 0 0))), (6, .s (.one (.lp 1 0))), (8, .s (.one (.lp 2 0))), (9, .s (.one (.lp 3 0))), (10, .s (.one (.b g.2.1))), (11, .s (.one (.i .i64 g.2.2.1)))]) (fun g => [.box a0, .box [.i .i64 0, .raw (.slice none 0 0)], .box v2, .box [.i .i64 a0.Now, .ls 4 g.2.2.2.length], .arr 60 2 0 (g.2.2.2.flatMap eGR13Timer)]) (fun g => iterB (m10_r13_Set_s6 a0 a1 a2 v2) g.1 g.2 = some x6) (fun g => g.1) (fuel, (false, 0, ([] : List GR13Timer))) hx6 ⟨rfl, rfl, rfl, rfl, rfl, rfl, rfl, rfl, trivial⟩ [] rfl (fun _ _ => inbL_of rfl) (fun _ _ => blkinb_of rfl) (fun _ _ => Nat.le_of_ble_eq_true rfl) ?_
        clear hx6 h
        rintro ⟨n6, s6⟩ h
        obtain ⟨n6, y6, rfl, h, hk6⟩ := iterB_eq h
        unfold m10_r13_Set_s6 at h
        refine cseq ?_
        refine cseq ?_
        refine cregion ?_
        refine sv rfl (opv_mv rfl) ?_
        refine sv rfl (opv_fieldAddr_lp fi24_1 rfl) ?_
        refine sv rfl (opv_load1 ti22 rfl (.lp _ _ _ rfl) rfl) ?_
        refine sv rfl (opv_len_sl si22 rfl) ?_
        refine sv rfl (opv_lss rfl rfl) ?_
        refine snil ?_
        refine ccond rfl (fun hc => ?_) (fun hc => ?_)
        · replace h := ite_t hc h
          clear hc
          refine cskip ?_
          refine then_normal ?_
          refine cseq ?_
          refine cblock ?_
          refine cseq ?_
          refine cseq ?_
          refine cjoin3 (Bool × (List GR13Timer)) (fun b7 => [(1, .s (.one (.i .i64 a1))), (2, .s (.one (.i .i64 a2))), (3, .s (.one (.lp 0 0))), (6, .s (.one (.lp 1 0))), (8, .s (.one (.lp 2 0))), (9, .s (.one (.lp 3 0))), (10, .s (.one (.b b7.1))), (11, .s (.one (.i .i64 s6.2.1)))]) (fun b7 => [.box a0, .box [.i .i64 0, .raw (.slice none 0 0)], .box v2, .box [.i .i64 a0.Now, .ls 4 b7.2.length], .arr 60 2 0 (b7.2.flatMap eGR13Timer)]) (fun b7 => m10_r13_Set_k7 v2 s6 b7 = some y6) (fun _ _ => inbL_of rfl) (fun _ _ => blkinb_of rfl) (fun _ _ => Nat.le_of_ble_eq_true rfl) (fun b7 h => ?_) ?_
          · unfold m10_r13_Set_k7 at h
            obtain ⟨u8, hu8, h⟩ := bind_eq h
            obtain ⟨hb9, h⟩ := chk_eq h
            refine cdraw_e [8, 10] [0, 1, 0, 4, 0, 28, 60, 124, 255, 511, 1023] [[.box a0, .box [.i .i64 0, .raw (.slice none 0 0)], .box v2, .box [.i .i64 a0.Now, .ls 4 b7.2.length], .arr 60 2 0 (b7.2.flatMap eGR13Timer)], [.box a0, .box [.i .i64 0, .raw (.slice none 0 0)], .box v2, .box [.i .i64 a0.Now, .ls 4 b7.2.length], .arr 60 2 0 ((b7.2 ++ ([u8] : List GR13Timer)).flatMap eGR13Timer)], [.box a0, .box [.i .i64 0, .raw (.slice none 0 0)], .box v2, .box [.i .i64 a0.Now, .ls 4 (b7.2 ++ ([u8] : List GR13Timer)).length], .arr 60 2 0 ((b7.2 ++ ([u8] : List GR13Timer)).flatMap eGR13Timer)]] (by kernel_rfl) mixed (by kernel_rfl) (by decide) rfl rfl rfl rfl ?_
            refine ev (sees_at 0 rfl rfl) rfl rfl (opv_fieldAddr_lp fi24_1 rfl) ?_
            refine ev (sees_at 0 rfl rfl) rfl rfl (opv_load1 ti22 rfl (.lp _ _ _ rfl) rfl) ?_
            refine ev (sees_at 0 rfl rfl) rfl rfl (opv_fieldAddr_lp fi24_1 rfl) ?_
            refine ev (sees_at 0 rfl rfl) rfl rfl (opv_load1 ti22 rfl (.lp _ _ _ rfl) rfl) ?_
            refine ev (sees_at 0 rfl rfl) rfl rfl (opv_mv rfl) ?_
            refine ev (sees_at 0 rfl rfl) rfl rfl (opv_ix (f := eGR13Timer) si22 (fun _ => rfl) rfl rfl rfl rfl hu8) ?_
            refine ev (sees_at 0 rfl rfl) rfl rfl (opv_loadNe (ys := [.i .i64 u8.ID, .i .i64 u8.At]) ti60 rfl (.cp _) rfl rfl) ?_
            refine ed (sees_at 0 rfl rfl) rfl rfl (opD_bld (out := ([u8] : List GR13Timer).flatMap eGR13Timer) Try.underlying22 ei60 (parts_cons rfl parts_nil) (.cons _ _ _ _ _ _ _ rfl rfl (Nat.le_of_ble_eq_true rfl) (.nil _)) rfl (by decide)) ?_
            refine ee (x := .s (.one (.ls 4 (b7.2 ++ ([u8] : List GR13Timer)).length))) 0 rfl rfl rfl rfl rfl (fun ζ => ?_) ?_
            · refine sapp (f := eGR13Timer) (xs := b7.2) (us := ([u8] : List GR13Timer)) rfl Try.underlying22 ei60 ni22 (fun _ => rfl) rfl rfl (.one _ _ _ _ (.id _ rfl)) rfl rfl rfl (.sl _ _ _ (flat_len (f := eGR13Timer) (fun _ => rfl) _)) rfl rfl hb9 (by decide) ?_
              exact eend
            refine ev (sees_at 1 rfl rfl) rfl rfl (opv_fieldAddr_lp fi24_1 rfl) ?_
            refine ee0 1 rfl rfl rfl rfl (fun ζ => ?_) ?_
            · refine sstore sz22 rfl rfl rfl rfl (Nat.le_of_ble_eq_true rfl) ?_
              refine smem [.box a0, .box [.i .i64 0, .raw (.slice none 0 0)], .box v2, .box [.i .i64 a0.Now, .ls 4 (b7.2 ++ ([u8] : List GR13Timer)).length], .arr 60 2 0 ((b7.2 ++ ([u8] : List GR13Timer)).flatMap eGR13Timer)] rfl ?_
              exact eend
            refine enil ?_
            refine block_normal ?_
            refine then_normal ?_
            refine cregion ?_
            refine sv rfl (opv_mv rfl) ?_
            refine sv rfl (opv_add rfl rfl) ?_
            refine sv rfl (opv_as rfl) ?_
            refine snil ?_
            obtain rfl := Option.some.inj h
            exact ⟨(n6, (b7.1, (wI (s6.2.1 + 1)), (b7.2 ++ ([u8] : List GR13Timer)))), _, hk6, ⟨rfl, rfl, rfl, rfl, rfl, rfl, rfl, rfl, trivial⟩, rfl, Nat.lt_succ_self _⟩
          · skip
            refine cregion ?_
            refine sv rfl (opv_fieldAddr_lp fi24_1 rfl) ?_
            refine sv rfl (opv_load1 ti22 rfl (.lp _ _ _ rfl) rfl) ?_
            refine sv rfl (opv_mv rfl) ?_
            obtain ⟨u10, hu10, h⟩ := bind_eq h
            refine sv rfl (opv_ix (f := eGR13Timer) si22 (fun _ => rfl) rfl rfl rfl rfl hu10) ?_
            refine sv rfl (opv_fieldAddr_cp fi60_0 rfl) ?_
            refine sv rfl (opv_load1 ti3 rfl (.cp _) rfl) ?_
            refine sv rfl (opv_mv rfl) ?_
            refine sv rfl (opv_gtr rfl rfl) ?_
            refine sv rfl (opv_mv rfl) ?_
            refine ssplit 54 rfl (fun hc => ?_) (fun hc => ?_)
            · replace h := ite_t hc h
              clear hc
              refine son rfl rfl rfl ?_
              refine sv rfl (opv_mv rfl) ?_
              refine son rfl rfl rfl ?_
              refine sv rfl (opv_not rfl) ?_
              refine sv rfl (opv_pick_t rfl rfl) ?_
              refine snil ?_
              refine ccond rfl (fun hc => ?_) (fun hc => ?_)
              · replace h := ite_t hc h
                clear hc
                refine cseq ?_
                refine cregion ?_
                refine sv rfl (opv_fieldAddr_lp fi24_1 rfl) ?_
                refine sv rfl (opv_load1 ti22 rfl (.lp _ _ _ rfl) rfl) ?_
                refine sv rfl (opv_mv rfl) ?_
                refine sv rfl (opv_fieldAddr_lp fi24_0 rfl) ?_
                refine sv rfl (opv_load1 ti3 rfl (.lp _ _ _ rfl) rfl) ?_
                refine sv rfl (opv_mv rfl) ?_
                refine sv rfl (opv_add rfl rfl) ?_
                refine sv rfl (opv_build zi60 pi60 (parts_cons rfl (parts_cons rfl parts_nil)) (.cons _ _ _ _ _ _ _ rfl rfl (Nat.le_of_ble_eq_true rfl) (.cons _ _ _ _ _ _ _ rfl rfl (Nat.le_of_ble_eq_true rfl) (.nil _)))) ?_
                refine sbuild1 rfl Try.underlying22 ei60 rfl rfl (List.all_eq_true.1 rfl) (by decide) ?_
                refine smem [.box a0, .box [.i .i64 0, .raw (.slice none 0 0)], .box v2, .box [.i .i64 a0.Now, .ls 4 s6.2.2.length], .arr 60 2 0 (s6.2.2.flatMap eGR13Timer), .arr 60 2 0 ([(GR13Timer.mk a1 (wI (a0.Now + a2)))].flatMap eGR13Timer)] rfl ?_
                obtain ⟨hb11, h⟩ := chk_eq h
                refine sapp (f := eGR13Timer) (xs := s6.2.2) (us := [(GR13Timer.mk a1 (wI (a0.Now + a2)))]) rfl Try.underlying22 ei60 ni22 (fun _ => rfl) rfl rfl (.one _ _ _ _ (.ls _ _ _ _ _ _ rfl (flat_len (f := eGR13Timer) (fun _ => rfl) [(GR13Timer.mk a1 (wI (a0.Now + a2)))]).symm)) rfl rfl rfl (.sl _ _ _ (flat_len (f := eGR13Timer) (fun _ => rfl) _)) rfl rfl hb11 (by decide) ?_
                refine sv rfl (opv_fieldAddr_lp fi24_1 rfl) ?_
                refine sstore sz22 rfl rfl rfl rfl (Nat.le_of_ble_eq_true rfl) ?_
                refine smem [.box a0, .box [.i .i64 0, .raw (.slice none 0 0)], .box v2, .box [.i .i64 a0.Now, .ls 4 (s6.2.2 ++ [(GR13Timer.mk a1 (wI (a0.Now + a2)))]).length], .arr 60 2 0 ((s6.2.2 ++ [(GR13Timer.mk a1 (wI (a0.Now + a2)))]).flatMap eGR13Timer), .arr 60 2 ([(GR13Timer.mk a1 (wI (a0.Now + a2)))].flatMap eGR13Timer).length ([(GR13Timer.mk a1 (wI (a0.Now + a2)))].flatMap eGR13Timer)] rfl ?_
                refine snil ?_
                refine cregion ?_
                refine sv rfl (opv_as rfl) ?_
                refine snil ?_
                exact ⟨(true, (s6.2.2 ++ [(GR13Timer.mk a1 (wI (a0.Now + a2)))])), _, h, ⟨rfl, rfl, rfl, rfl, rfl, rfl, rfl, rfl, trivial⟩, rfl⟩
              · replace h := ite_f hc h
                clear hc
                refine cskip ?_
                refine then_normal ?_
                exact ⟨(s6.1, s6.2.2), _, h, ⟨rfl, rfl, rfl, rfl, rfl, rfl, rfl, rfl, trivial⟩, rfl⟩
            · replace h := ite_f hc h
              clear hc
              refine soff rfl rfl rfl rfl ?_
              refine soff rfl rfl rfl rfl ?_
              refine sv rfl (opv_pick_f rfl rfl) ?_
              refine snil ?_
              refine ccond rfl (fun hx => Bool.noConfusion hx) (fun _ => ?_)
              refine cskip ?_
              refine then_normal ?_
              exact ⟨(s6.1, s6.2.2), _, h, ⟨rfl, rfl, rfl, rfl, rfl, rfl, rfl, rfl, trivial⟩, rfl⟩
        · replace h := ite_f hc h
          clear hc
          refine cexit ?_
          refine then_exit ?_
          refine then_exit ?_
          refine block_hit ?_
          refine then_normal ?_
          obtain rfl := Option.some.inj h
          obtain rfl : _ = x6 := hk6
          exact ⟨(s6.1, s6.2.2), _, ho6, ⟨rfl, rfl, rfl, rfl, rfl, rfl, trivial⟩, rfl⟩
  · skip
    refine cregion ?_
    refine sv rfl (opv_loadN ti24 rfl (.lp _ _ _ rfl) (Nat.le_of_ble_eq_true rfl)) ?_
    obtain ⟨v13, hv13, h⟩ := bind_eq h
    refine scall1 rfl fn21 (opnds_cons rfl opnds_nil) (pubA_id rfl) (m21_r13_Sane_c hv13) ?_
    refine sv rfl (opv_not rfl) ?_
    refine sv rfl (opv_mv rfl) ?_
    refine ssplit 15 rfl (fun hc => ?_) (fun hc => ?_)
    · replace h := ite_t hc h
      clear hc
      refine soff rfl rfl rfl rfl ?_
      refine soff rfl rfl rfl rfl ?_
      refine sv rfl (opv_pick_t rfl rfl) ?_
      refine sv rfl (opv_mv rfl) ?_
      refine soff rfl rfl rfl rfl ?_
      refine soff rfl rfl rfl rfl ?_
      refine sv rfl (opv_pick_t rfl rfl) ?_
      refine sv rfl (opv_mv rfl) ?_
      refine soff rfl rfl rfl rfl ?_
      refine soff rfl rfl rfl rfl ?_
      refine sv rfl (opv_pick_t rfl rfl) ?_
      refine snil ?_
      refine ccond rfl (fun _ => ?_) (fun hx => Bool.noConfusion hx)
      refine cseq ?_
      refine cregion ?_
      refine sv rfl (opv_build zi24 pi24 parts_nil (.nil _)) ?_
      refine sstore sz24 rfl rfl rfl rfl (Nat.le_of_ble_eq_true rfl) ?_
      refine smem [.box a0, .box [.i .i64 0, .raw (.slice none 0 0)]] rfl ?_
      refine sv rfl (opv_as rfl) ?_
      refine snil ?_
      refine cret ?_
      refine then_ret ?_
      obtain rfl := Option.some.inj h
      refine ⟨Or.inr rfl, _, _, _, (resVs_cons (ResV.agg _ _ _ _ _ ti24 rfl (.lp _ _ _ rfl) (Nat.le_of_ble_eq_true rfl)) (resVs_cons (ResV.tmp _ _ rfl) resVs_nil)), (pubC rfl), ?_⟩
      rfl
    · replace h := ite_f hc h
      clear hc
      refine son rfl rfl rfl ?_
      refine sv rfl (opv_mv rfl) ?_
      refine son rfl rfl rfl ?_
      refine sv rfl (opv_lss rfl rfl) ?_
      refine sv rfl (opv_pick_f rfl rfl) ?_
      refine sv rfl (opv_mv rfl) ?_
      refine ssplit 19 rfl (fun hc => ?_) (fun hc => ?_)
      · replace h := ite_t hc h
        clear hc
        refine soff rfl rfl rfl rfl ?_
        refine soff rfl rfl rfl rfl ?_
        refine sv rfl (opv_pick_t rfl rfl) ?_
        refine sv rfl (opv_mv rfl) ?_
        refine soff rfl rfl rfl rfl ?_
        refine soff rfl rfl rfl rfl ?_
        refine sv rfl (opv_pick_t rfl rfl) ?_
        refine snil ?_
        refine ccond rfl (fun _ => ?_) (fun hx => Bool.noConfusion hx)
        refine cseq ?_
        refine cregion ?_
        refine sv rfl (opv_build zi24 pi24 parts_nil (.nil _)) ?_
        refine sstore sz24 rfl rfl rfl rfl (Nat.le_of_ble_eq_true rfl) ?_
        refine smem [.box a0, .box [.i .i64 0, .raw (.slice none 0 0)]] rfl ?_
        refine sv rfl (opv_as rfl) ?_
        refine snil ?_
        refine cret ?_
        refine then_ret ?_
        obtain rfl := Option.some.inj h
        refine ⟨Or.inr rfl, _, _, _, (resVs_cons (ResV.agg _ _ _ _ _ ti24 rfl (.lp _ _ _ rfl) (Nat.le_of_ble_eq_true rfl)) (resVs_cons (ResV.tmp _ _ rfl) resVs_nil)), (pubC rfl), ?_⟩
        rfl
      · replace h := ite_f hc h
        clear hc
        refine son rfl rfl rfl ?_
        refine sv rfl (opv_mv rfl) ?_
        refine son rfl rfl rfl ?_
        refine sv rfl (opv_lss rfl rfl) ?_
        refine sv rfl (opv_pick_f rfl rfl) ?_
        refine sv rfl (opv_mv rfl) ?_
        refine ssplit 23 rfl (fun hc => ?_) (fun hc => ?_)
        · replace h := ite_t hc h
          clear hc
          refine soff rfl rfl rfl rfl ?_
          refine soff rfl rfl rfl rfl ?_
          refine sv rfl (opv_pick_t rfl rfl) ?_
          refine snil ?_
          refine ccond rfl (fun _ => ?_) (fun hx => Bool.noConfusion hx)
          refine cseq ?_
          refine cregion ?_
          refine sv rfl (opv_build zi24 pi24 parts_nil (.nil _)) ?_
          refine sstore sz24 rfl rfl rfl rfl (Nat.le_of_ble_eq_true rfl) ?_
          refine smem [.box a0, .box [.i .i64 0, .raw (.slice none 0 0)]] rfl ?_
          refine sv rfl (opv_as rfl) ?_
          refine snil ?_
          refine cret ?_
          refine then_ret ?_
          obtain rfl := Option.some.inj h
          refine ⟨Or.inr rfl, _, _, _, (resVs_cons (ResV.agg _ _ _ _ _ ti24 rfl (.lp _ _ _ rfl) (Nat.le_of_ble_eq_true rfl)) (resVs_cons (ResV.tmp _ _ rfl) resVs_nil)), (pubC rfl), ?_⟩
          rfl
        · replace h := ite_f hc h
          clear hc
          refine son rfl rfl rfl ?_
          refine sv rfl (opv_mv rfl) ?_
          refine son rfl rfl rfl ?_
          refine sv rfl (opv_gtr rfl rfl) ?_
          refine sv rfl (opv_pick_f rfl rfl) ?_
          refine snil ?_
          refine ccond rfl (fun hc => ?_) (fun hc => ?_)
          · replace h := ite_t hc h
            clear hc
            refine cseq ?_
            refine cregion ?_
            refine sv rfl (opv_build zi24 pi24 parts_nil (.nil _)) ?_
            refine sstore sz24 rfl rfl rfl rfl (Nat.le_of_ble_eq_true rfl) ?_
            refine smem [.box a0, .box [.i .i64 0, .raw (.slice none 0 0)]] rfl ?_
            refine sv rfl (opv_as rfl) ?_
            refine snil ?_
            refine cret ?_
            refine then_ret ?_
            obtain rfl := Option.some.inj h
            refine ⟨Or.inr rfl, _, _, _, (resVs_cons (ResV.agg _ _ _ _ _ ti24 rfl (.lp _ _ _ rfl) (Nat.le_of_ble_eq_true rfl)) (resVs_cons (ResV.tmp _ _ rfl) resVs_nil)), (pubC rfl), ?_⟩
            rfl
          · replace h := ite_f hc h
            clear hc
            refine cskip ?_
            refine then_normal ?_
            exact ⟨(), _, h, ⟨rfl, rfl, rfl, rfl, trivial⟩, rfl⟩

def m12_r13_Tick_k2 (b2 : Int × (List GR13Timer) × (List Int)) : Option (GR13Table × (List Int) × Int) :=
  some ((GR13Table.mk b2.1 b2.2.1), b2.2.2, 0)

def m12_r13_Tick_k4 (s3 : Int × (List GR13Timer) × (List Int)) (b4 : Int) : Option (LR (Int × (List GR13Timer) × (List Int)) (Int × (List GR13Timer) × (List Int)) (GR13Table × (List Int) × Int)) :=
  if (decide (b4 < 0)) then (some (.ret ((GR13Table.mk s3.1 s3.2.1), s3.2.2, 0))) else ((idx s3.2.1 b4).bind fun u5 => if (s3.2.2.length + [u5.ID].length) * 8 ≤ 140737488355328 then ((idx s3.2.1 b4).bind fun u7 => (m23_r13_Clear (GR13Table.mk s3.1 s3.2.1) u7.ID).bind fun v8 => some (.cont (v8.Now, v8.L, (s3.2.2 ++ [u5.ID])))) else none)

def m12_r13_Tick_s9 (s3 : Int × (List GR13Timer) × (List Int)) (s9 : Int × Int) : Option (LB (Int × Int) (Int)) :=
  if (decide (s9.2 < (s3.2.1.length : Int))) then ((idx s3.2.1 s9.2).bind fun u10 => if (decide (u10.At ≤ s3.1)) then (if (decide (s9.1 < 0)) then (some (.cont (s9.2, (wI (s9.2 + 1))))) else ((idx s3.2.1 s9.2).bind fun u11 => (idx s3.2.1 s9.1).bind fun u12 => if (decide (u11.At < u12.At)) then (some (.cont (s9.2, (wI (s9.2 + 1))))) else (some (.cont (s9.1, (wI (s9.2 + 1))))))) else (some (.cont (s9.1, (wI (s9.2 + 1)))))) else (some (.brk s9.1))

def m12_r13_Tick_s3 (s3 : Int × (List GR13Timer) × (List Int)) : Option (LR (Int × (List GR13Timer) × (List Int)) (Int × (List GR13Timer) × (List Int)) (GR13Table × (List Int) × Int)) :=
  if (decide ((s3.2.2.length : Int) ≤ 64)) then ((iterB (m12_r13_Tick_s9 s3) fuel ((-1), 0)).bind fun e13 => m12_r13_Tick_k4 s3 e13) else (some (.brk (s3.1, s3.2.1, s3.2.2)))

def m12_r13_Tick_k1 (a0 : GR13Table) (a1 : Int) (b1 : Unit) : Option (GR13Table × (List Int) × Int) :=
  if (decide ((wI (1099511627776 - a0.Now)) < a1)) then (some ((GR13Table.mk 0 ([] : List GR13Timer)), ([] : List Int), 11)) else ((iter m12_r13_Tick_s3 fuel ((wI (a0.Now + a1)), a0.L, ([] : List Int))).bind fun x => match x with | .inl r => some r | .inr e14 => m12_r13_Tick_k2 e14)
def m12_r13_Tick (a0 : GR13Table) (a1 : Int) : Option (GR13Table × (List Int) × Int) :=
  (m21_r13_Sane a0).bind fun v15 => if (!v15) then (some ((GR13Table.mk 0 ([] : List GR13Timer)), ([] : List Int), 1)) else (if (decide (a1 < 0)) then (some ((GR13Table.mk 0 ([] : List GR13Timer)), ([] : List Int), 1)) else (m12_r13_Tick_k1 a0 a1 ()))

omit [TickC] in
set_option maxRecDepth 100000 in
theorem m12_r13_Tick_c {a0 : GR13Table} {a1 : Int} {r : GR13Table × (List Int) × Int} (h : m12_r13_Tick a0 a1 = some r) : CallsA Try.prog 12 [.agg a0, .one (.i .i64 a1)] (· = .tup [.agg r.1, .one (.sl r.2.1.length (r.2.1.flatMap eI)), .one (.i .i64 r.2.2)]) := by
  unfold m12_r13_Tick at h
  refine callsA_of Try.func12 rfl (nt := 94) rfl (Nat.le_of_ble_eq_true rfl) ?_
  intro w0 S0
  refine cseq ?_
  refine cregion ?_
  refine sbox rfl rfl ?_
  refine salloc rfl zi24 ?_
  refine sv rfl (opv_as rfl) ?_
  refine sv rfl (opv_as rfl) ?_
  refine snil ?_
  refine cseq ?_
  refine cseq ?_
  refine cjoin3 (Unit) (fun b1 => [(1, .s (.one (.i .i64 a1))), (2, .s (.one (.lp 0 0))), (4, .s (.one (.lp 1 0)))]) (fun b1 => [.box a0, .box [.i .i64 0, .raw (.slice none 0 0)]]) (fun b1 => m12_r13_Tick_k1 a0 a1 b1 = some r) (fun _ _ => inbL_of rfl) (fun _ _ => blkinb_of rfl) (fun _ _ => Nat.le_of_ble_eq_true rfl) (fun b1 h => ?_) ?_
  · unfold m12_r13_Tick_k1 at h
    refine cseq ?_
    refine cseq ?_
    refine cregion ?_
    refine sv rfl (opv_mv rfl) ?_
    refine sv rfl (opv_fieldAddr_lp fi24_0 rfl) ?_
    refine sv rfl (opv_load1 ti3 rfl (.lp _ _ _ rfl) rfl) ?_
    refine sv rfl (opv_sub rfl rfl) ?_
    refine sv rfl (opv_gtr rfl rfl) ?_
    refine snil ?_
    refine ccond rfl (fun hc => ?_) (fun hc => ?_)
    · replace h := ite_t hc h
      clear hc
      refine cseq ?_
      refine cregion ?_
      refine sv rfl (opv_build zi24 pi24 parts_nil (.nil _)) ?_
      refine sstore sz24 rfl rfl rfl rfl (Nat.le_of_ble_eq_true rfl) ?_
      refine smem [.box a0, .box [.i .i64 0, .raw (.slice none 0 0)]] rfl ?_
      refine sv rfl (opv_as rfl) ?_
      refine sv rfl (opv_as rfl) ?_
      refine snil ?_
      refine cret ?_
      refine then_ret ?_
      obtain rfl := Option.some.inj h
      refine ⟨Or.inr rfl, _, _, _, (resVs_cons (ResV.agg _ _ _ _ _ ti24 rfl (.lp _ _ _ rfl) (Nat.le_of_ble_eq_true rfl)) (resVs_cons (ResV.tmp _ _ rfl) (resVs_cons (ResV.tmp _ _ rfl) resVs_nil))), (pubC rfl), ?_⟩
      rfl
    · replace h := ite_f hc h
      clear hc
      refine cskip ?_
      refine then_normal ?_
      refine cseq ?_
      refine cregion ?_
      refine sv rfl (opv_fieldAddr_lp fi24_0 rfl) ?_
      refine sv rfl (opv_load1 ti3 rfl (.lp _ _ _ rfl) rfl) ?_
      refine sv rfl (opv_mv rfl) ?_
      refine sv rfl (opv_add rfl rfl) ?_
      refine sv rfl (opv_fieldAddr_lp fi24_1 rfl) ?_
      refine sv rfl (opv_load1 ti22 rfl (.lp _ _ _ rfl) rfl) ?_
      refine sv rfl (opv_build zi24 pi24 (parts_cons rfl (parts_cons rfl parts_nil)) (.cons _ _ _ _ _ _ _ rfl rfl (Nat.le_of_ble_eq_true rfl) (.cons _ _ _ _ _ _ _ rfl rfl (Nat.le_of_ble_eq_true rfl) (.nil _)))) ?_
      refine salloc rfl zi24 ?_
      refine sstore sz24 rfl rfl rfl rfl (Nat.le_of_ble_eq_true rfl) ?_
      refine smem [.box a0, .box [.i .i64 0, .raw (.slice none 0 0)], .box [.i .i64 (wI (a0.Now + a1)), .sl a0.L.length (a0.L.flatMap eGR13Timer)]] rfl ?_
      refine snil ?_
      refine cseq ?_
      refine cregion ?_
      refine sv rfl (opv_as rfl) ?_
      refine snil ?_
      refine cseq ?_
      refine sadopt_c 3 1 8 (by decide) rfl ?_
      refine cjoin (Int × (List GR13Timer) × (List Int)) (fun b2 => [(4, .s (.one (.lp 1 0))), (7, .s (.one (.lp 2 0))), (8, .s (.one (.ls 3 b2.2.2.length)))]) (fun b2 => [.box a0, .box [.i .i64 0, .raw (.slice none 0 0)], .box [.i .i64 b2.1, .sl b2.2.1.length (b2.2.1.flatMap eGR13Timer)], .arr 3 1 0 (b2.2.2.flatMap eI)]) (fun b2 => m12_r13_Tick_k2 b2 = some r) (fun _ _ => inbL_of rfl) (fun _ _ => blkinb_of rfl) (fun _ _ => Nat.le_of_ble_eq_true rfl) (fun b2 h => ?_) ?_
      · unfold m12_r13_Tick_k2 at h
        refine cseq ?_
        refine cregion ?_
        refine sv rfl (opv_loadN ti24 rfl (.lp _ _ _ rfl) (Nat.le_of_ble_eq_true rfl)) ?_
        refine sv rfl (opv_mv rfl) ?_
        refine sstore sz24 rfl rfl rfl rfl (Nat.le_of_ble_eq_true rfl) ?_
        refine smem [.box a0, .box [.i .i64 b2.1, .sl b2.2.1.length (b2.2.1.flatMap eGR13Timer)], .box [.i .i64 b2.1, .sl b2.2.1.length (b2.2.1.flatMap eGR13Timer)], .arr 3 1 0 (b2.2.2.flatMap eI)] rfl ?_
        refine sv rfl (opv_as rfl) ?_
        refine sv rfl (opv_as rfl) ?_
        refine snil ?_
        refine cret ?_
        obtain rfl := Option.some.inj h
        refine ⟨Or.inr rfl, _, _, _, (resVs_cons (ResV.agg _ _ _ _ _ ti24 rfl (.lp _ _ _ rfl) (Nat.le_of_ble_eq_true rfl)) (resVs_cons (ResV.tmp _ _ rfl) (resVs_cons (ResV.tmp _ _ rfl) resVs_nil))), (by (repeat' first | exact PubA.nil _ | apply PubA.cons | apply PubV.one | apply PubV.agg | exact PubL.nil | exact PubL.ls _ _ _ _ _ _ rfl (flat_len (f := eI) (fun _ => rfl) _).symm | exact PubL.id _ rfl | exact PubLs.nil _ | apply PubLs.cons)), ?_⟩
        rfl
      · skip
        refine cblock ?_
        obtain ⟨x3, hx3, ho3⟩ := bind_eq h
        refine awc_loop (G := Nat × (Int × (List GR13Timer) × (List Int))) (fun g => [(4, .s (.one (.lp 1 0))), (7, .s (.one (.lp 2 0))), (8, .s (.one (.ls 3 g.2.2.2.length)))]) (fun g => [.box a0, .box [.i .i64 0, .raw (.slice none 0 0)], .box [.i .i64 g.2.1, .sl g.2.2.1.length (g.2.2.1.flatMap eGR13Timer)], .arr 3 1 0 (g.2.2.2.flatMap eI)]) (fun g => iter m12_r13_Tick_s3 g.1 g.2 = some x3) (fun g => g.1) (fuel, ((wI (a0.Now + a1)), a0.L, ([] : List Int))) hx3 ⟨rfl, rfl, rfl, trivial⟩ [] rfl (fun _ _ => inbL_of rfl) (fun _ _ => blkinb_of rfl) (fun _ _ => Nat.le_of_ble_eq_true rfl) ?_
        clear hx3 h
        rintro ⟨n3, s3⟩ h
        obtain ⟨n3, y3, rfl, h, hk3⟩ := iter_eq h
        unfold m12_r13_Tick_s3 at h
        refine cseq ?_
        refine cseq ?_
        refine cregion ?_
        refine sv rfl (opv_mv rfl) ?_
        refine sv rfl (opv_len_ls si35 rfl rfl (flat_len (f := eI) (fun _ => rfl) _).symm) ?_
        refine sv rfl (opv_leq rfl rfl) ?_
        refine snil ?_
        refine ccond rfl (fun hc => ?_) (fun hc => ?_)
        · replace h := ite_t hc h
          clear hc
          refine cskip ?_
          refine then_normal ?_
          refine cblock ?_
          refine cseq ?_
          refine cregion ?_
          refine sv rfl (opv_as rfl) ?_
          refine snil ?_
          refine cseq ?_
          refine cseq ?_
          refine cregion ?_
          refine sv rfl (opv_as rfl) ?_
          refine snil ?_
          refine cjoin (Int) (fun b4 => [(4, .s (.one (.lp 1 0))), (7, .s (.one (.lp 2 0))), (8, .s (.one (.ls 3 s3.2.2.length))), (9, .s (.one (.i .i64 b4)))]) (fun b4 => [.box a0, .box [.i .i64 0, .raw (.slice none 0 0)], .box [.i .i64 s3.1, .sl s3.2.1.length (s3.2.1.flatMap eGR13Timer)], .arr 3 1 0 (s3.2.2.flatMap eI)]) (fun b4 => m12_r13_Tick_k4 s3 b4 = some y3) (fun _ _ => inbL_of rfl) (fun _ _ => blkinb_of rfl) (fun _ _ => Nat.le_of_ble_eq_true rfl) (fun b4 h => ?_) ?_
          · unfold m12_r13_Tick_k4 at h
            refine cseq ?_
            refine cseq ?_
            refine cregion ?_
            refine sv rfl (opv_mv rfl) ?_
            refine sv rfl (opv_lss rfl rfl) ?_
            refine snil ?_
            refine ccond rfl (fun hc => ?_) (fun hc => ?_)
            · replace h := ite_t hc h
              clear hc
              refine cseq ?_
              refine cregion ?_
              refine sv rfl (opv_loadN ti24 rfl (.lp _ _ _ rfl) (Nat.le_of_ble_eq_true rfl)) ?_
              refine sv rfl (opv_mv rfl) ?_
              refine sstore sz24 rfl rfl rfl rfl (Nat.le_of_ble_eq_true rfl) ?_
              refine smem [.box a0, .box [.i .i64 s3.1, .sl s3.2.1.length (s3.2.1.flatMap eGR13Timer)], .box [.i .i64 s3.1, .sl s3.2.1.length (s3.2.1.flatMap eGR13Timer)], .arr 3 1 0 (s3.2.2.flatMap eI)] rfl ?_
              refine sv rfl (opv_as rfl) ?_
              refine sv rfl (opv_as rfl) ?_
              refine snil ?_
              refine cret ?_
              refine then_ret ?_
              refine block_ret ?_
              refine then_ret ?_
              refine block_ret ?_
              refine then_ret ?_
              obtain rfl := Option.some.inj h
              obtain rfl : Sum.inl _ = x3 := hk3
              replace ho3 : some _ = some _ := ho3
              obtain rfl := Option.some.inj ho3
              refine ⟨Or.inr rfl, _, _, _, (resVs_cons (ResV.agg _ _ _ _ _ ti24 rfl (.lp _ _ _ rfl) (Nat.le_of_ble_eq_true rfl)) (resVs_cons (ResV.tmp _ _ rfl) (resVs_cons (ResV.tmp _ _ rfl) resVs_nil))), (by (repeat' first | exact PubA.nil _ | apply PubA.cons | apply PubV.one | apply PubV.agg | exact PubL.nil | exact PubL.ls _ _ _ _ _ _ rfl (flat_len (f := eI) (fun _ => rfl) _).symm | exact PubL.id _ rfl | exact PubLs.nil _ | apply PubLs.cons)), ?_⟩
              rfl
            · replace h := ite_f hc h
              clear hc
              refine cskip ?_
              refine then_normal ?_
              refine cseq ?_
              refine cregion ?_
              refine sv rfl (opv_mv rfl) ?_
              refine sv rfl (opv_fieldAddr_lp fi24_1 rfl) ?_
              refine sv rfl (opv_load1 ti22 rfl (.lp _ _ _ rfl) rfl) ?_
              refine sv rfl (opv_mv rfl) ?_
              obtain ⟨u5, hu5, h⟩ := bind_eq h
              refine sv rfl (opv_ix (f := eGR13Timer) si22 (fun _ => rfl) rfl rfl rfl rfl hu5) ?_
              refine sv rfl (opv_fieldAddr_cp fi60_0 rfl) ?_
              refine sv rfl (opv_load1 ti3 rfl (.cp _) rfl) ?_
              refine sbuild1 rfl Try.underlying35 ei3 rfl rfl (List.all_eq_true.1 rfl) (by decide) ?_
              refine smem [.box a0, .box [.i .i64 0, .raw (.slice none 0 0)], .box [.i .i64 s3.1, .sl s3.2.1.length (s3.2.1.flatMap eGR13Timer)], .arr 3 1 0 (s3.2.2.flatMap eI), .arr 3 1 0 ([u5.ID].flatMap eI)] rfl ?_
              obtain ⟨hb6, h⟩ := chk_eq h
              refine sapp (f := eI) (xs := s3.2.2) (us := [u5.ID]) rfl Try.underlying35 ei3 ni35 (fun _ => rfl) rfl rfl (.one _ _ _ _ (.ls _ _ _ _ _ _ rfl (flat_len (f := eI) (fun _ => rfl) [u5.ID]).symm)) rfl rfl rfl (.sl _ _ _ (flat_len (f := eI) (fun _ => rfl) _)) rfl rfl hb6 (by decide) ?_
              refine sv rfl (opv_as rfl) ?_
              refine snil ?_
              obtain ⟨u7, hu7, h⟩ := bind_eq h
              obtain ⟨v8, hv8, h⟩ := bind_eq h
              refine cdraw_e [8] [0, 0, 2, 0, 14, 30, 62, 127, 255] [[.box a0, .box [.i .i64 0, .raw (.slice none 0 0)], .box [.i .i64 s3.1, .sl s3.2.1.length (s3.2.1.flatMap eGR13Timer)], .arr 3 1 0 ((s3.2.2 ++ [u5.ID]).flatMap eI), .arr 3 1 ([u5.ID].flatMap eI).length ([u5.ID].flatMap eI)], [.box a0, .box [.i .i64 0, .raw (.slice none 0 0)], .box v8, .arr 3 1 0 ((s3.2.2 ++ [u5.ID]).flatMap eI), .arr 3 1 ([u5.ID].flatMap eI).length ([u5.ID].flatMap eI)]] (by kernel_rfl) mixed (by kernel_rfl) (by decide) rfl rfl rfl rfl ?_
              refine ev (sees_at 0 rfl rfl) rfl rfl (opv_loadN ti24 rfl (.lp _ _ _ rfl) (Nat.le_of_ble_eq_true rfl)) ?_
              refine ev (sees_at 0 rfl rfl) rfl rfl (opv_fieldAddr_lp fi24_1 rfl) ?_
              refine ev (sees_at 0 rfl rfl) rfl rfl (opv_load1 ti22 rfl (.lp _ _ _ rfl) rfl) ?_
              refine ev (sees_at 0 rfl rfl) rfl rfl (opv_mv rfl) ?_
              refine ev (sees_at 0 rfl rfl) rfl rfl (opv_ix (f := eGR13Timer) si22 (fun _ => rfl) rfl rfl rfl rfl hu7) ?_
              refine ev (sees_at 0 rfl rfl) rfl rfl (opv_fieldAddr_cp fi60_0 rfl) ?_
              refine ev (sees_at 0 rfl rfl) rfl rfl (opv_load1 ti3 rfl (.cp _) rfl) ?_
              refine ed (sees_at 0 rfl rfl) rfl rfl (opD_call fn23 (opnds_cons rfl (opnds_cons rfl opnds_nil)) rfl (m23_r13_Clear_c hv8)) ?_
              refine ee0 0 rfl rfl rfl rfl (fun ζ => ?_) ?_
              · refine sstore sz24 rfl rfl rfl rfl (Nat.le_of_ble_eq_true rfl) ?_
                refine smem [.box a0, .box [.i .i64 0, .raw (.slice none 0 0)], .box v8, .arr 3 1 0 ((s3.2.2 ++ [u5.ID]).flatMap eI), .arr 3 1 ([u5.ID].flatMap eI).length ([u5.ID].flatMap eI)] rfl ?_
                exact eend
              refine enil ?_
              refine block_normal ?_
              refine then_normal ?_
              obtain rfl := Option.some.inj h
              exact ⟨(n3, (v8.Now, v8.L, (s3.2.2 ++ [u5.ID]))), _, hk3, ⟨rfl, rfl, rfl, trivial⟩, rfl, Nat.lt_succ_self _⟩
          · skip
            refine cblock ?_
            obtain ⟨x9, hx9, ho9⟩ := bind_eq h
            refine awc_loop (G := Nat × (Int × Int)) (fun g => [(4, .s (.one (.lp 1 0))), (7, .s (.one (.lp 2 0))), (8, .s (.one (.ls 3 s3.2.2.length))), (9, .s (.one (.i .i64 g.2.1))), (10, .s (.one (.i .i64 g.2.2)))]) (fun g => [.box a0, .box [.i .i64 0, .raw (.slice none 0 0)], .box [.i .i64 s3.1, .sl s3.2.1.length (s3.2.1.flatMap eGR13Timer)], .arr 3 1 0 (s3.2.2.flatMap eI)]) (fun g => iterB (m12_r13_Tick_s9 s3) g.1 g.2 = some x9) (fun g => g.1) (fuel, ((-1), 0)) hx9 ⟨rfl, rfl, rfl, rfl, rfl, trivial⟩ [] rfl (fun _ _ => inbL_of rfl) (fun _ _ => blkinb_of rfl) (fun _ _ => Nat.le_of_ble_eq_true rfl) ?_
            clear hx9 h
            rintro ⟨n9, s9⟩ h
            obtain ⟨n9, y9, rfl, h, hk9⟩ := iterB_eq h
            unfold m12_r13_Tick_s9 at h
            refine cseq ?_
            refine cseq ?_
            refine cregion ?_
            refine sv rfl (opv_mv rfl) ?_
            refine sv rfl (opv_fieldAddr_lp fi24_1 rfl) ?_
            refine sv rfl (opv_load1 ti22 rfl (.lp _ _ _ rfl) rfl) ?_
            refine sv rfl (opv_len_sl si22 rfl) ?_
            refine sv rfl (opv_lss rfl rfl) ?_
            refine snil ?_
            refine ccond rfl (fun hc => ?_) (fun hc => ?_)
            · replace h := ite_t hc h
              clear hc
              refine cskip ?_
              refine then_normal ?_
              refine cseq ?_
              refine cblock ?_
              refine cseq ?_
              refine cdraw mixed (by kernel_rfl) ?_
              refine dv rfl (opv_fieldAddr_lp fi24_1 rfl) ?_
              refine dv rfl (opv_load1 ti22 rfl (.lp _ _ _ rfl) rfl) ?_
              refine dv rfl (opv_mv rfl) ?_
              obtain ⟨u10, hu10, h⟩ := bind_eq h
              refine dv rfl (opv_ix (f := eGR13Timer) si22 (fun _ => rfl) rfl rfl rfl rfl hu10) ?_
              refine dv rfl (opv_fieldAddr_cp fi60_1 rfl) ?_
              refine dv rfl (opv_load1 ti3 rfl (.cp _) rfl) ?_
              refine dv rfl (opv_fieldAddr_lp fi24_0 rfl) ?_
              refine dv rfl (opv_load1 ti3 rfl (.lp _ _ _ rfl) rfl) ?_
              refine dv rfl (opv_leq rfl rfl) ?_
              refine dv rfl (opv_mv rfl) ?_
              refine dsplit 51 rfl (fun hc => ?_) (fun hc => ?_)
              · replace h := ite_t hc h
                clear hc
                refine dvg rfl rfl rfl (opv_mv rfl) ?_
                refine dvg rfl rfl rfl (opv_lss rfl rfl) ?_
                refine dvg rfl rfl rfl (opv_mv rfl) ?_
                refine dsplit 54 rfl (fun hc => ?_) (fun hc => ?_)
                · replace h := ite_t hc h
                  clear hc
                  refine doff rfl rfl rfl rfl ?_
                  refine doff rfl rfl rfl rfl ?_
                  refine doff rfl rfl rfl rfl ?_
                  refine doff rfl rfl rfl rfl ?_
                  refine doff rfl rfl rfl rfl ?_
                  refine doff rfl rfl rfl rfl ?_
                  refine doff rfl rfl rfl rfl ?_
                  refine doff rfl rfl rfl rfl ?_
                  refine doff rfl rfl rfl rfl ?_
                  refine doff rfl rfl rfl rfl ?_
                  refine doff rfl rfl rfl rfl ?_
                  refine doff rfl rfl rfl rfl ?_
                  refine doff rfl rfl rfl rfl ?_
                  refine dvg rfl rfl rfl (opv_pick_t rfl rfl) ?_
                  refine dv rfl (opv_pick_t rfl rfl) ?_
                  refine dnil ?_
                  refine then_normal ?_
                  refine ccond rfl (fun _ => ?_) (fun hx => Bool.noConfusion hx)
                  refine cregion ?_
                  refine sv rfl (opv_mv rfl) ?_
                  refine sv rfl (opv_as rfl) ?_
                  refine snil0 ?_
                  refine block_normal ?_
                  refine then_normal ?_
                  refine cregion ?_
                  refine sv rfl (opv_mv rfl) ?_
                  refine sv rfl (opv_add rfl rfl) ?_
                  refine sv rfl (opv_as rfl) ?_
                  refine snil ?_
                  obtain rfl := Option.some.inj h
                  exact ⟨(n9, (s9.2, (wI (s9.2 + 1)))), _, hk9, ⟨rfl, rfl, rfl, rfl, rfl, trivial⟩, rfl, Nat.lt_succ_self _⟩
                · replace h := ite_f hc h
                  clear hc
                  refine dvg rfl rfl rfl (opv_fieldAddr_lp fi24_1 rfl) ?_
                  refine dvg rfl rfl rfl (opv_load1 ti22 rfl (.lp _ _ _ rfl) rfl) ?_
                  refine dvg rfl rfl rfl (opv_mv rfl) ?_
                  obtain ⟨u11, hu11, h⟩ := bind_eq h
                  refine dvg rfl rfl rfl (opv_ix (f := eGR13Timer) si22 (fun _ => rfl) rfl rfl rfl rfl hu11) ?_
                  refine dvg rfl rfl rfl (opv_fieldAddr_cp fi60_1 rfl) ?_
                  refine dvg rfl rfl rfl (opv_load1 ti3 rfl (.cp _) rfl) ?_
                  refine dvg rfl rfl rfl (opv_fieldAddr_lp fi24_1 rfl) ?_
                  refine dvg rfl rfl rfl (opv_load1 ti22 rfl (.lp _ _ _ rfl) rfl) ?_
                  refine dvg rfl rfl rfl (opv_mv rfl) ?_
                  obtain ⟨u12, hu12, h⟩ := bind_eq h
                  refine dvg rfl rfl rfl (opv_ix (f := eGR13Timer) si22 (fun _ => rfl) rfl rfl rfl rfl hu12) ?_
                  refine dvg rfl rfl rfl (opv_fieldAddr_cp fi60_1 rfl) ?_
                  refine dvg rfl rfl rfl (opv_load1 ti3 rfl (.cp _) rfl) ?_
                  refine dvg rfl rfl rfl (opv_lss rfl rfl) ?_
                  refine dvg rfl rfl rfl (opv_pick_f rfl rfl) ?_
                  refine dv rfl (opv_pick_t rfl rfl) ?_
                  refine dnil ?_
                  refine then_normal ?_
                  refine ccond rfl (fun hc => ?_) (fun hc => ?_)
                  · replace h := ite_t hc h
                    clear hc
                    refine cregion ?_
                    refine sv rfl (opv_mv rfl) ?_
                    refine sv rfl (opv_as rfl) ?_
                    refine snil0 ?_
                    refine block_normal ?_
                    refine then_normal ?_
                    refine cregion ?_
                    refine sv rfl (opv_mv rfl) ?_
                    refine sv rfl (opv_add rfl rfl) ?_
                    refine sv rfl (opv_as rfl) ?_
                    refine snil ?_
                    obtain rfl := Option.some.inj h
                    exact ⟨(n9, (s9.2, (wI (s9.2 + 1)))), _, hk9, ⟨rfl, rfl, rfl, rfl, rfl, trivial⟩, rfl, Nat.lt_succ_self _⟩
                  · replace h := ite_f hc h
                    clear hc
                    refine cskip ?_
                    refine block_normal ?_
                    refine then_normal ?_
                    refine cregion ?_
                    refine sv rfl (opv_mv rfl) ?_
                    refine sv rfl (opv_add rfl rfl) ?_
                    refine sv rfl (opv_as rfl) ?_
                    refine snil ?_
                    obtain rfl := Option.some.inj h
                    exact ⟨(n9, (s9.1, (wI (s9.2 + 1)))), _, hk9, ⟨rfl, rfl, rfl, rfl, rfl, trivial⟩, rfl, Nat.lt_succ_self _⟩
              · replace h := ite_f hc h
                clear hc
                refine doff rfl rfl rfl rfl ?_
                refine doff rfl rfl rfl rfl ?_
                refine doff rfl rfl rfl rfl ?_
                refine doffu rfl rfl rfl ?_
                refine doffu rfl rfl rfl ?_
                refine doffu rfl rfl rfl ?_
                refine doffu rfl rfl rfl ?_
                refine doffu rfl rfl rfl ?_
                refine doffu rfl rfl rfl ?_
                refine doffu rfl rfl rfl ?_
                refine doffu rfl rfl rfl ?_
                refine doffu rfl rfl rfl ?_
                refine doffu rfl rfl rfl ?_
                refine doffu rfl rfl rfl ?_
                refine doffu rfl rfl rfl ?_
                refine doffu rfl rfl rfl ?_
                refine doff rfl rfl rfl rfl ?_
                refine dv rfl (opv_pick_f rfl rfl) ?_
                refine dnil ?_
                refine then_normal ?_
                refine ccond rfl (fun hx => Bool.noConfusion hx) (fun _ => ?_)
                refine cskip ?_
                refine block_normal ?_
                refine then_normal ?_
                refine cregion ?_
                refine sv rfl (opv_mv rfl) ?_
                refine sv rfl (opv_add rfl rfl) ?_
                refine sv rfl (opv_as rfl) ?_
                refine snil ?_
                obtain rfl := Option.some.inj h
                exact ⟨(n9, (s9.1, (wI (s9.2 + 1)))), _, hk9, ⟨rfl, rfl, rfl, rfl, rfl, trivial⟩, rfl, Nat.lt_succ_self _⟩
            · replace h := ite_f hc h
              clear hc
              refine cexit ?_
              refine then_exit ?_
              refine then_exit ?_
              refine block_hit ?_
              refine then_normal ?_
              obtain rfl := Option.some.inj h
              obtain rfl : _ = x9 := hk9
              exact ⟨s9.1, _, ho9, ⟨rfl, rfl, rfl, rfl, trivial⟩, rfl⟩
        · replace h := ite_f hc h
          clear hc
          refine cexit ?_
          refine then_exit ?_
          refine then_exit ?_
          refine block_hit ?_
          refine then_normal ?_
          obtain rfl := Option.some.inj h
          obtain rfl : _ = x3 := hk3
          exact ⟨(s3.1, s3.2.1, s3.2.2), _, ho3, ⟨rfl, rfl, rfl, trivial⟩, rfl⟩
  · skip
    refine cregion ?_
    refine sv rfl (opv_loadN ti24 rfl (.lp _ _ _ rfl) (Nat.le_of_ble_eq_true rfl)) ?_
    obtain ⟨v15, hv15, h⟩ := bind_eq h
    refine scall1 rfl fn21 (opnds_cons rfl opnds_nil) (pubA_id rfl) (m21_r13_Sane_c hv15) ?_
    refine sv rfl (opv_not rfl) ?_
    refine sv rfl (opv_mv rfl) ?_
    refine ssplit 14 rfl (fun hc => ?_) (fun hc => ?_)
    · replace h := ite_t hc h
      clear hc
      refine soff rfl rfl rfl rfl ?_
      refine soff rfl rfl rfl rfl ?_
      refine sv rfl (opv_pick_t rfl rfl) ?_
      refine snil ?_
      refine ccond rfl (fun _ => ?_) (fun hx => Bool.noConfusion hx)
      refine cseq ?_
      refine cregion ?_
      refine sv rfl (opv_build zi24 pi24 parts_nil (.nil _)) ?_
      refine sstore sz24 rfl rfl rfl rfl (Nat.le_of_ble_eq_true rfl) ?_
      refine smem [.box a0, .box [.i .i64 0, .raw (.slice none 0 0)]] rfl ?_
      refine sv rfl (opv_as rfl) ?_
      refine sv rfl (opv_as rfl) ?_
      refine snil ?_
      refine cret ?_
      refine then_ret ?_
      obtain rfl := Option.some.inj h
      refine ⟨Or.inr rfl, _, _, _, (resVs_cons (ResV.agg _ _ _ _ _ ti24 rfl (.lp _ _ _ rfl) (Nat.le_of_ble_eq_true rfl)) (resVs_cons (ResV.tmp _ _ rfl) (resVs_cons (ResV.tmp _ _ rfl) resVs_nil))), (pubC rfl), ?_⟩
      rfl
    · replace h := ite_f hc h
      clear hc
      refine son rfl rfl rfl ?_
      refine sv rfl (opv_mv rfl) ?_
      refine son rfl rfl rfl ?_
      refine sv rfl (opv_lss rfl rfl) ?_
      refine sv rfl (opv_pick_f rfl rfl) ?_
      refine snil ?_
      refine ccond rfl (fun hc => ?_) (fun hc => ?_)
      · replace h := ite_t hc h
        clear hc
        refine cseq ?_
        refine cregion ?_
        refine sv rfl (opv_build zi24 pi24 parts_nil (.nil _)) ?_
        refine sstore sz24 rfl rfl rfl rfl (Nat.le_of_ble_eq_true rfl) ?_
        refine smem [.box a0, .box [.i .i64 0, .raw (.slice none 0 0)]] rfl ?_
        refine sv rfl (opv_as rfl) ?_
        refine sv rfl (opv_as rfl) ?_
        refine snil ?_
        refine cret ?_
        refine then_ret ?_
        obtain rfl := Option.some.inj h
        refine ⟨Or.inr rfl, _, _, _, (resVs_cons (ResV.agg _ _ _ _ _ ti24 rfl (.lp _ _ _ rfl) (Nat.le_of_ble_eq_true rfl)) (resVs_cons (ResV.tmp _ _ rfl) (resVs_cons (ResV.tmp _ _ rfl) resVs_nil))), (pubC rfl), ?_⟩
        rfl
      · replace h := ite_f hc h
        clear hc
        refine cskip ?_
        refine then_normal ?_
        exact ⟨(), _, h, ⟨rfl, rfl, rfl, trivial⟩, rfl⟩

def m14_l13_theirs_k1 (a0 : GTimersTable) (b1 : (List GR13Timer)) : Option GR13Table :=
  some (GR13Table.mk a0.Now b1)

def m14_l13_theirs_s2 (a0 : GTimersTable) (s2 : Int × (List GR13Timer)) : Option (LB (Int × (List GR13Timer)) ((List GR13Timer))) :=
  if (decide (s2.1 < (a0.L.length : Int))) then ((idx a0.L s2.1).bind fun u3 => (idx a0.L s2.1).bind fun u4 => if (s2.2.length + ([(GR13Timer.mk u3.ID u4.At)] : List GR13Timer).length) * 16 ≤ 140737488355328 then (some (.cont ((wI (s2.1 + 1)), (s2.2 ++ ([(GR13Timer.mk u3.ID u4.At)] : List GR13Timer))))) else none) else (some (.brk s2.2))
def m14_l13_theirs (a0 : GTimersTable) : Option GR13Table :=
  (iterB (m14_l13_theirs_s2 a0) fuel (0, ([] : List GR13Timer))).bind fun e6 => m14_l13_theirs_k1 a0 e6

omit [TickC] in
set_option maxRecDepth 100000 in
theorem m14_l13_theirs_c {a0 : GTimersTable} {r : GR13Table} (h : m14_l13_theirs a0 = some r) : CallsA Try.prog 14 [.agg a0] (· = .s (.agg r)) := by
  unfold m14_l13_theirs at h
  refine callsA_of Try.func14 rfl (nt := 34) rfl (Nat.le_of_ble_eq_true rfl) ?_
  intro w0 S0
  refine cseq ?_
  refine cregion ?_
  refine sbox rfl rfl ?_
  refine salloc rfl zi24 ?_
  refine snil ?_
  refine cseq ?_
  refine cregion ?_
  refine sv rfl (opv_fieldAddr_lp fi28_0 rfl) ?_
  refine sv rfl (opv_load1 ti3 rfl (.lp _ _ _ rfl) rfl) ?_
  refine sv rfl (opv_build zi24 pi24 (parts_cons rfl parts_nil) (.cons _ _ _ _ _ _ _ rfl rfl (Nat.le_of_ble_eq_true rfl) (.nil _))) ?_
  refine salloc rfl zi24 ?_
  refine sstore sz24 rfl rfl rfl rfl (Nat.le_of_ble_eq_true rfl) ?_
  refine smem [.box a0, .box [.i .i64 0, .raw (.slice none 0 0)], .box [.i .i64 a0.Now, .raw (.slice none 0 0)]] rfl ?_
  refine snil ?_
  refine cseq ?_
  refine cseq ?_
  refine cregion ?_
  refine sv rfl (opv_as rfl) ?_
  refine snil ?_
  refine sadopt_box_c 60 2 2 1 (by decide) rfl rfl ?_
  refine cjoin ((List GR13Timer)) (fun b1 => [(2, .s (.one (.lp 1 0))), (3, .s (.one (.lp 2 0)))]) (fun b1 => [.box a0, .box [.i .i64 0, .raw (.slice none 0 0)], .box [.i .i64 a0.Now, .ls 3 b1.length], .arr 60 2 0 (b1.flatMap eGR13Timer)]) (fun b1 => m14_l13_theirs_k1 a0 b1 = some r) (fun _ _ => inbL_of rfl) (fun _ _ => blkinb_of rfl) (fun _ _ => Nat.le_of_ble_eq_true rfl) (fun b1 h => ?_) ?_
  · unfold m14_l13_theirs_k1 at h
    refine cseq ?_
    refine cregion ?_
    refine sv rfl (opv_loadN ti24 rfl (.lp _ _ _ rfl) (Nat.le_of_ble_eq_true rfl)) ?_
    refine sstore sz24 rfl rfl rfl rfl (Nat.le_of_ble_eq_true rfl) ?_
    refine smem [.box a0, .box [.i .i64 a0.Now, .ls 3 b1.length], .box [.i .i64 a0.Now, .ls 3 b1.length], .arr 60 2 0 (b1.flatMap eGR13Timer)] rfl ?_
    refine snil ?_
    refine cret ?_
    obtain rfl := Option.some.inj h
    refine ⟨Or.inr rfl, _, _, _, (resVs_cons (ResV.agg _ _ _ _ _ ti24 rfl (.lp _ _ _ rfl) (Nat.le_of_ble_eq_true rfl)) resVs_nil), (by (repeat' first | exact PubA.nil _ | apply PubA.cons | apply PubV.one | apply PubV.agg | exact PubL.nil | exact PubL.ls _ _ _ _ _ _ rfl (flat_len (f := eGR13Timer) (fun _ => rfl) _).symm | exact PubL.id _ rfl | exact PubLs.nil _ | apply PubLs.cons)), ?_⟩
    rfl
  · skip
    refine cblock ?_
    obtain ⟨x2, hx2, ho2⟩ := bind_eq h
    refine awc_loop (G := Nat × (Int × (List GR13Timer))) (fun g => [(1, .s (.one (.lp 0 0))), (2, .s (.one (.lp 1 0))), (3, .s (.one (.lp 2 0))), (4, .s (.one (.i .i64 g.2.1)))]) (fun g => [.box a0, .box [.i .i64 0, .raw (.slice none 0 0)], .box [.i .i64 a0.Now, .ls 3 g.2.2.length], .arr 60 2 0 (g.2.2.flatMap eGR13Timer)]) (fun g => iterB (m14_l13_theirs_s2 a0) g.1 g.2 = some x2) (fun g => g.1) (fuel, (0, ([] : List GR13Timer))) hx2 ⟨rfl, rfl, rfl, rfl, trivial⟩ [] rfl (fun _ _ => inbL_of rfl) (fun _ _ => blkinb_of rfl) (fun _ _ => Nat.le_of_ble_eq_true rfl) ?_
    clear hx2 h
    rintro ⟨n2, s2⟩ h
    obtain ⟨n2, y2, rfl, h, hk2⟩ := iterB_eq h
    unfold m14_l13_theirs_s2 at h
    refine cseq ?_
    refine cseq ?_
    refine cregion ?_
    refine sv rfl (opv_mv rfl) ?_
    refine sv rfl (opv_fieldAddr_lp fi28_1 rfl) ?_
    refine sv rfl (opv_load1 ti26 rfl (.lp _ _ _ rfl) rfl) ?_
    refine sv rfl (opv_len_sl si26 rfl) ?_
    refine sv rfl (opv_lss rfl rfl) ?_
    refine snil ?_
    refine ccond rfl (fun hc => ?_) (fun hc => ?_)
    · replace h := ite_t hc h
      clear hc
      refine cskip ?_
      refine then_normal ?_
      refine cseq ?_
      refine cblock ?_
      obtain ⟨u3, hu3, h⟩ := bind_eq h
      obtain ⟨u4, hu4, h⟩ := bind_eq h
      obtain ⟨hb5, h⟩ := chk_eq h
      refine cdraw_e [16, 18] [0, 1, 0, 4, 0, 28, 60, 124, 0, 256, 0, 1792, 3840, 7936, 16380, 32764, 65535, 131071, 262143] [[.box a0, .box [.i .i64 0, .raw (.slice none 0 0)], .box [.i .i64 a0.Now, .ls 3 s2.2.length], .arr 60 2 0 (s2.2.flatMap eGR13Timer)], [.box a0, .box [.i .i64 0, .raw (.slice none 0 0)], .box [.i .i64 a0.Now, .ls 3 s2.2.length], .arr 60 2 0 ((s2.2 ++ ([(GR13Timer.mk u3.ID u4.At)] : List GR13Timer)).flatMap eGR13Timer)], [.box a0, .box [.i .i64 0, .raw (.slice none 0 0)], .box [.i .i64 a0.Now, .ls 3 (s2.2 ++ ([(GR13Timer.mk u3.ID u4.At)] : List GR13Timer)).length], .arr 60 2 0 ((s2.2 ++ ([(GR13Timer.mk u3.ID u4.At)] : List GR13Timer)).flatMap eGR13Timer)]] (by kernel_rfl) mixed (by kernel_rfl) (by decide) rfl rfl rfl rfl ?_
      refine ev (sees_at 0 rfl rfl) rfl rfl (opv_fieldAddr_lp fi24_1 rfl) ?_
      refine ev (sees_at 0 rfl rfl) rfl rfl (opv_load1 ti22 rfl (.lp _ _ _ rfl) rfl) ?_
      refine ev (sees_at 0 rfl rfl) rfl rfl (opv_fieldAddr_lp fi28_1 rfl) ?_
      refine ev (sees_at 0 rfl rfl) rfl rfl (opv_load1 ti26 rfl (.lp _ _ _ rfl) rfl) ?_
      refine ev (sees_at 0 rfl rfl) rfl rfl (opv_mv rfl) ?_
      refine ev (sees_at 0 rfl rfl) rfl rfl (opv_ix (f := eGTimersTimer) si26 (fun _ => rfl) rfl rfl rfl rfl hu3) ?_
      refine ev (sees_at 0 rfl rfl) rfl rfl (opv_fieldAddr_cp fi61_0 rfl) ?_
      refine ev (sees_at 0 rfl rfl) rfl rfl (opv_load1 ti3 rfl (.cp _) rfl) ?_
      refine ev (sees_at 0 rfl rfl) rfl rfl (opv_fieldAddr_lp fi28_1 rfl) ?_
      refine ev (sees_at 0 rfl rfl) rfl rfl (opv_load1 ti26 rfl (.lp _ _ _ rfl) rfl) ?_
      refine ev (sees_at 0 rfl rfl) rfl rfl (opv_mv rfl) ?_
      refine ev (sees_at 0 rfl rfl) rfl rfl (opv_ix (f := eGTimersTimer) si26 (fun _ => rfl) rfl rfl rfl rfl hu4) ?_
      refine ev (sees_at 0 rfl rfl) rfl rfl (opv_fieldAddr_cp fi61_1 rfl) ?_
      refine ev (sees_at 0 rfl rfl) rfl rfl (opv_load1 ti3 rfl (.cp _) rfl) ?_
      refine ev (sees_at 0 rfl rfl) rfl rfl (opv_build zi60 pi60 (parts_cons rfl (parts_cons rfl parts_nil)) (.cons _ _ _ _ _ _ _ rfl rfl (Nat.le_of_ble_eq_true rfl) (.cons _ _ _ _ _ _ _ rfl rfl (Nat.le_of_ble_eq_true rfl) (.nil _)))) ?_
      refine ed (sees_at 0 rfl rfl) rfl rfl (opD_bld (out := ([(GR13Timer.mk u3.ID u4.At)] : List GR13Timer).flatMap eGR13Timer) Try.underlying22 ei60 (parts_cons rfl parts_nil) (.cons _ _ _ _ _ _ _ rfl rfl (Nat.le_of_ble_eq_true rfl) (.nil _)) rfl (by decide)) ?_
      refine ee (x := .s (.one (.ls 3 (s2.2 ++ ([(GR13Timer.mk u3.ID u4.At)] : List GR13Timer)).length))) 0 rfl rfl rfl rfl rfl (fun ζ => ?_) ?_
      · refine sapp (f := eGR13Timer) (xs := s2.2) (us := ([(GR13Timer.mk u3.ID u4.At)] : List GR13Timer)) rfl Try.underlying22 ei60 ni22 (fun _ => rfl) rfl rfl (.one _ _ _ _ (.id _ rfl)) rfl rfl rfl (.sl _ _ _ (flat_len (f := eGR13Timer) (fun _ => rfl) _)) rfl rfl hb5 (by decide) ?_
        exact eend
      refine ev (sees_at 1 rfl rfl) rfl rfl (opv_fieldAddr_lp fi24_1 rfl) ?_
      refine ee0 1 rfl rfl rfl rfl (fun ζ => ?_) ?_
      · refine sstore sz22 rfl rfl rfl rfl (Nat.le_of_ble_eq_true rfl) ?_
        refine smem [.box a0, .box [.i .i64 0, .raw (.slice none 0 0)], .box [.i .i64 a0.Now, .ls 3 (s2.2 ++ ([(GR13Timer.mk u3.ID u4.At)] : List GR13Timer)).length], .arr 60 2 0 ((s2.2 ++ ([(GR13Timer.mk u3.ID u4.At)] : List GR13Timer)).flatMap eGR13Timer)] rfl ?_
        exact eend
      refine enil ?_
      refine block_normal ?_
      refine then_normal ?_
      refine cregion ?_
      refine sv rfl (opv_mv rfl) ?_
      refine sv rfl (opv_add rfl rfl) ?_
      refine sv rfl (opv_as rfl) ?_
      refine snil ?_
      obtain rfl := Option.some.inj h
      exact ⟨(n2, ((wI (s2.1 + 1)), (s2.2 ++ ([(GR13Timer.mk u3.ID u4.At)] : List GR13Timer)))), _, hk2, ⟨rfl, rfl, rfl, rfl, trivial⟩, rfl, Nat.lt_succ_self _⟩
    · replace h := ite_f hc h
      clear hc
      refine cexit ?_
      refine then_exit ?_
      refine then_exit ?_
      refine block_hit ?_
      refine then_normal ?_
      obtain rfl := Option.some.inj h
      obtain rfl : _ = x2 := hk2
      exact ⟨s2.2, _, ho2, ⟨rfl, rfl, trivial⟩, rfl⟩

def m13_r13_Same_k2 (b2 : Unit) : Option Bool :=
  some true

def m13_r13_Same_s3 (a0 : GR13Table) (a1 : GR13Table) (s3 : Int) : Option (LR (Int) (Unit) (Bool)) :=
  if (decide (s3 < (a0.L.length : Int))) then ((idx a0.L s3).bind fun u4 => (idx a1.L s3).bind fun u5 => if (!((decide (u4.ID = u5.ID)) && ((decide (u4.At = u5.At)) && true))) then (some (.ret false)) else (some (.cont (wI (s3 + 1))))) else (some (.brk ()))

def m13_r13_Same_k1 (a0 : GR13Table) (a1 : GR13Table) (b1 : Unit) : Option Bool :=
  (iter (m13_r13_Same_s3 a0 a1) fuel 0).bind fun x => match x with | .inl r => some r | .inr e6 => m13_r13_Same_k2 e6
def m13_r13_Same (a0 : GR13Table) (a1 : GR13Table) : Option Bool :=
  if (!decide (a0.Now = a1.Now)) then (some false) else (if (!decide ((a0.L.length : Int) = (a1.L.length : Int))) then (some false) else (m13_r13_Same_k1 a0 a1 ()))

omit [TickC] in
set_option maxRecDepth 100000 in
theorem m13_r13_Same_c {a0 : GR13Table} {a1 : GR13Table} {r : Bool} (h : m13_r13_Same a0 a1 = some r) : CallsA Try.prog 13 [.agg a0, .agg a1] (· = .s (.one (.b r))) := by
  unfold m13_r13_Same at h
  refine callsA_of Try.func13 rfl (nt := 38) rfl (Nat.le_of_ble_eq_true rfl) ?_
  intro w0 S0
  refine cseq ?_
  refine cregion ?_
  refine sbox rfl rfl ?_
  refine sbox rfl rfl ?_
  refine sv rfl (opv_as rfl) ?_
  refine snil ?_
  refine cseq ?_
  refine cseq ?_
  refine cjoin3 (Unit) (fun b1 => [(2, .s (.one (.lp 0 0))), (3, .s (.one (.lp 1 0)))]) (fun b1 => [.box a0, .box a1]) (fun b1 => m13_r13_Same_k1 a0 a1 b1 = some r) (fun _ _ => inbL_of rfl) (fun _ _ => blkinb_of rfl) (fun _ _ => Nat.le_of_ble_eq_true rfl) (fun b1 h => ?_) ?_
  · unfold m13_r13_Same_k1 at h
    refine cseq ?_
    refine cseq ?_
    refine cregion ?_
    refine sv rfl (opv_as rfl) ?_
    refine snil ?_
    refine cjoin (Unit) (fun b2 => []) (fun b2 => [.box a0, .box a1]) (fun b2 => m13_r13_Same_k2 b2 = some r) (fun _ _ => inbL_of rfl) (fun _ _ => blkinb_of rfl) (fun _ _ => Nat.le_of_ble_eq_true rfl) (fun b2 h => ?_) ?_
    · unfold m13_r13_Same_k2 at h
      refine cseq ?_
      refine cregion ?_
      refine sv rfl (opv_as rfl) ?_
      refine snil ?_
      refine cret ?_
      obtain rfl := Option.some.inj h
      refine ⟨Or.inr rfl, _, _, _, (resVs_cons (ResV.tmp _ _ rfl) resVs_nil), (pubA_id rfl), ?_⟩
      rfl
    · skip
      refine cblock ?_
      obtain ⟨x3, hx3, ho3⟩ := bind_eq h
      refine awc_loop (G := Nat × (Int)) (fun g => [(2, .s (.one (.lp 0 0))), (3, .s (.one (.lp 1 0))), (5, .s (.one (.i .i64 g.2)))]) (fun g => [.box a0, .box a1]) (fun g => iter (m13_r13_Same_s3 a0 a1) g.1 g.2 = some x3) (fun g => g.1) (fuel, 0) hx3 ⟨rfl, rfl, rfl, trivial⟩ [] rfl (fun _ _ => inbL_of rfl) (fun _ _ => blkinb_of rfl) (fun _ _ => Nat.le_of_ble_eq_true rfl) ?_
      clear hx3 h
      rintro ⟨n3, s3⟩ h
      obtain ⟨n3, y3, rfl, h, hk3⟩ := iter_eq h
      unfold m13_r13_Same_s3 at h
      refine cseq ?_
      refine cseq ?_
      refine cregion ?_
      refine sv rfl (opv_mv rfl) ?_
      refine sv rfl (opv_fieldAddr_lp fi24_1 rfl) ?_
      refine sv rfl (opv_load1 ti22 rfl (.lp _ _ _ rfl) rfl) ?_
      refine sv rfl (opv_len_sl si22 rfl) ?_
      refine sv rfl (opv_lss rfl rfl) ?_
      refine snil ?_
      refine ccond rfl (fun hc => ?_) (fun hc => ?_)
      · replace h := ite_t hc h
        clear hc
        refine cskip ?_
        refine then_normal ?_
        refine cseq ?_
        refine cblock ?_
        refine cseq ?_
        refine cdraw mixed (by kernel_rfl) ?_
        refine dv rfl (opv_fieldAddr_lp fi24_1 rfl) ?_
        refine dv rfl (opv_load1 ti22 rfl (.lp _ _ _ rfl) rfl) ?_
        refine dv rfl (opv_mv rfl) ?_
        obtain ⟨u4, hu4, h⟩ := bind_eq h
        refine dv rfl (opv_ix (f := eGR13Timer) si22 (fun _ => rfl) rfl rfl rfl rfl hu4) ?_
        refine dv rfl (opv_loadNe (ys := [.i .i64 u4.ID, .i .i64 u4.At]) ti60 rfl (.cp _) rfl rfl) ?_
        refine dv rfl (opv_fieldAddr_lp fi24_1 rfl) ?_
        refine dv rfl (opv_load1 ti22 rfl (.lp _ _ _ rfl) rfl) ?_
        refine dv rfl (opv_mv rfl) ?_
        obtain ⟨u5, hu5, h⟩ := bind_eq h
        refine dv rfl (opv_ix (f := eGR13Timer) si22 (fun _ => rfl) rfl rfl rfl rfl hu5) ?_
        refine dv rfl (opv_loadNe (ys := [.i .i64 u5.ID, .i .i64 u5.At]) ti60 rfl (.cp _) rfl rfl) ?_
        refine dv rfl (opv_stneq et60 rfl rfl rfl rfl rfl) ?_
        refine dnil ?_
        refine then_normal ?_
        refine ccond rfl (fun hc => ?_) (fun hc => ?_)
        · replace h := ite_t hc h
          clear hc
          refine cseq ?_
          refine cregion ?_
          refine sv rfl (opv_as rfl) ?_
          refine snil ?_
          refine cret ?_
          refine block_ret ?_
          refine then_ret ?_
          refine then_ret ?_
          refine block_ret ?_
          refine then_ret ?_
          obtain rfl := Option.some.inj h
          obtain rfl : Sum.inl _ = x3 := hk3
          replace ho3 : some _ = some _ := ho3
          obtain rfl := Option.some.inj ho3
          refine ⟨Or.inr rfl, _, _, _, (resVs_cons (ResV.tmp _ _ rfl) resVs_nil), (pubA_id rfl), ?_⟩
          rfl
        · replace h := ite_f hc h
          clear hc
          refine cskip ?_
          refine block_normal ?_
          refine then_normal ?_
          refine cregion ?_
          refine sv rfl (opv_mv rfl) ?_
          refine sv rfl (opv_add rfl rfl) ?_
          refine sv rfl (opv_as rfl) ?_
          refine snil ?_
          obtain rfl := Option.some.inj h
          exact ⟨(n3, (wI (s3 + 1))), _, hk3, ⟨rfl, rfl, rfl, trivial⟩, rfl, Nat.lt_succ_self _⟩
      · replace h := ite_f hc h
        clear hc
        refine cexit ?_
        refine then_exit ?_
        refine then_exit ?_
        refine block_hit ?_
        refine then_normal ?_
        obtain rfl := Option.some.inj h
        obtain rfl : _ = x3 := hk3
        exact ⟨(), _, ho3, trivial, rfl⟩
  · skip
    refine cregion ?_
    refine sv rfl (opv_fieldAddr_lp fi24_0 rfl) ?_
    refine sv rfl (opv_load1 ti3 rfl (.lp _ _ _ rfl) rfl) ?_
    refine sv rfl (opv_fieldAddr_lp fi24_0 rfl) ?_
    refine sv rfl (opv_load1 ti3 rfl (.lp _ _ _ rfl) rfl) ?_
    refine sv rfl (opv_ineq rfl rfl) ?_
    refine sv rfl (opv_mv rfl) ?_
    refine ssplit 11 rfl (fun hc => ?_) (fun hc => ?_)
    · replace h := ite_t hc h
      clear hc
      refine soff rfl rfl rfl rfl ?_
      refine soff rfl rfl rfl rfl ?_
      refine soff rfl rfl rfl rfl ?_
      refine soff rfl rfl rfl rfl ?_
      refine soff rfl rfl rfl rfl ?_
      refine soff rfl rfl rfl rfl ?_
      refine soff rfl rfl rfl rfl ?_
      refine sv rfl (opv_pick_t rfl rfl) ?_
      refine snil ?_
      refine ccond rfl (fun _ => ?_) (fun hx => Bool.noConfusion hx)
      refine cseq ?_
      refine cregion ?_
      refine sv rfl (opv_as rfl) ?_
      refine snil ?_
      refine cret ?_
      refine then_ret ?_
      obtain rfl := Option.some.inj h
      refine ⟨Or.inr rfl, _, _, _, (resVs_cons (ResV.tmp _ _ rfl) resVs_nil), (pubA_id rfl), ?_⟩
      rfl
    · replace h := ite_f hc h
      clear hc
      refine son rfl rfl rfl ?_
      refine sv rfl (opv_fieldAddr_lp fi24_1 rfl) ?_
      refine son rfl rfl rfl ?_
      refine sv rfl (opv_load1 ti22 rfl (.lp _ _ _ rfl) rfl) ?_
      refine son rfl rfl rfl ?_
      refine sv rfl (opv_len_sl si22 rfl) ?_
      refine son rfl rfl rfl ?_
      refine sv rfl (opv_fieldAddr_lp fi24_1 rfl) ?_
      refine son rfl rfl rfl ?_
      refine sv rfl (opv_load1 ti22 rfl (.lp _ _ _ rfl) rfl) ?_
      refine son rfl rfl rfl ?_
      refine sv rfl (opv_len_sl si22 rfl) ?_
      refine son rfl rfl rfl ?_
      refine sv rfl (opv_ineq rfl rfl) ?_
      refine sv rfl (opv_pick_f rfl rfl) ?_
      refine snil ?_
      refine ccond rfl (fun hc => ?_) (fun hc => ?_)
      · replace h := ite_t hc h
        clear hc
        refine cseq ?_
        refine cregion ?_
        refine sv rfl (opv_as rfl) ?_
        refine snil ?_
        refine cret ?_
        refine then_ret ?_
        obtain rfl := Option.some.inj h
        refine ⟨Or.inr rfl, _, _, _, (resVs_cons (ResV.tmp _ _ rfl) resVs_nil), (pubA_id rfl), ?_⟩
        rfl
      · replace h := ite_f hc h
        clear hc
        refine cskip ?_
        refine then_normal ?_
        exact ⟨(), _, h, ⟨rfl, rfl, trivial⟩, rfl⟩

def m15_r10_Ints_k1 (b1 : Unit) : Option Bool :=
  some true

def m15_r10_Ints_s2 (a0 : List Int) (a1 : List Int) (s2 : Int) : Option (LR (Int) (Unit) (Bool)) :=
  if (decide (s2 < (a0.length : Int))) then ((idx a0 s2).bind fun u3 => (idx a1 s2).bind fun u4 => if (!decide (u3 = u4)) then (some (.ret false)) else (some (.cont (wI (s2 + 1))))) else (some (.brk ()))
def m15_r10_Ints (a0 : List Int) (a1 : List Int) : Option Bool :=
  if (!decide ((a0.length : Int) = (a1.length : Int))) then (some false) else ((iter (m15_r10_Ints_s2 a0 a1) fuel 0).bind fun x => match x with | .inl r => some r | .inr e5 => m15_r10_Ints_k1 e5)

omit [TickC] in
set_option maxRecDepth 100000 in
theorem m15_r10_Ints_c {a0 : List Int} {a1 : List Int} {r : Bool} (h : m15_r10_Ints a0 a1 = some r) : CallsA Try.prog 15 [.one (.sl a0.length (a0.flatMap eI)), .one (.sl a1.length (a1.flatMap eI))] (· = .s (.one (.b r))) := by
  unfold m15_r10_Ints at h
  refine callsA_of Try.func15 rfl (nt := 26) rfl (Nat.le_of_ble_eq_true rfl) ?_
  intro w0 S0
  refine cseq ?_
  refine cregion ?_
  refine sv rfl (opv_as rfl) ?_
  refine snil ?_
  refine cseq ?_
  refine cseq ?_
  refine cregion ?_
  refine sv rfl (opv_mv rfl) ?_
  refine sv rfl (opv_len_sl si35 rfl) ?_
  refine sv rfl (opv_mv rfl) ?_
  refine sv rfl (opv_len_sl si35 rfl) ?_
  refine sv rfl (opv_ineq rfl rfl) ?_
  refine snil ?_
  refine ccond rfl (fun hc => ?_) (fun hc => ?_)
  · replace h := ite_t hc h
    clear hc
    refine cseq ?_
    refine cregion ?_
    refine sv rfl (opv_as rfl) ?_
    refine snil ?_
    refine cret ?_
    refine then_ret ?_
    obtain rfl := Option.some.inj h
    refine ⟨Or.inr rfl, _, _, _, (resVs_cons (ResV.tmp _ _ rfl) resVs_nil), (pubA_id rfl), ?_⟩
    rfl
  · replace h := ite_f hc h
    clear hc
    refine cskip ?_
    refine then_normal ?_
    refine cseq ?_
    refine cseq ?_
    refine cregion ?_
    refine sv rfl (opv_as rfl) ?_
    refine snil ?_
    refine cjoin (Unit) (fun b1 => []) (fun b1 => []) (fun b1 => m15_r10_Ints_k1 b1 = some r) (fun _ _ => inbL_of rfl) (fun _ _ => blkinb_of rfl) (fun _ _ => Nat.le_of_ble_eq_true rfl) (fun b1 h => ?_) ?_
    · unfold m15_r10_Ints_k1 at h
      refine cseq ?_
      refine cregion ?_
      refine sv rfl (opv_as rfl) ?_
      refine snil ?_
      refine cret ?_
      obtain rfl := Option.some.inj h
      refine ⟨Or.inr rfl, _, _, _, (resVs_cons (ResV.tmp _ _ rfl) resVs_nil), (pubA_id rfl), ?_⟩
      rfl
    · skip
      refine cblock ?_
      obtain ⟨x2, hx2, ho2⟩ := bind_eq h
      refine awc_loop (G := Nat × (Int)) (fun g => [(0, .s (.one (.sl a0.length (a0.flatMap eI)))), (1, .s (.one (.sl a1.length (a1.flatMap eI)))), (5, .s (.one (.i .i64 g.2)))]) (fun g => []) (fun g => iter (m15_r10_Ints_s2 a0 a1) g.1 g.2 = some x2) (fun g => g.1) (fuel, 0) hx2 ⟨rfl, rfl, rfl, trivial⟩ [] rfl (fun _ _ => inbL_of rfl) (fun _ _ => blkinb_of rfl) (fun _ _ => Nat.le_of_ble_eq_true rfl) ?_
      clear hx2 h
      rintro ⟨n2, s2⟩ h
      obtain ⟨n2, y2, rfl, h, hk2⟩ := iter_eq h
      unfold m15_r10_Ints_s2 at h
      refine cseq ?_
      refine cseq ?_
      refine cregion ?_
      refine sv rfl (opv_mv rfl) ?_
      refine sv rfl (opv_mv rfl) ?_
      refine sv rfl (opv_len_sl si35 rfl) ?_
      refine sv rfl (opv_lss rfl rfl) ?_
      refine snil ?_
      refine ccond rfl (fun hc => ?_) (fun hc => ?_)
      · replace h := ite_t hc h
        clear hc
        refine cskip ?_
        refine then_normal ?_
        refine cseq ?_
        refine cblock ?_
        refine cseq ?_
        refine cdraw mixed (by kernel_rfl) ?_
        refine dv rfl (opv_mv rfl) ?_
        refine dv rfl (opv_mv rfl) ?_
        obtain ⟨u3, hu3, h⟩ := bind_eq h
        refine dv rfl (opv_ix (f := eI) si35 (fun _ => rfl) rfl rfl rfl rfl hu3) ?_
        refine dv rfl (opv_load1 ti3 rfl (.cp _) rfl) ?_
        refine dv rfl (opv_mv rfl) ?_
        refine dv rfl (opv_mv rfl) ?_
        obtain ⟨u4, hu4, h⟩ := bind_eq h
        refine dv rfl (opv_ix (f := eI) si35 (fun _ => rfl) rfl rfl rfl rfl hu4) ?_
        refine dv rfl (opv_load1 ti3 rfl (.cp _) rfl) ?_
        refine dv rfl (opv_ineq rfl rfl) ?_
        refine dnil ?_
        refine then_normal ?_
        refine ccond rfl (fun hc => ?_) (fun hc => ?_)
        · replace h := ite_t hc h
          clear hc
          refine cseq ?_
          refine cregion ?_
          refine sv rfl (opv_as rfl) ?_
          refine snil ?_
          refine cret ?_
          refine block_ret ?_
          refine then_ret ?_
          refine then_ret ?_
          refine block_ret ?_
          refine then_ret ?_
          obtain rfl := Option.some.inj h
          obtain rfl : Sum.inl _ = x2 := hk2
          replace ho2 : some _ = some _ := ho2
          obtain rfl := Option.some.inj ho2
          refine ⟨Or.inr rfl, _, _, _, (resVs_cons (ResV.tmp _ _ rfl) resVs_nil), (pubA_id rfl), ?_⟩
          rfl
        · replace h := ite_f hc h
          clear hc
          refine cskip ?_
          refine block_normal ?_
          refine then_normal ?_
          refine cregion ?_
          refine sv rfl (opv_mv rfl) ?_
          refine sv rfl (opv_add rfl rfl) ?_
          refine sv rfl (opv_as rfl) ?_
          refine snil ?_
          obtain rfl := Option.some.inj h
          exact ⟨(n2, (wI (s2 + 1))), _, hk2, ⟨rfl, rfl, rfl, trivial⟩, rfl, Nat.lt_succ_self _⟩
      · replace h := ite_f hc h
        clear hc
        refine cexit ?_
        refine then_exit ?_
        refine then_exit ?_
        refine block_hit ?_
        refine then_normal ?_
        obtain rfl := Option.some.inj h
        obtain rfl : _ = x2 := hk2
        exact ⟨(), _, ho2, trivial, rfl⟩

def m17_r13_Next_k3 (a0 : GR13Table) (b3 : Int) : Option (Int × Bool) :=
  some ((wI (b3 - a0.Now)), true)

def m17_r13_Next_s4 (a0 : GR13Table) (s4 : Int × Int) : Option (LB (Int × Int) (Int)) :=
  if (decide (s4.2 < (a0.L.length : Int))) then ((idx a0.L s4.2).bind fun u5 => some (.cont ((if u5.At < s4.1 then u5.At else s4.1), (wI (s4.2 + 1))))) else (some (.brk s4.1))

def m17_r13_Next_k1 (a0 : GR13Table) (b1 : Unit) : Option (Int × Bool) :=
  (idx a0.L 0).bind fun u2 => (iterB (m17_r13_Next_s4 a0) fuel (u2.At, 0)).bind fun e6 => m17_r13_Next_k3 a0 e6
def m17_r13_Next (a0 : GR13Table) : Option (Int × Bool) :=
  (m21_r13_Sane a0).bind fun v7 => if (!v7) then (some (0, false)) else (if (decide ((a0.L.length : Int) = 0)) then (some (0, false)) else (m17_r13_Next_k1 a0 ()))

omit [TickC] in
set_option maxRecDepth 100000 in
theorem m17_r13_Next_c {a0 : GR13Table} {r : Int × Bool} (h : m17_r13_Next a0 = some r) : CallsA Try.prog 17 [.agg a0] (· = .tup [.one (.i .i64 r.1), .one (.b r.2)]) := by
  unfold m17_r13_Next at h
  refine callsA_of Try.func17 rfl (nt := 39) rfl (Nat.le_of_ble_eq_true rfl) ?_
  intro w0 S0
  refine cseq ?_
  refine cregion ?_
  refine sbox rfl rfl ?_
  refine sv rfl (opv_as rfl) ?_
  refine sv rfl (opv_as rfl) ?_
  refine snil ?_
  refine cseq ?_
  refine cseq ?_
  refine cjoin3 (Unit) (fun b1 => [(1, .s (.one (.lp 0 0)))]) (fun b1 => [.box a0]) (fun b1 => m17_r13_Next_k1 a0 b1 = some r) (fun _ _ => inbL_of rfl) (fun _ _ => blkinb_of rfl) (fun _ _ => Nat.le_of_ble_eq_true rfl) (fun b1 h => ?_) ?_
  · unfold m17_r13_Next_k1 at h
    refine cseq ?_
    refine cregion ?_
    refine sv rfl (opv_fieldAddr_lp fi24_1 rfl) ?_
    refine sv rfl (opv_load1 ti22 rfl (.lp _ _ _ rfl) rfl) ?_
    obtain ⟨u2, hu2, h⟩ := bind_eq h
    refine sv rfl (opv_ix (f := eGR13Timer) si22 (fun _ => rfl) rfl rfl rfl rfl hu2) ?_
    refine sv rfl (opv_fieldAddr_cp fi60_1 rfl) ?_
    refine sv rfl (opv_load1 ti3 rfl (.cp _) rfl) ?_
    refine sv rfl (opv_as rfl) ?_
    refine snil ?_
    refine cseq ?_
    refine cseq ?_
    refine cregion ?_
    refine sv rfl (opv_as rfl) ?_
    refine snil ?_
    refine cjoin (Int) (fun b3 => [(1, .s (.one (.lp 0 0))), (4, .s (.one (.i .i64 b3)))]) (fun b3 => [.box a0]) (fun b3 => m17_r13_Next_k3 a0 b3 = some r) (fun _ _ => inbL_of rfl) (fun _ _ => blkinb_of rfl) (fun _ _ => Nat.le_of_ble_eq_true rfl) (fun b3 h => ?_) ?_
    · unfold m17_r13_Next_k3 at h
      refine cseq ?_
      refine cregion ?_
      refine sv rfl (opv_mv rfl) ?_
      refine sv rfl (opv_fieldAddr_lp fi24_0 rfl) ?_
      refine sv rfl (opv_load1 ti3 rfl (.lp _ _ _ rfl) rfl) ?_
      refine sv rfl (opv_sub rfl rfl) ?_
      refine sv rfl (opv_as rfl) ?_
      refine sv rfl (opv_as rfl) ?_
      refine snil ?_
      refine cret ?_
      obtain rfl := Option.some.inj h
      refine ⟨Or.inr rfl, _, _, _, (resVs_cons (ResV.tmp _ _ rfl) (resVs_cons (ResV.tmp _ _ rfl) resVs_nil)), (pubA_id rfl), ?_⟩
      rfl
    · skip
      refine cblock ?_
      obtain ⟨x4, hx4, ho4⟩ := bind_eq h
      refine awc_loop (G := Nat × (Int × Int)) (fun g => [(1, .s (.one (.lp 0 0))), (4, .s (.one (.i .i64 g.2.1))), (5, .s (.one (.i .i64 g.2.2)))]) (fun g => [.box a0]) (fun g => iterB (m17_r13_Next_s4 a0) g.1 g.2 = some x4) (fun g => g.1) (fuel, (u2.At, 0)) hx4 ⟨rfl, rfl, rfl, trivial⟩ [] rfl (fun _ _ => inbL_of rfl) (fun _ _ => blkinb_of rfl) (fun _ _ => Nat.le_of_ble_eq_true rfl) ?_
      clear hx4 h
      rintro ⟨n4, s4⟩ h
      obtain ⟨n4, y4, rfl, h, hk4⟩ := iterB_eq h
      unfold m17_r13_Next_s4 at h
      refine cseq ?_
      refine cseq ?_
      refine cregion ?_
      refine sv rfl (opv_mv rfl) ?_
      refine sv rfl (opv_fieldAddr_lp fi24_1 rfl) ?_
      refine sv rfl (opv_load1 ti22 rfl (.lp _ _ _ rfl) rfl) ?_
      refine sv rfl (opv_len_sl si22 rfl) ?_
      refine sv rfl (opv_lss rfl rfl) ?_
      refine snil ?_
      refine ccond rfl (fun hc => ?_) (fun hc => ?_)
      · replace h := ite_t hc h
        clear hc
        refine cskip ?_
        refine then_normal ?_
        refine cseq ?_
        refine cblock ?_
        refine cregion ?_
        refine sv rfl (opv_mv rfl) ?_
        refine sv rfl (opv_fieldAddr_lp fi24_1 rfl) ?_
        refine sv rfl (opv_load1 ti22 rfl (.lp _ _ _ rfl) rfl) ?_
        refine sv rfl (opv_mv rfl) ?_
        obtain ⟨u5, hu5, h⟩ := bind_eq h
        refine sv rfl (opv_ix (f := eGR13Timer) si22 (fun _ => rfl) rfl rfl rfl rfl hu5) ?_
        refine sv rfl (opv_fieldAddr_cp fi60_1 rfl) ?_
        refine sv rfl (opv_load1 ti3 rfl (.cp _) rfl) ?_
        refine sv rfl (opv_min rfl rfl) ?_
        refine sv rfl (opv_as rfl) ?_
        refine snil0 ?_
        refine block_normal ?_
        refine then_normal ?_
        refine cregion ?_
        refine sv rfl (opv_mv rfl) ?_
        refine sv rfl (opv_add rfl rfl) ?_
        refine sv rfl (opv_as rfl) ?_
        refine snil ?_
        obtain rfl := Option.some.inj h
        exact ⟨(n4, ((if u5.At < s4.1 then u5.At else s4.1), (wI (s4.2 + 1)))), _, hk4, ⟨rfl, rfl, rfl, trivial⟩, rfl, Nat.lt_succ_self _⟩
      · replace h := ite_f hc h
        clear hc
        refine cexit ?_
        refine then_exit ?_
        refine then_exit ?_
        refine block_hit ?_
        refine then_normal ?_
        obtain rfl := Option.some.inj h
        obtain rfl : _ = x4 := hk4
        exact ⟨s4.1, _, ho4, ⟨rfl, rfl, trivial⟩, rfl⟩
  · skip
    refine cregion ?_
    refine sv rfl (opv_loadN ti24 rfl (.lp _ _ _ rfl) (Nat.le_of_ble_eq_true rfl)) ?_
    obtain ⟨v7, hv7, h⟩ := bind_eq h
    refine scall1 rfl fn21 (opnds_cons rfl opnds_nil) (pubA_id rfl) (m21_r13_Sane_c hv7) ?_
    refine sv rfl (opv_not rfl) ?_
    refine sv rfl (opv_mv rfl) ?_
    refine ssplit 9 rfl (fun hc => ?_) (fun hc => ?_)
    · replace h := ite_t hc h
      clear hc
      refine soff rfl rfl rfl rfl ?_
      refine soff rfl rfl rfl rfl ?_
      refine soff rfl rfl rfl rfl ?_
      refine soff rfl rfl rfl rfl ?_
      refine sv rfl (opv_pick_t rfl rfl) ?_
      refine snil ?_
      refine ccond rfl (fun _ => ?_) (fun hx => Bool.noConfusion hx)
      refine cseq ?_
      refine cregion ?_
      refine sv rfl (opv_as rfl) ?_
      refine sv rfl (opv_as rfl) ?_
      refine snil ?_
      refine cret ?_
      refine then_ret ?_
      obtain rfl := Option.some.inj h
      refine ⟨Or.inr rfl, _, _, _, (resVs_cons (ResV.tmp _ _ rfl) (resVs_cons (ResV.tmp _ _ rfl) resVs_nil)), (pubA_id rfl), ?_⟩
      rfl
    · replace h := ite_f hc h
      clear hc
      refine son rfl rfl rfl ?_
      refine sv rfl (opv_fieldAddr_lp fi24_1 rfl) ?_
      refine son rfl rfl rfl ?_
      refine sv rfl (opv_load1 ti22 rfl (.lp _ _ _ rfl) rfl) ?_
      refine son rfl rfl rfl ?_
      refine sv rfl (opv_len_sl si22 rfl) ?_
      refine son rfl rfl rfl ?_
      refine sv rfl (opv_ieql rfl rfl) ?_
      refine sv rfl (opv_pick_f rfl rfl) ?_
      refine snil ?_
      refine ccond rfl (fun hc => ?_) (fun hc => ?_)
      · replace h := ite_t hc h
        clear hc
        refine cseq ?_
        refine cregion ?_
        refine sv rfl (opv_as rfl) ?_
        refine sv rfl (opv_as rfl) ?_
        refine snil ?_
        refine cret ?_
        refine then_ret ?_
        obtain rfl := Option.some.inj h
        refine ⟨Or.inr rfl, _, _, _, (resVs_cons (ResV.tmp _ _ rfl) (resVs_cons (ResV.tmp _ _ rfl) resVs_nil)), (pubA_id rfl), ?_⟩
        rfl
      · replace h := ite_f hc h
        clear hc
        refine cskip ?_
        refine then_normal ?_
        exact ⟨(), _, h, ⟨rfl, trivial⟩, rfl⟩

def m18_timers_Left_k2 (b2 : Unit) : Option (Int × Bool) :=
  some (0, false)

def m18_timers_Left_s3 (a0 : GTimersTable) (a1 : Int) (s3 : Int) : Option (LR (Int) (Unit) (Int × Bool)) :=
  if (decide (s3 < (a0.L.length : Int))) then ((idx a0.L s3).bind fun u4 => if (decide (u4.ID = a1)) then (some (.ret ((wI (u4.At - a0.Now)), true))) else (some (.cont (wI (s3 + 1))))) else (some (.brk ()))
def m18_timers_Left (a0 : GTimersTable) (a1 : Int) : Option (Int × Bool) :=
  (m20_timers_Sane a0).bind fun v1 => if (!v1) then (some (0, false)) else ((iter (m18_timers_Left_s3 a0 a1) fuel 0).bind fun x => match x with | .inl r => some r | .inr e5 => m18_timers_Left_k2 e5)

omit [TickC] in
set_option maxRecDepth 100000 in
theorem m18_timers_Left_c {a0 : GTimersTable} {a1 : Int} {r : Int × Bool} (h : m18_timers_Left a0 a1 = some r) : CallsA Try.prog 18 [.agg a0, .one (.i .i64 a1)] (· = .tup [.one (.i .i64 r.1), .one (.b r.2)]) := by
  unfold m18_timers_Left at h
  refine callsA_of Try.func18 rfl (nt := 28) rfl (Nat.le_of_ble_eq_true rfl) ?_
  intro w0 S0
  refine cseq ?_
  refine cregion ?_
  refine sbox rfl rfl ?_
  refine sv rfl (opv_as rfl) ?_
  refine sv rfl (opv_as rfl) ?_
  refine snil ?_
  refine cseq ?_
  refine cseq ?_
  refine cregion ?_
  refine sv rfl (opv_loadN ti28 rfl (.lp _ _ _ rfl) (Nat.le_of_ble_eq_true rfl)) ?_
  obtain ⟨v1, hv1, h⟩ := bind_eq h
  refine scall1 rfl fn20 (opnds_cons rfl opnds_nil) (pubA_id rfl) (m20_timers_Sane_c hv1) ?_
  refine sv rfl (opv_not rfl) ?_
  refine snil ?_
  refine ccond rfl (fun hc => ?_) (fun hc => ?_)
  · replace h := ite_t hc h
    clear hc
    refine cseq ?_
    refine cregion ?_
    refine sv rfl (opv_as rfl) ?_
    refine sv rfl (opv_as rfl) ?_
    refine snil ?_
    refine cret ?_
    refine then_ret ?_
    obtain rfl := Option.some.inj h
    refine ⟨Or.inr rfl, _, _, _, (resVs_cons (ResV.tmp _ _ rfl) (resVs_cons (ResV.tmp _ _ rfl) resVs_nil)), (pubA_id rfl), ?_⟩
    rfl
  · replace h := ite_f hc h
    clear hc
    refine cskip ?_
    refine then_normal ?_
    refine cseq ?_
    refine cseq ?_
    refine cregion ?_
    refine sv rfl (opv_fieldAddr_lp fi28_1 rfl) ?_
    refine sv rfl (opv_load1 ti26 rfl (.lp _ _ _ rfl) rfl) ?_
    refine sv rfl (opv_len_sl si26 rfl) ?_
    refine sv rfl (opv_mv rfl) ?_
    refine snil ?_
    refine cjoin (Unit) (fun b2 => []) (fun b2 => [.box a0]) (fun b2 => m18_timers_Left_k2 b2 = some r) (fun _ _ => inbL_of rfl) (fun _ _ => blkinb_of rfl) (fun _ _ => Nat.le_of_ble_eq_true rfl) (fun b2 h => ?_) ?_
    · unfold m18_timers_Left_k2 at h
      refine cseq ?_
      refine cregion ?_
      refine sv rfl (opv_as rfl) ?_
      refine sv rfl (opv_as rfl) ?_
      refine snil ?_
      refine cret ?_
      obtain rfl := Option.some.inj h
      refine ⟨Or.inr rfl, _, _, _, (resVs_cons (ResV.tmp _ _ rfl) (resVs_cons (ResV.tmp _ _ rfl) resVs_nil)), (pubA_id rfl), ?_⟩
      rfl
    · skip
      refine cblock ?_
      obtain ⟨x3, hx3, ho3⟩ := bind_eq h
      refine awc_loop (G := Nat × (Int)) (fun g => [(1, .s (.one (.i .i64 a1))), (2, .s (.one (.lp 0 0))), (12, .s (.one (.sl a0.L.length (a0.L.flatMap eGTimersTimer)))), (13, .s (.one (.i .i64 (a0.L.length : Int)))), (14, .s (.one (.i .i64 g.2)))]) (fun g => [.box a0]) (fun g => iter (m18_timers_Left_s3 a0 a1) g.1 g.2 = some x3) (fun g => g.1) (fuel, 0) hx3 ⟨rfl, rfl, rfl, rfl, rfl, trivial⟩ [] rfl (fun _ _ => inbL_of rfl) (fun _ _ => blkinb_of rfl) (fun _ _ => Nat.le_of_ble_eq_true rfl) ?_
      clear hx3 h
      rintro ⟨n3, s3⟩ h
      obtain ⟨n3, y3, rfl, h, hk3⟩ := iter_eq h
      unfold m18_timers_Left_s3 at h
      refine cseq ?_
      refine cregion ?_
      refine sv rfl (opv_lss rfl rfl) ?_
      refine snil ?_
      refine cseq ?_
      refine ccond rfl (fun hc => ?_) (fun hc => ?_)
      · replace h := ite_t hc h
        clear hc
        refine cskip ?_
        refine then_normal ?_
        refine cseq ?_
        refine cblock ?_
        refine cseq ?_
        refine cregion ?_
        obtain ⟨u4, hu4, h⟩ := bind_eq h
        refine sv rfl (opv_ix (f := eGTimersTimer) si26 (fun _ => rfl) rfl rfl rfl rfl hu4) ?_
        refine sv rfl (opv_loadNe (ys := [.i .i64 u4.ID, .i .i64 u4.At]) ti61 rfl (.cp _) rfl rfl) ?_
        refine salloc rfl zi61 ?_
        refine sstore sz61 rfl rfl rfl rfl (Nat.le_of_ble_eq_true rfl) ?_
        refine smem [.box a0, .box [.i .i64 u4.ID, .i .i64 u4.At]] rfl ?_
        refine snil ?_
        refine cseq ?_
        refine cregion ?_
        refine sv rfl (opv_fieldAddr_lp fi61_0 rfl) ?_
        refine sv rfl (opv_load1 ti3 rfl (.lp _ _ _ rfl) rfl) ?_
        refine sv rfl (opv_mv rfl) ?_
        refine sv rfl (opv_ieql rfl rfl) ?_
        refine snil ?_
        refine ccond rfl (fun hc => ?_) (fun hc => ?_)
        · replace h := ite_t hc h
          clear hc
          refine cseq ?_
          refine cregion ?_
          refine sv rfl (opv_fieldAddr_lp fi61_1 rfl) ?_
          refine sv rfl (opv_load1 ti3 rfl (.lp _ _ _ rfl) rfl) ?_
          refine sv rfl (opv_fieldAddr_lp fi28_0 rfl) ?_
          refine sv rfl (opv_load1 ti3 rfl (.lp _ _ _ rfl) rfl) ?_
          refine sv rfl (opv_sub rfl rfl) ?_
          refine sv rfl (opv_as rfl) ?_
          refine sv rfl (opv_as rfl) ?_
          refine snil ?_
          refine cret ?_
          refine block_ret ?_
          refine then_ret ?_
          refine then_ret ?_
          refine block_ret ?_
          refine then_ret ?_
          obtain rfl := Option.some.inj h
          obtain rfl : Sum.inl _ = x3 := hk3
          replace ho3 : some _ = some _ := ho3
          obtain rfl := Option.some.inj ho3
          refine ⟨Or.inr rfl, _, _, _, (resVs_cons (ResV.tmp _ _ rfl) (resVs_cons (ResV.tmp _ _ rfl) resVs_nil)), (pubA_id rfl), ?_⟩
          rfl
        · replace h := ite_f hc h
          clear hc
          refine cskip ?_
          refine block_normal ?_
          refine then_normal ?_
          refine cregion ?_
          refine sv rfl (opv_add rfl rfl) ?_
          refine sv rfl (opv_mv rfl) ?_
          refine snil ?_
          obtain rfl := Option.some.inj h
          exact ⟨(n3, (wI (s3 + 1))), _, hk3, ⟨rfl, rfl, rfl, rfl, rfl, trivial⟩, rfl, Nat.lt_succ_self _⟩
      · replace h := ite_f hc h
        clear hc
        refine cexit ?_
        refine then_exit ?_
        refine then_exit ?_
        refine block_hit ?_
        refine then_normal ?_
        obtain rfl := Option.some.inj h
        obtain rfl : _ = x3 := hk3
        exact ⟨(), _, ho3, trivial, rfl⟩

def m19_r13_Left_k1 (b1 : Unit) : Option (Int × Bool) :=
  some (0, false)

def m19_r13_Left_k3 (a0 : GR13Table) (a1 : Int) (s2 : Int) (b3 : Unit) : Option (LR (Int) (Unit) (Int × Bool)) :=
  (idx a0.L s2).bind fun u4 => if (decide (u4.ID = a1)) then ((idx a0.L s2).bind fun u5 => some (.ret ((wI (u5.At - a0.Now)), true))) else (some (.cont (wI (s2 + 1))))

def m19_r13_Left_s2 (a0 : GR13Table) (a1 : Int) (s2 : Int) : Option (LR (Int) (Unit) (Int × Bool)) :=
  if (decide (s2 < (a0.L.length : Int))) then ((m21_r13_Sane a0).bind fun v6 => if v6 then (m19_r13_Left_k3 a0 a1 s2 ()) else (some (.brk ()))) else (some (.brk ()))
def m19_r13_Left (a0 : GR13Table) (a1 : Int) : Option (Int × Bool) :=
  (iter (m19_r13_Left_s2 a0 a1) fuel 0).bind fun x => match x with | .inl r => some r | .inr e7 => m19_r13_Left_k1 e7

omit [TickC] in
set_option maxRecDepth 100000 in
theorem m19_r13_Left_c {a0 : GR13Table} {a1 : Int} {r : Int × Bool} (h : m19_r13_Left a0 a1 = some r) : CallsA Try.prog 19 [.agg a0, .one (.i .i64 a1)] (· = .tup [.one (.i .i64 r.1), .one (.b r.2)]) := by
  unfold m19_r13_Left at h
  refine callsA_of Try.func19 rfl (nt := 35) rfl (Nat.le_of_ble_eq_true rfl) ?_
  intro w0 S0
  refine cseq ?_
  refine cregion ?_
  refine sbox rfl rfl ?_
  refine sv rfl (opv_as rfl) ?_
  refine sv rfl (opv_as rfl) ?_
  refine snil ?_
  refine cseq ?_
  refine cseq ?_
  refine cregion ?_
  refine sv rfl (opv_as rfl) ?_
  refine snil ?_
  refine cjoin (Unit) (fun b1 => []) (fun b1 => [.box a0]) (fun b1 => m19_r13_Left_k1 b1 = some r) (fun _ _ => inbL_of rfl) (fun _ _ => blkinb_of rfl) (fun _ _ => Nat.le_of_ble_eq_true rfl) (fun b1 h => ?_) ?_
  · unfold m19_r13_Left_k1 at h
    refine cseq ?_
    refine cregion ?_
    refine sv rfl (opv_as rfl) ?_
    refine sv rfl (opv_as rfl) ?_
    refine snil ?_
    refine cret ?_
    obtain rfl := Option.some.inj h
    refine ⟨Or.inr rfl, _, _, _, (resVs_cons (ResV.tmp _ _ rfl) (resVs_cons (ResV.tmp _ _ rfl) resVs_nil)), (pubA_id rfl), ?_⟩
    rfl
  · skip
    refine cblock ?_
    obtain ⟨x2, hx2, ho2⟩ := bind_eq h
    refine awc_loop (G := Nat × (Int)) (fun g => [(1, .s (.one (.i .i64 a1))), (2, .s (.one (.lp 0 0))), (6, .s (.one (.i .i64 g.2)))]) (fun g => [.box a0]) (fun g => iter (m19_r13_Left_s2 a0 a1) g.1 g.2 = some x2) (fun g => g.1) (fuel, 0) hx2 ⟨rfl, rfl, rfl, trivial⟩ [] rfl (fun _ _ => inbL_of rfl) (fun _ _ => blkinb_of rfl) (fun _ _ => Nat.le_of_ble_eq_true rfl) ?_
    clear hx2 h
    rintro ⟨n2, s2⟩ h
    obtain ⟨n2, y2, rfl, h, hk2⟩ := iter_eq h
    unfold m19_r13_Left_s2 at h
    refine cseq ?_
    refine cseq ?_
    refine cjoin3 (Unit) (fun b3 => [(1, .s (.one (.i .i64 a1))), (2, .s (.one (.lp 0 0))), (6, .s (.one (.i .i64 s2)))]) (fun b3 => [.box a0]) (fun b3 => m19_r13_Left_k3 a0 a1 s2 b3 = some y2) (fun _ _ => inbL_of rfl) (fun _ _ => blkinb_of rfl) (fun _ _ => Nat.le_of_ble_eq_true rfl) (fun b3 h => ?_) ?_
    · unfold m19_r13_Left_k3 at h
      refine cseq ?_
      refine cblock ?_
      refine cseq ?_
      refine cregion ?_
      refine sv rfl (opv_fieldAddr_lp fi24_1 rfl) ?_
      refine sv rfl (opv_load1 ti22 rfl (.lp _ _ _ rfl) rfl) ?_
      refine sv rfl (opv_mv rfl) ?_
      obtain ⟨u4, hu4, h⟩ := bind_eq h
      refine sv rfl (opv_ix (f := eGR13Timer) si22 (fun _ => rfl) rfl rfl rfl rfl hu4) ?_
      refine sv rfl (opv_fieldAddr_cp fi60_0 rfl) ?_
      refine sv rfl (opv_load1 ti3 rfl (.cp _) rfl) ?_
      refine sv rfl (opv_mv rfl) ?_
      refine sv rfl (opv_ieql rfl rfl) ?_
      refine snil ?_
      refine ccond rfl (fun hc => ?_) (fun hc => ?_)
      · replace h := ite_t hc h
        clear hc
        refine cseq ?_
        refine cdraw mixed (by kernel_rfl) ?_
        refine dv rfl (opv_fieldAddr_lp fi24_1 rfl) ?_
        refine dv rfl (opv_load1 ti22 rfl (.lp _ _ _ rfl) rfl) ?_
        refine dv rfl (opv_mv rfl) ?_
        obtain ⟨u5, hu5, h⟩ := bind_eq h
        refine dv rfl (opv_ix (f := eGR13Timer) si22 (fun _ => rfl) rfl rfl rfl rfl hu5) ?_
        refine dv rfl (opv_fieldAddr_cp fi60_1 rfl) ?_
        refine dv rfl (opv_load1 ti3 rfl (.cp _) rfl) ?_
        refine dv rfl (opv_fieldAddr_lp fi24_0 rfl) ?_
        refine dv rfl (opv_load1 ti3 rfl (.lp _ _ _ rfl) rfl) ?_
        refine dv rfl (opv_sub rfl rfl) ?_
        refine dv rfl (opv_as rfl) ?_
        refine dv rfl (opv_as rfl) ?_
        refine dnil ?_
        refine then_normal ?_
        refine cret ?_
        refine block_ret ?_
        refine then_ret ?_
        refine then_ret ?_
        refine block_ret ?_
        refine then_ret ?_
        obtain rfl := Option.some.inj h
        obtain rfl : Sum.inl _ = x2 := hk2
        replace ho2 : some _ = some _ := ho2
        obtain rfl := Option.some.inj ho2
        refine ⟨Or.inr rfl, _, _, _, (resVs_cons (ResV.tmp _ _ rfl) (resVs_cons (ResV.tmp _ _ rfl) resVs_nil)), (pubA_id rfl), ?_⟩
        rfl
      · replace h := ite_f hc h
        clear hc
        refine cskip ?_
        refine block_normal ?_
        refine then_normal ?_
        refine cregion ?_
        refine sv rfl (opv_mv rfl) ?_
        refine sv rfl (opv_add rfl rfl) ?_
        refine sv rfl (opv_as rfl) ?_
        refine snil ?_
        obtain rfl := Option.some.inj h
        exact ⟨(n2, (wI (s2 + 1))), _, hk2, ⟨rfl, rfl, rfl, trivial⟩, rfl, Nat.lt_succ_self _⟩
    · skip
      refine cregion ?_
      refine sv rfl (opv_mv rfl) ?_
      refine sv rfl (opv_fieldAddr_lp fi24_1 rfl) ?_
      refine sv rfl (opv_load1 ti22 rfl (.lp _ _ _ rfl) rfl) ?_
      refine sv rfl (opv_len_sl si22 rfl) ?_
      refine sv rfl (opv_lss rfl rfl) ?_
      refine sv rfl (opv_mv rfl) ?_
      refine ssplit 12 rfl (fun hc => ?_) (fun hc => ?_)
      · replace h := ite_t hc h
        clear hc
        refine son rfl rfl rfl ?_
        refine sv rfl (opv_loadN ti24 rfl (.lp _ _ _ rfl) (Nat.le_of_ble_eq_true rfl)) ?_
        refine son rfl rfl rfl ?_
        obtain ⟨v6, hv6, h⟩ := bind_eq h
        refine scall1 rfl fn21 (opnds_cons rfl opnds_nil) (pubA_id rfl) (m21_r13_Sane_c hv6) ?_
        refine sv rfl (opv_pick_t rfl rfl) ?_
        refine snil ?_
        refine ccond rfl (fun hc => ?_) (fun hc => ?_)
        · replace h := ite_t hc h
          clear hc
          refine cskip ?_
          refine then_normal ?_
          exact ⟨(), _, h, ⟨rfl, rfl, rfl, trivial⟩, rfl⟩
        · replace h := ite_f hc h
          clear hc
          refine cexit ?_
          refine then_exit ?_
          refine then_exit ?_
          refine block_hit ?_
          refine then_normal ?_
          obtain rfl := Option.some.inj h
          obtain rfl : _ = x2 := hk2
          exact ⟨(), _, ho2, trivial, rfl⟩
      · replace h := ite_f hc h
        clear hc
        refine soff rfl rfl rfl rfl ?_
        refine soff rfl rfl rfl rfl ?_
        refine sv rfl (opv_pick_f rfl rfl) ?_
        refine snil ?_
        refine ccond rfl (fun hx => Bool.noConfusion hx) (fun _ => ?_)
        refine cexit ?_
        refine then_exit ?_
        refine then_exit ?_
        refine block_hit ?_
        refine then_normal ?_
        obtain rfl := Option.some.inj h
        obtain rfl : _ = x2 := hk2
        exact ⟨(), _, ho2, trivial, rfl⟩

set_option maxRecDepth 100000 in
def m24_l13_grown_k1 (b1 : Int × (List GTimersTimer)) : Option GTimersTable :=
  some (GTimersTable.mk b1.1 b1.2)

def m24_l13_grown_k4 (a0 : List GL13Act) (s2 : Int × Int × (List GTimersTimer)) (u3 : GL13Act) (b4 : Bool) : Option (LB (Int × Int × (List GTimersTimer)) (Int × (List GTimersTimer))) :=
  if b4 then ((idx a0 s2.1).bind fun u5 => (idx a0 s2.1).bind fun u6 => (m9_timers_Set (GTimersTable.mk s2.2.1 s2.2.2) u5.ID u6.N).bind fun v7 => if (decide (v7.2 = 0)) then (some (.cont ((wI (s2.1 + 1)), v7.1.Now, v7.1.L))) else (some (.cont ((wI (s2.1 + 1)), s2.2.1, s2.2.2)))) else (if (decide (u3.What = 2)) then ((idx a0 s2.1).bind fun u8 => (m22_timers_Clear (GTimersTable.mk s2.2.1 s2.2.2) u8.ID).bind fun v9 => some (.cont ((wI (s2.1 + 1)), v9.Now, v9.L))) else (if (decide (u3.What = 3)) then ((idx a0 s2.1).bind fun u10 => (m11_timers_Tick (GTimersTable.mk s2.2.1 s2.2.2) u10.N).bind fun v11 => if (decide (v11.2.2 = 0)) then (some (.cont ((wI (s2.1 + 1)), v11.1.Now, v11.1.L))) else (some (.cont ((wI (s2.1 + 1)), s2.2.1, s2.2.2)))) else (some (.cont ((wI (s2.1 + 1)), s2.2.1, s2.2.2)))))

def m24_l13_grown_s2 (a0 : List GL13Act) (s2 : Int × Int × (List GTimersTimer)) : Option (LB (Int × Int × (List GTimersTimer)) (Int × (List GTimersTimer))) :=
  if (decide (s2.1 < (a0.length : Int))) then ((idx a0 s2.1).bind fun u3 => if (decide (u3.What = 0)) then (m24_l13_grown_k4 a0 s2 u3 (decide (u3.What = 0))) else (m24_l13_grown_k4 a0 s2 u3 (decide (u3.What = 1)))) else (some (.brk (s2.2.1, s2.2.2)))
def m24_l13_grown (a0 : List GL13Act) : Option GTimersTable :=
  (iterB (m24_l13_grown_s2 a0) fuel (0, 0, ([] : List GTimersTimer))).bind fun e12 => m24_l13_grown_k1 e12

set_option maxRecDepth 100000 in
theorem m24_l13_grown_c {a0 : List GL13Act} {r : GTimersTable} (h : m24_l13_grown a0 = some r) : CallsA Try.prog 24 [.one (.sl a0.length (a0.flatMap eGL13Act))] (· = .s (.agg r)) := by
  unfold m24_l13_grown at h
  refine callsA_of Try.func24 rfl (nt := 69) rfl (Nat.le_of_ble_eq_true rfl) ?_
  intro w0 S0
  refine cseq ?_
  refine cregion ?_
  refine salloc rfl zi28 ?_
  refine snil ?_
  refine cseq ?_
  refine cregion ?_
  refine sv rfl (opv_build zi28 pi28 parts_nil (.nil _)) ?_
  refine salloc rfl zi28 ?_
  refine sstore sz28 rfl rfl rfl rfl (Nat.le_of_ble_eq_true rfl) ?_
  refine smem [.box [.i .i64 0, .raw (.slice none 0 0)], .box [.i .i64 0, .raw (.slice none 0 0)]] rfl ?_
  refine snil ?_
  refine cseq ?_
  refine cseq ?_
  refine cregion ?_
  refine sv rfl (opv_as rfl) ?_
  refine snil ?_
  refine cjoin (Int × (List GTimersTimer)) (fun b1 => [(2, .s (.one (.lp 0 0))), (3, .s (.one (.lp 1 0)))]) (fun b1 => [.box [.i .i64 0, .raw (.slice none 0 0)], .box [.i .i64 b1.1, .sl b1.2.length (b1.2.flatMap eGTimersTimer)]]) (fun b1 => m24_l13_grown_k1 b1 = some r) (fun _ _ => inbL_of rfl) (fun _ _ => blkinb_of rfl) (fun _ _ => Nat.le_of_ble_eq_true rfl) (fun b1 h => ?_) ?_
  · unfold m24_l13_grown_k1 at h
    refine cseq ?_
    refine cregion ?_
    refine sv rfl (opv_loadN ti28 rfl (.lp _ _ _ rfl) (Nat.le_of_ble_eq_true rfl)) ?_
    refine sstore sz28 rfl rfl rfl rfl (Nat.le_of_ble_eq_true rfl) ?_
    refine smem [.box [.i .i64 b1.1, .sl b1.2.length (b1.2.flatMap eGTimersTimer)], .box [.i .i64 b1.1, .sl b1.2.length (b1.2.flatMap eGTimersTimer)]] rfl ?_
    refine snil ?_
    refine cret ?_
    obtain rfl := Option.some.inj h
    refine ⟨Or.inr rfl, _, _, _, (resVs_cons (ResV.agg _ _ _ _ _ ti28 rfl (.lp _ _ _ rfl) (Nat.le_of_ble_eq_true rfl)) resVs_nil), (pubA_id rfl), ?_⟩
    rfl
  · skip
    refine cblock ?_
    refine cpubbox 1 1 rfl rfl PubL.nil rfl ?_
    obtain ⟨x2, hx2, ho2⟩ := bind_eq h
    refine awc_loop (G := Nat × (Int × Int × (List GTimersTimer))) (fun g => [(0, .s (.one (.sl a0.length (a0.flatMap eGL13Act)))), (2, .s (.one (.lp 0 0))), (3, .s (.one (.lp 1 0))), (4, .s (.one (.i .i64 g.2.1)))]) (fun g => [.box [.i .i64 0, .raw (.slice none 0 0)], .box [.i .i64 g.2.2.1, .sl g.2.2.2.length (g.2.2.2.flatMap eGTimersTimer)]]) (fun g => iterB (m24_l13_grown_s2 a0) g.1 g.2 = some x2) (fun g => g.1) (fuel, (0, 0, ([] : List GTimersTimer))) hx2 ⟨rfl, rfl, rfl, rfl, trivial⟩ [] rfl (fun _ _ => inbL_of rfl) (fun _ _ => blkinb_of rfl) (fun _ _ => Nat.le_of_ble_eq_true rfl) ?_
    clear hx2 h
    rintro ⟨n2, s2⟩ h
    obtain ⟨n2, y2, rfl, h, hk2⟩ := iterB_eq h
    unfold m24_l13_grown_s2 at h
    refine cseq ?_
    refine cseq ?_
    refine cregion ?_
    refine sv rfl (opv_mv rfl) ?_
    refine sv rfl (opv_mv rfl) ?_
    refine sv rfl (opv_len_sl si53 rfl) ?_
    refine sv rfl (opv_lss rfl rfl) ?_
    refine snil ?_
    refine ccond rfl (fun hc => ?_) (fun hc => ?_)
    · replace h := ite_t hc h
      clear hc
      refine cskip ?_
      refine then_normal ?_
      refine cseq ?_
      refine cblock ?_
      refine cseq ?_
      refine cregion ?_
      refine sv rfl (opv_mv rfl) ?_
      refine sv rfl (opv_mv rfl) ?_
      obtain ⟨u3, hu3, h⟩ := bind_eq h
      refine sv rfl (opv_ix (f := eGL13Act) si53 (fun _ => rfl) rfl rfl rfl rfl hu3) ?_
      refine sv rfl (opv_fieldAddr_cp fi69_0 rfl) ?_
      refine sv rfl (opv_load1 ti3 rfl (.cp _) rfl) ?_
      refine snil ?_
      refine cblock ?_
      refine cseq ?_
      refine cseq ?_
      refine cregion ?_
      refine sv rfl (opv_ieql rfl rfl) ?_
      refine sv rfl (opv_as rfl) ?_
      refine snil ?_
      refine cjoin (Bool) (fun b4 => [(0, .s (.one (.sl a0.length (a0.flatMap eGL13Act)))), (2, .s (.one (.lp 0 0))), (3, .s (.one (.lp 1 0))), (4, .s (.one (.i .i64 s2.1))), (21, .s (.one (.i .i64 u3.What))), (22, .s (.one (.b b4)))]) (fun b4 => [.box [.i .i64 0, .raw (.slice none 0 0)], .box [.i .i64 s2.2.1, .sl s2.2.2.length (s2.2.2.flatMap eGTimersTimer)]]) (fun b4 => m24_l13_grown_k4 a0 s2 u3 b4 = some y2) (fun _ _ => inbL_of rfl) (fun _ _ => blkinb_of rfl) (fun _ _ => Nat.le_of_ble_eq_true rfl) (fun b4 h => ?_) ?_
      · unfold m24_l13_grown_k4 at h
        refine ccond rfl (fun hc => ?_) (fun hc => ?_)
        · replace h := ite_t hc h
          clear hc
          refine cseq ?_
          refine chole ?_
          obtain ⟨u5, hu5, h⟩ := bind_eq h
          obtain ⟨u6, hu6, h⟩ := bind_eq h
          obtain ⟨v7, hv7, h⟩ := bind_eq h
          refine cdraw_e [15, 16] [0, 0, 0, 6, 14, 30, 0, 0, 192, 448, 960, 2047, 4095, 8191, 8191, 0, 49151, 131071] [[.box [.i .i64 0, .raw (.slice none 0 0)], .box [.i .i64 s2.2.1, .sl s2.2.2.length (s2.2.2.flatMap eGTimersTimer)], .hole], [.box [.i .i64 0, .raw (.slice none 0 0)], .box [.i .i64 s2.2.1, .sl s2.2.2.length (s2.2.2.flatMap eGTimersTimer)], .box [.i .i64 0, .raw (.slice none 0 0)]], [.box [.i .i64 0, .raw (.slice none 0 0)], .box [.i .i64 s2.2.1, .sl s2.2.2.length (s2.2.2.flatMap eGTimersTimer)], .box v7.1]] (by kernel_rfl) mixed (by kernel_rfl) (by decide) rfl rfl rfl rfl ?_
          refine ev (sees_all (md := [.box [.i .i64 0, .raw (.slice none 0 0)], .box [.i .i64 s2.2.1, .sl s2.2.2.length (s2.2.2.flatMap eGTimersTimer)], .dead]) ⟨⟨rfl, ⟨rfl, ⟨trivial, trivial⟩⟩⟩, ⟨⟨rfl, ⟨rfl, ⟨trivial, trivial⟩⟩⟩, ⟨⟨rfl, ⟨rfl, ⟨trivial, trivial⟩⟩⟩, trivial⟩⟩⟩) rfl rfl (opv_loadN ti28 rfl (.lp _ _ _ rfl) (Nat.le_of_ble_eq_true rfl)) ?_
          refine emv rfl rfl (fun _ => opv_mv rfl) ?_
          refine emv rfl rfl (fun _ => opv_mv rfl) ?_
          refine ev (sees_all (md := [.box [.i .i64 0, .raw (.slice none 0 0)], .box [.i .i64 s2.2.1, .sl s2.2.2.length (s2.2.2.flatMap eGTimersTimer)], .dead]) ⟨⟨rfl, ⟨rfl, ⟨trivial, trivial⟩⟩⟩, ⟨⟨rfl, ⟨rfl, ⟨trivial, trivial⟩⟩⟩, ⟨⟨rfl, ⟨rfl, ⟨trivial, trivial⟩⟩⟩, trivial⟩⟩⟩) rfl rfl (opv_ix (f := eGL13Act) si53 (fun _ => rfl) rfl rfl rfl rfl hu5) ?_
          refine ev (sees_all (md := [.box [.i .i64 0, .raw (.slice none 0 0)], .box [.i .i64 s2.2.1, .sl s2.2.2.length (s2.2.2.flatMap eGTimersTimer)], .dead]) ⟨⟨rfl, ⟨rfl, ⟨trivial, trivial⟩⟩⟩, ⟨⟨rfl, ⟨rfl, ⟨trivial, trivial⟩⟩⟩, ⟨⟨rfl, ⟨rfl, ⟨trivial, trivial⟩⟩⟩, trivial⟩⟩⟩) rfl rfl (opv_fieldAddr_cp fi69_1 rfl) ?_
          refine ev (sees_all (md := [.box [.i .i64 0, .raw (.slice none 0 0)], .box [.i .i64 s2.2.1, .sl s2.2.2.length (s2.2.2.flatMap eGTimersTimer)], .dead]) ⟨⟨rfl, ⟨rfl, ⟨trivial, trivial⟩⟩⟩, ⟨⟨rfl, ⟨rfl, ⟨trivial, trivial⟩⟩⟩, ⟨⟨rfl, ⟨rfl, ⟨trivial, trivial⟩⟩⟩, trivial⟩⟩⟩) rfl rfl (opv_load1 ti3 rfl (.cp _) rfl) ?_
          refine emv rfl rfl (fun _ => opv_mv rfl) ?_
          refine emv rfl rfl (fun _ => opv_mv rfl) ?_
          refine ev (sees_all (md := [.box [.i .i64 0, .raw (.slice none 0 0)], .box [.i .i64 s2.2.1, .sl s2.2.2.length (s2.2.2.flatMap eGTimersTimer)], .dead]) ⟨⟨rfl, ⟨rfl, ⟨trivial, trivial⟩⟩⟩, ⟨⟨rfl, ⟨rfl, ⟨trivial, trivial⟩⟩⟩, ⟨⟨rfl, ⟨rfl, ⟨trivial, trivial⟩⟩⟩, trivial⟩⟩⟩) rfl rfl (opv_ix (f := eGL13Act) si53 (fun _ => rfl) rfl rfl rfl rfl hu6) ?_
          refine ev (sees_all (md := [.box [.i .i64 0, .raw (.slice none 0 0)], .box [.i .i64 s2.2.1, .sl s2.2.2.length (s2.2.2.flatMap eGTimersTimer)], .dead]) ⟨⟨rfl, ⟨rfl, ⟨trivial, trivial⟩⟩⟩, ⟨⟨rfl, ⟨rfl, ⟨trivial, trivial⟩⟩⟩, ⟨⟨rfl, ⟨rfl, ⟨trivial, trivial⟩⟩⟩, trivial⟩⟩⟩) rfl rfl (opv_fieldAddr_cp fi69_2 rfl) ?_
          refine ev (sees_all (md := [.box [.i .i64 0, .raw (.slice none 0 0)], .box [.i .i64 s2.2.1, .sl s2.2.2.length (s2.2.2.flatMap eGTimersTimer)], .dead]) ⟨⟨rfl, ⟨rfl, ⟨trivial, trivial⟩⟩⟩, ⟨⟨rfl, ⟨rfl, ⟨trivial, trivial⟩⟩⟩, ⟨⟨rfl, ⟨rfl, ⟨trivial, trivial⟩⟩⟩, trivial⟩⟩⟩) rfl rfl (opv_load1 ti3 rfl (.cp _) rfl) ?_
          refine ed (sees_all (md := [.box [.i .i64 0, .raw (.slice none 0 0)], .box [.i .i64 s2.2.1, .sl s2.2.2.length (s2.2.2.flatMap eGTimersTimer)], .dead]) ⟨⟨rfl, ⟨rfl, ⟨trivial, trivial⟩⟩⟩, ⟨⟨rfl, ⟨rfl, ⟨trivial, trivial⟩⟩⟩, ⟨⟨rfl, ⟨rfl, ⟨trivial, trivial⟩⟩⟩, trivial⟩⟩⟩) rfl rfl (opD_call fn9 (opnds_cons rfl (opnds_cons rfl (opnds_cons rfl opnds_nil))) rfl (m9_timers_Set_c hv7)) ?_
          refine emv rfl rfl (fun _ => opv_mvt rfl) ?_
          refine ev (sees_all (md := [.box [.i .i64 0, .raw (.slice none 0 0)], .box [.i .i64 s2.2.1, .sl s2.2.2.length (s2.2.2.flatMap eGTimersTimer)], .dead]) ⟨⟨rfl, ⟨rfl, ⟨trivial, trivial⟩⟩⟩, ⟨⟨rfl, ⟨rfl, ⟨trivial, trivial⟩⟩⟩, ⟨⟨rfl, ⟨rfl, ⟨trivial, trivial⟩⟩⟩, trivial⟩⟩⟩) rfl rfl (opv_extract rfl rfl) ?_
          refine ev (sees_all (md := [.box [.i .i64 0, .raw (.slice none 0 0)], .box [.i .i64 s2.2.1, .sl s2.2.2.length (s2.2.2.flatMap eGTimersTimer)], .dead]) ⟨⟨rfl, ⟨rfl, ⟨trivial, trivial⟩⟩⟩, ⟨⟨rfl, ⟨rfl, ⟨trivial, trivial⟩⟩⟩, ⟨⟨rfl, ⟨rfl, ⟨trivial, trivial⟩⟩⟩, trivial⟩⟩⟩) rfl rfl (opv_extract rfl rfl) ?_
          refine ee (x := .s (.one (.lp 2 0))) 0 rfl rfl rfl rfl rfl (fun ζ => ?_) ?_
          · refine salloc_at 2 rfl zi28 rfl ?_
            exact eend
          refine ee0 1 rfl rfl rfl rfl (fun ζ => ?_) ?_
          · refine sstore sz28 rfl rfl rfl rfl (Nat.le_of_ble_eq_true rfl) ?_
            refine smem [.box [.i .i64 0, .raw (.slice none 0 0)], .box [.i .i64 s2.2.1, .sl s2.2.2.length (s2.2.2.flatMap eGTimersTimer)], .box v7.1] rfl ?_
            exact eend
          refine ev (sees_at 2 rfl rfl) rfl rfl (opv_as rfl) ?_
          refine enil ?_
          refine then_normal ?_
          refine cseq ?_
          refine cregion ?_
          refine sv rfl (opv_mv rfl) ?_
          refine sv rfl (opv_ieql rfl rfl) ?_
          refine snil ?_
          refine ccond rfl (fun hc => ?_) (fun hc => ?_)
          · replace h := ite_t hc h
            clear hc
            refine cregion ?_
            refine sv rfl (opv_loadN ti28 rfl (.lp _ _ _ rfl) (Nat.le_of_ble_eq_true rfl)) ?_
            refine sstore sz28 rfl rfl rfl rfl (Nat.le_of_ble_eq_true rfl) ?_
            refine smem [.box [.i .i64 0, .raw (.slice none 0 0)], .box v7.1, .box v7.1] rfl ?_
            refine snil0 ?_
            refine block_normal ?_
            refine block_normal ?_
            refine then_normal ?_
            refine cregion ?_
            refine sv rfl (opv_mv rfl) ?_
            refine sv rfl (opv_add rfl rfl) ?_
            refine sv rfl (opv_as rfl) ?_
            refine snil ?_
            obtain rfl := Option.some.inj h
            exact ⟨(n2, ((wI (s2.1 + 1)), v7.1.Now, v7.1.L)), _, hk2, ⟨rfl, rfl, rfl, rfl, trivial⟩, rfl, Nat.lt_succ_self _⟩
          · replace h := ite_f hc h
            clear hc
            refine cskip ?_
            refine block_normal ?_
            refine block_normal ?_
            refine then_normal ?_
            refine cregion ?_
            refine sv rfl (opv_mv rfl) ?_
            refine sv rfl (opv_add rfl rfl) ?_
            refine sv rfl (opv_as rfl) ?_
            refine snil ?_
            obtain rfl := Option.some.inj h
            exact ⟨(n2, ((wI (s2.1 + 1)), s2.2.1, s2.2.2)), _, hk2, ⟨rfl, rfl, rfl, rfl, trivial⟩, rfl, Nat.lt_succ_self _⟩
        · replace h := ite_f hc h
          clear hc
          refine cseq ?_
          refine cregion ?_
          refine sv rfl (opv_ieql rfl rfl) ?_
          refine sv rfl (opv_as rfl) ?_
          refine snil ?_
          refine ccond rfl (fun hc => ?_) (fun hc => ?_)
          · replace h := ite_t hc h
            clear hc
            obtain ⟨u8, hu8, h⟩ := bind_eq h
            obtain ⟨v9, hv9, h⟩ := bind_eq h
            refine cdraw_e [7] [0, 0, 0, 6, 14, 30, 63, 127] [[.box [.i .i64 0, .raw (.slice none 0 0)], .box [.i .i64 s2.2.1, .sl s2.2.2.length (s2.2.2.flatMap eGTimersTimer)]], [.box [.i .i64 0, .raw (.slice none 0 0)], .box v9]] (by kernel_rfl) mixed (by kernel_rfl) (by decide) rfl rfl rfl rfl ?_
            refine ev (sees_at 0 rfl rfl) rfl rfl (opv_loadN ti28 rfl (.lp _ _ _ rfl) (Nat.le_of_ble_eq_true rfl)) ?_
            refine ev (sees_at 0 rfl rfl) rfl rfl (opv_mv rfl) ?_
            refine ev (sees_at 0 rfl rfl) rfl rfl (opv_mv rfl) ?_
            refine ev (sees_at 0 rfl rfl) rfl rfl (opv_ix (f := eGL13Act) si53 (fun _ => rfl) rfl rfl rfl rfl hu8) ?_
            refine ev (sees_at 0 rfl rfl) rfl rfl (opv_fieldAddr_cp fi69_1 rfl) ?_
            refine ev (sees_at 0 rfl rfl) rfl rfl (opv_load1 ti3 rfl (.cp _) rfl) ?_
            refine ed (sees_at 0 rfl rfl) rfl rfl (opD_call fn22 (opnds_cons rfl (opnds_cons rfl opnds_nil)) rfl (m22_timers_Clear_c hv9)) ?_
            refine ee0 0 rfl rfl rfl rfl (fun ζ => ?_) ?_
            · refine sstore sz28 rfl rfl rfl rfl (Nat.le_of_ble_eq_true rfl) ?_
              refine smem [.box [.i .i64 0, .raw (.slice none 0 0)], .box v9] rfl ?_
              exact eend
            refine enil ?_
            refine block_normal ?_
            refine block_normal ?_
            refine then_normal ?_
            refine cregion ?_
            refine sv rfl (opv_mv rfl) ?_
            refine sv rfl (opv_add rfl rfl) ?_
            refine sv rfl (opv_as rfl) ?_
            refine snil ?_
            obtain rfl := Option.some.inj h
            exact ⟨(n2, ((wI (s2.1 + 1)), v9.Now, v9.L)), _, hk2, ⟨rfl, rfl, rfl, rfl, trivial⟩, rfl, Nat.lt_succ_self _⟩
          · replace h := ite_f hc h
            clear hc
            refine cseq ?_
            refine cregion ?_
            refine sv rfl (opv_ieql rfl rfl) ?_
            refine sv rfl (opv_as rfl) ?_
            refine snil ?_
            refine ccond rfl (fun hc => ?_) (fun hc => ?_)
            · replace h := ite_t hc h
              clear hc
              refine cseq ?_
              refine chole ?_
              obtain ⟨u10, hu10, h⟩ := bind_eq h
              obtain ⟨v11, hv11, h⟩ := bind_eq h
              refine cdraw_e [11, 12] [0, 0, 0, 6, 14, 30, 63, 127, 255, 255, 255, 0, 2559, 7167, 16383] [[.box [.i .i64 0, .raw (.slice none 0 0)], .box [.i .i64 s2.2.1, .sl s2.2.2.length (s2.2.2.flatMap eGTimersTimer)], .hole], [.box [.i .i64 0, .raw (.slice none 0 0)], .box [.i .i64 s2.2.1, .sl s2.2.2.length (s2.2.2.flatMap eGTimersTimer)], .box [.i .i64 0, .raw (.slice none 0 0)]], [.box [.i .i64 0, .raw (.slice none 0 0)], .box [.i .i64 s2.2.1, .sl s2.2.2.length (s2.2.2.flatMap eGTimersTimer)], .box v11.1]] (by kernel_rfl) mixed (by kernel_rfl) (by decide) rfl rfl rfl rfl ?_
              refine ev (sees_all (md := [.box [.i .i64 0, .raw (.slice none 0 0)], .box [.i .i64 s2.2.1, .sl s2.2.2.length (s2.2.2.flatMap eGTimersTimer)], .dead]) ⟨⟨rfl, ⟨rfl, ⟨trivial, trivial⟩⟩⟩, ⟨⟨rfl, ⟨rfl, ⟨trivial, trivial⟩⟩⟩, ⟨⟨rfl, ⟨rfl, ⟨trivial, trivial⟩⟩⟩, trivial⟩⟩⟩) rfl rfl (opv_loadN ti28 rfl (.lp _ _ _ rfl) (Nat.le_of_ble_eq_true rfl)) ?_
              refine emv rfl rfl (fun _ => opv_mv rfl) ?_
              refine emv rfl rfl (fun _ => opv_mv rfl) ?_
              refine ev (sees_all (md := [.box [.i .i64 0, .raw (.slice none 0 0)], .box [.i .i64 s2.2.1, .sl s2.2.2.length (s2.2.2.flatMap eGTimersTimer)], .dead]) ⟨⟨rfl, ⟨rfl, ⟨trivial, trivial⟩⟩⟩, ⟨⟨rfl, ⟨rfl, ⟨trivial, trivial⟩⟩⟩, ⟨⟨rfl, ⟨rfl, ⟨trivial, trivial⟩⟩⟩, trivial⟩⟩⟩) rfl rfl (opv_ix (f := eGL13Act) si53 (fun _ => rfl) rfl rfl rfl rfl hu10) ?_
              refine ev (sees_all (md := [.box [.i .i64 0, .raw (.slice none 0 0)], .box [.i .i64 s2.2.1, .sl s2.2.2.length (s2.2.2.flatMap eGTimersTimer)], .dead]) ⟨⟨rfl, ⟨rfl, ⟨trivial, trivial⟩⟩⟩, ⟨⟨rfl, ⟨rfl, ⟨trivial, trivial⟩⟩⟩, ⟨⟨rfl, ⟨rfl, ⟨trivial, trivial⟩⟩⟩, trivial⟩⟩⟩) rfl rfl (opv_fieldAddr_cp fi69_2 rfl) ?_
              refine ev (sees_all (md := [.box [.i .i64 0, .raw (.slice none 0 0)], .box [.i .i64 s2.2.1, .sl s2.2.2.length (s2.2.2.flatMap eGTimersTimer)], .dead]) ⟨⟨rfl, ⟨rfl, ⟨trivial, trivial⟩⟩⟩, ⟨⟨rfl, ⟨rfl, ⟨trivial, trivial⟩⟩⟩, ⟨⟨rfl, ⟨rfl, ⟨trivial, trivial⟩⟩⟩, trivial⟩⟩⟩) rfl rfl (opv_load1 ti3 rfl (.cp _) rfl) ?_
              refine ed (sees_all (md := [.box [.i .i64 0, .raw (.slice none 0 0)], .box [.i .i64 s2.2.1, .sl s2.2.2.length (s2.2.2.flatMap eGTimersTimer)], .dead]) ⟨⟨rfl, ⟨rfl, ⟨trivial, trivial⟩⟩⟩, ⟨⟨rfl, ⟨rfl, ⟨trivial, trivial⟩⟩⟩, ⟨⟨rfl, ⟨rfl, ⟨trivial, trivial⟩⟩⟩, trivial⟩⟩⟩) rfl rfl (opD_call fn11 (opnds_cons rfl (opnds_cons rfl opnds_nil)) rfl (m11_timers_Tick_c hv11)) ?_
              refine emv rfl rfl (fun _ => opv_mvt rfl) ?_
              refine ev (sees_all (md := [.box [.i .i64 0, .raw (.slice none 0 0)], .box [.i .i64 s2.2.1, .sl s2.2.2.length (s2.2.2.flatMap eGTimersTimer)], .dead]) ⟨⟨rfl, ⟨rfl, ⟨trivial, trivial⟩⟩⟩, ⟨⟨rfl, ⟨rfl, ⟨trivial, trivial⟩⟩⟩, ⟨⟨rfl, ⟨rfl, ⟨trivial, trivial⟩⟩⟩, trivial⟩⟩⟩) rfl rfl (opv_extract rfl rfl) ?_
              refine ev (sees_all (md := [.box [.i .i64 0, .raw (.slice none 0 0)], .box [.i .i64 s2.2.1, .sl s2.2.2.length (s2.2.2.flatMap eGTimersTimer)], .dead]) ⟨⟨rfl, ⟨rfl, ⟨trivial, trivial⟩⟩⟩, ⟨⟨rfl, ⟨rfl, ⟨trivial, trivial⟩⟩⟩, ⟨⟨rfl, ⟨rfl, ⟨trivial, trivial⟩⟩⟩, trivial⟩⟩⟩) rfl rfl (opv_extract rfl rfl) ?_
              refine ev (sees_all (md := [.box [.i .i64 0, .raw (.slice none 0 0)], .box [.i .i64 s2.2.1, .sl s2.2.2.length (s2.2.2.flatMap eGTimersTimer)], .dead]) ⟨⟨rfl, ⟨rfl, ⟨trivial, trivial⟩⟩⟩, ⟨⟨rfl, ⟨rfl, ⟨trivial, trivial⟩⟩⟩, ⟨⟨rfl, ⟨rfl, ⟨trivial, trivial⟩⟩⟩, trivial⟩⟩⟩) rfl rfl (opv_extract rfl rfl) ?_
              refine ee (x := .s (.one (.lp 2 0))) 0 rfl rfl rfl rfl rfl (fun ζ => ?_) ?_
              · refine salloc_at 2 rfl zi28 rfl ?_
                exact eend
              refine ee0 1 rfl rfl rfl rfl (fun ζ => ?_) ?_
              · refine sstore sz28 rfl rfl rfl rfl (Nat.le_of_ble_eq_true rfl) ?_
                refine smem [.box [.i .i64 0, .raw (.slice none 0 0)], .box [.i .i64 s2.2.1, .sl s2.2.2.length (s2.2.2.flatMap eGTimersTimer)], .box v11.1] rfl ?_
                exact eend
              refine ev (sees_at 2 rfl rfl) rfl rfl (opv_as rfl) ?_
              refine ev (sees_at 2 rfl rfl) rfl rfl (opv_as rfl) ?_
              refine enil ?_
              refine then_normal ?_
              refine cseq ?_
              refine cregion ?_
              refine sv rfl (opv_mv rfl) ?_
              refine sv rfl (opv_ieql rfl rfl) ?_
              refine snil ?_
              refine ccond rfl (fun hc => ?_) (fun hc => ?_)
              · replace h := ite_t hc h
                clear hc
                refine cregion ?_
                refine sv rfl (opv_loadN ti28 rfl (.lp _ _ _ rfl) (Nat.le_of_ble_eq_true rfl)) ?_
                refine sstore sz28 rfl rfl rfl rfl (Nat.le_of_ble_eq_true rfl) ?_
                refine smem [.box [.i .i64 0, .raw (.slice none 0 0)], .box v11.1, .box v11.1] rfl ?_
                refine snil0 ?_
                refine block_normal ?_
                refine block_normal ?_
                refine then_normal ?_
                refine cregion ?_
                refine sv rfl (opv_mv rfl) ?_
                refine sv rfl (opv_add rfl rfl) ?_
                refine sv rfl (opv_as rfl) ?_
                refine snil ?_
                obtain rfl := Option.some.inj h
                exact ⟨(n2, ((wI (s2.1 + 1)), v11.1.Now, v11.1.L)), _, hk2, ⟨rfl, rfl, rfl, rfl, trivial⟩, rfl, Nat.lt_succ_self _⟩
              · replace h := ite_f hc h
                clear hc
                refine cskip ?_
                refine block_normal ?_
                refine block_normal ?_
                refine then_normal ?_
                refine cregion ?_
                refine sv rfl (opv_mv rfl) ?_
                refine sv rfl (opv_add rfl rfl) ?_
                refine sv rfl (opv_as rfl) ?_
                refine snil ?_
                obtain rfl := Option.some.inj h
                exact ⟨(n2, ((wI (s2.1 + 1)), s2.2.1, s2.2.2)), _, hk2, ⟨rfl, rfl, rfl, rfl, trivial⟩, rfl, Nat.lt_succ_self _⟩
            · replace h := ite_f hc h
              clear hc
              refine cskip ?_
              refine block_normal ?_
              refine block_normal ?_
              refine then_normal ?_
              refine cregion ?_
              refine sv rfl (opv_mv rfl) ?_
              refine sv rfl (opv_add rfl rfl) ?_
              refine sv rfl (opv_as rfl) ?_
              refine snil ?_
              obtain rfl := Option.some.inj h
              exact ⟨(n2, ((wI (s2.1 + 1)), s2.2.1, s2.2.2)), _, hk2, ⟨rfl, rfl, rfl, rfl, trivial⟩, rfl, Nat.lt_succ_self _⟩
      · skip
        refine ccond rfl (fun hc => ?_) (fun hc => ?_)
        · replace h := ite_t hc h
          clear hc
          refine cskip ?_
          refine then_normal ?_
          exact ⟨(decide (u3.What = 0)), _, h, ⟨rfl, rfl, rfl, rfl, rfl, rfl, trivial⟩, rfl⟩
        · replace h := ite_f hc h
          clear hc
          refine cregion ?_
          refine sv rfl (opv_ieql rfl rfl) ?_
          refine sv rfl (opv_as rfl) ?_
          refine snil ?_
          exact ⟨(decide (u3.What = 1)), _, h, ⟨rfl, rfl, rfl, rfl, rfl, rfl, trivial⟩, rfl⟩
    · replace h := ite_f hc h
      clear hc
      refine cexit ?_
      refine then_exit ?_
      refine then_exit ?_
      refine block_hit ?_
      refine then_normal ?_
      obtain rfl := Option.some.inj h
      obtain rfl : _ = x2 := hk2
      exact ⟨(s2.2.1, s2.2.2), _, ho2, ⟨rfl, rfl, trivial⟩, rfl⟩

set_option maxRecDepth 100000 in
def m25_l13_has_k1 (b1 : Unit) : Option Bool :=
  some false

def m25_l13_has_s2 (a0 : List Int) (a1 : Int) (s2 : Int) : Option (LR (Int) (Unit) (Bool)) :=
  if (decide (s2 < (a0.length : Int))) then ((idx a0 s2).bind fun u3 => if (decide (u3 = a1)) then (some (.ret true)) else (some (.cont (wI (s2 + 1))))) else (some (.brk ()))
def m25_l13_has (a0 : List Int) (a1 : Int) : Option Bool :=
  (iter (m25_l13_has_s2 a0 a1) fuel 0).bind fun x => match x with | .inl r => some r | .inr e4 => m25_l13_has_k1 e4

omit [TickC] in
set_option maxRecDepth 100000 in
theorem m25_l13_has_c {a0 : List Int} {a1 : Int} {r : Bool} (h : m25_l13_has a0 a1 = some r) : CallsA Try.prog 25 [.one (.sl a0.length (a0.flatMap eI)), .one (.i .i64 a1)] (· = .s (.one (.b r))) := by
  unfold m25_l13_has at h
  refine callsA_of Try.func25 rfl (nt := 18) rfl (Nat.le_of_ble_eq_true rfl) ?_
  intro w0 S0
  refine cseq ?_
  refine cregion ?_
  refine sv rfl (opv_as rfl) ?_
  refine snil ?_
  refine cseq ?_
  refine cseq ?_
  refine cregion ?_
  refine sv rfl (opv_as rfl) ?_
  refine snil ?_
  refine cjoin (Unit) (fun b1 => []) (fun b1 => []) (fun b1 => m25_l13_has_k1 b1 = some r) (fun _ _ => inbL_of rfl) (fun _ _ => blkinb_of rfl) (fun _ _ => Nat.le_of_ble_eq_true rfl) (fun b1 h => ?_) ?_
  · unfold m25_l13_has_k1 at h
    refine cseq ?_
    refine cregion ?_
    refine sv rfl (opv_as rfl) ?_
    refine snil ?_
    refine cret ?_
    obtain rfl := Option.some.inj h
    refine ⟨Or.inr rfl, _, _, _, (resVs_cons (ResV.tmp _ _ rfl) resVs_nil), (pubA_id rfl), ?_⟩
    rfl
  · skip
    refine cblock ?_
    obtain ⟨x2, hx2, ho2⟩ := bind_eq h
    refine awc_loop (G := Nat × (Int)) (fun g => [(0, .s (.one (.sl a0.length (a0.flatMap eI)))), (1, .s (.one (.i .i64 a1))), (5, .s (.one (.i .i64 g.2)))]) (fun g => []) (fun g => iter (m25_l13_has_s2 a0 a1) g.1 g.2 = some x2) (fun g => g.1) (fuel, 0) hx2 ⟨rfl, rfl, rfl, trivial⟩ [] rfl (fun _ _ => inbL_of rfl) (fun _ _ => blkinb_of rfl) (fun _ _ => Nat.le_of_ble_eq_true rfl) ?_
    clear hx2 h
    rintro ⟨n2, s2⟩ h
    obtain ⟨n2, y2, rfl, h, hk2⟩ := iter_eq h
    unfold m25_l13_has_s2 at h
    refine cseq ?_
    refine cseq ?_
    refine cregion ?_
    refine sv rfl (opv_mv rfl) ?_
    refine sv rfl (opv_mv rfl) ?_
    refine sv rfl (opv_len_sl si35 rfl) ?_
    refine sv rfl (opv_lss rfl rfl) ?_
    refine snil ?_
    refine ccond rfl (fun hc => ?_) (fun hc => ?_)
    · replace h := ite_t hc h
      clear hc
      refine cskip ?_
      refine then_normal ?_
      refine cseq ?_
      refine cblock ?_
      refine cseq ?_
      refine cregion ?_
      refine sv rfl (opv_mv rfl) ?_
      refine sv rfl (opv_mv rfl) ?_
      obtain ⟨u3, hu3, h⟩ := bind_eq h
      refine sv rfl (opv_ix (f := eI) si35 (fun _ => rfl) rfl rfl rfl rfl hu3) ?_
      refine sv rfl (opv_load1 ti3 rfl (.cp _) rfl) ?_
      refine sv rfl (opv_mv rfl) ?_
      refine sv rfl (opv_ieql rfl rfl) ?_
      refine snil ?_
      refine ccond rfl (fun hc => ?_) (fun hc => ?_)
      · replace h := ite_t hc h
        clear hc
        refine cseq ?_
        refine cregion ?_
        refine sv rfl (opv_as rfl) ?_
        refine snil ?_
        refine cret ?_
        refine block_ret ?_
        refine then_ret ?_
        refine then_ret ?_
        refine block_ret ?_
        refine then_ret ?_
        obtain rfl := Option.some.inj h
        obtain rfl : Sum.inl _ = x2 := hk2
        replace ho2 : some _ = some _ := ho2
        obtain rfl := Option.some.inj ho2
        refine ⟨Or.inr rfl, _, _, _, (resVs_cons (ResV.tmp _ _ rfl) resVs_nil), (pubA_id rfl), ?_⟩
        rfl
      · replace h := ite_f hc h
        clear hc
        refine cskip ?_
        refine block_normal ?_
        refine then_normal ?_
        refine cregion ?_
        refine sv rfl (opv_mv rfl) ?_
        refine sv rfl (opv_add rfl rfl) ?_
        refine sv rfl (opv_as rfl) ?_
        refine snil ?_
        obtain rfl := Option.some.inj h
        exact ⟨(n2, (wI (s2 + 1))), _, hk2, ⟨rfl, rfl, rfl, trivial⟩, rfl, Nat.lt_succ_self _⟩
    · replace h := ite_f hc h
      clear hc
      refine cexit ?_
      refine then_exit ?_
      refine then_exit ?_
      refine block_hit ?_
      refine then_normal ?_
      obtain rfl := Option.some.inj h
      obtain rfl : _ = x2 := hk2
      exact ⟨(), _, ho2, trivial, rfl⟩

set_option maxRecDepth 100000 in
set_option maxRecDepth 100000 in
def m31_timers_byAt (a0 : GTimersTimer) (a1 : GTimersTimer) : Option Int :=
  if (!decide (a0.At = a1.At)) then ((m34_cmp_Compare a0.At a1.At).bind fun v1 => some v1) else ((m28_timers_byID a0 a1).bind fun v2 => some v2)

omit [TickC] in
set_option maxRecDepth 100000 in
theorem m31_timers_byAt_c {a0 : GTimersTimer} {a1 : GTimersTimer} {r : Int} (h : m31_timers_byAt a0 a1 = some r) : CallsA Try.prog 31 [.agg [.i .i64 a0.ID, .i .i64 a0.At], .agg [.i .i64 a1.ID, .i .i64 a1.At]] (· = .s (.one (.i .i64 r))) := by
  unfold m31_timers_byAt at h
  refine callsA_of Try.func31 rfl (nt := 18) rfl (Nat.le_of_ble_eq_true rfl) ?_
  intro w0 S0
  refine cseq ?_
  refine cregion ?_
  refine sbox rfl rfl ?_
  refine sbox rfl rfl ?_
  refine sv rfl (opv_as rfl) ?_
  refine snil ?_
  refine cseq ?_
  refine cseq ?_
  refine cregion ?_
  refine sv rfl (opv_fieldAddr_lp fi61_1 rfl) ?_
  refine sv rfl (opv_load1 ti3 rfl (.lp _ _ _ rfl) rfl) ?_
  refine sv rfl (opv_fieldAddr_lp fi61_1 rfl) ?_
  refine sv rfl (opv_load1 ti3 rfl (.lp _ _ _ rfl) rfl) ?_
  refine sv rfl (opv_ineq rfl rfl) ?_
  refine snil ?_
  refine ccond rfl (fun hc => ?_) (fun hc => ?_)
  · replace h := ite_t hc h
    clear hc
    refine cseq ?_
    refine cregion ?_
    refine sv rfl (opv_fieldAddr_lp fi61_1 rfl) ?_
    refine sv rfl (opv_load1 ti3 rfl (.lp _ _ _ rfl) rfl) ?_
    refine sv rfl (opv_fieldAddr_lp fi61_1 rfl) ?_
    refine sv rfl (opv_load1 ti3 rfl (.lp _ _ _ rfl) rfl) ?_
    obtain ⟨v1, hv1, h⟩ := bind_eq h
    refine scall1 rfl fn34 (opnds_cons rfl (opnds_cons rfl opnds_nil)) (pubA_id rfl) (m34_cmp_Compare_c hv1) ?_
    refine sv rfl (opv_as rfl) ?_
    refine snil ?_
    refine cret ?_
    refine then_ret ?_
    obtain rfl := Option.some.inj h
    refine ⟨Or.inr rfl, _, _, _, (resVs_cons (ResV.tmp _ _ rfl) resVs_nil), (pubA_id rfl), ?_⟩
    rfl
  · replace h := ite_f hc h
    clear hc
    refine cskip ?_
    refine then_normal ?_
    refine cseq ?_
    refine cregion ?_
    refine sv rfl (opv_loadN ti61 rfl (.lp _ _ _ rfl) (Nat.le_of_ble_eq_true rfl)) ?_
    refine sv rfl (opv_loadN ti61 rfl (.lp _ _ _ rfl) (Nat.le_of_ble_eq_true rfl)) ?_
    obtain ⟨v2, hv2, h⟩ := bind_eq h
    refine scall1 rfl fn28 (opnds_cons rfl (opnds_cons rfl opnds_nil)) (pubA_id rfl) (m28_timers_byID_c hv2) ?_
    refine sv rfl (opv_as rfl) ?_
    refine snil ?_
    refine cret ?_
    obtain rfl := Option.some.inj h
    refine ⟨Or.inr rfl, _, _, _, (resVs_cons (ResV.tmp _ _ rfl) resVs_nil), (pubA_id rfl), ?_⟩
    rfl

end Go.Proofs.Ytnphcnhejgpjgaa.Abs
end
