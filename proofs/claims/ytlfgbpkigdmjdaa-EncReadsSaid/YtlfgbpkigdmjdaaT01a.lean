/-
  t
-/
import Derived.Test.YtlfgbpkigdmjdaaAbsC
import Derived.Test.YtlfgbpkigdmjdaaProg
namespace Go.Proofs.Ytlfgbpkigdmjdaa.Abs
open Go.RowKit Go.Proofs
structure GL01Step where
  What : Int
  N : Int
def eGL01Step (x : GL01Step) : List Lf := [.i .i64 x.What, .i .i64 x.N]

theorem ei5 : EI Try.prog 5 1 1 [.i .u8 0] := ei_of (by kernel_rfl) (by decide)
theorem si22 : SI Try.prog 22 5 1 := ⟨Try.underlying22, by kernel_rfl, by decide⟩
theorem sz5 : (Try.prog.info? 5).map (·.size) = some 1 := by kernel_rfl
theorem ei22 : EI Try.prog 22 1 24 [.raw (.slice none 0 0)] := ei_of (by kernel_rfl) (by decide)
theorem si45 : SI Try.prog 45 22 1 := ⟨Try.underlying45, by kernel_rfl, by decide⟩
theorem ti22 : TI Try.prog 22 false 1 := ⟨⟨_, Try.underlying22, rfl⟩, by kernel_rfl⟩
theorem fn35 : FnI Try.prog 35 := ⟨⟨_, Try.func35, by kernel_rfl, by kernel_rfl⟩⟩
theorem ni22 : NI Try.prog 22 := ⟨.inl ⟨_, Try.underlying22⟩⟩
theorem fn29 : FnI Try.prog 29 := ⟨⟨_, Try.func29, by kernel_rfl, by kernel_rfl⟩⟩
theorem fn10 : FnI Try.prog 10 := ⟨⟨_, Try.func10, by kernel_rfl, by kernel_rfl⟩⟩
theorem zi3 : ZI Try.prog 3 ([.i .i64 0]) := zi_of (by kernel_rfl)
theorem sz3 : (Try.prog.info? 3).map (·.size) = some 1 := by kernel_rfl
theorem zi54 : ZI Try.prog 54 ([.raw .nilFunc, .i .i64 0]) := zi_of (by kernel_rfl)
theorem pi54 : PI Try.prog 54 [(0, 1), (1, 1)] := pi_of Try.underlying54 (by kernel_rfl) (by kernel_rfl)
theorem fn14 : FnI Try.prog 14 := ⟨⟨_, Try.func14, by kernel_rfl, by kernel_rfl⟩⟩
theorem fi54_1 : FI Try.prog 54 1 1 := ⟨⟨_, _, 1, Try.underlying54, rfl, rfl, by kernel_rfl, by decide⟩⟩
theorem ti38 : TI Try.prog 38 false 1 := ⟨⟨_, Try.underlying38, rfl⟩, by kernel_rfl⟩
theorem fn24 : FnI Try.prog 24 := ⟨⟨_, Try.func24, by kernel_rfl, by kernel_rfl⟩⟩
theorem sz38 : (Try.prog.info? 38).map (·.size) = some 1 := by kernel_rfl
theorem fn22 : FnI Try.prog 22 := ⟨⟨_, Try.func22, by kernel_rfl, by kernel_rfl⟩⟩
theorem fi54_0 : FI Try.prog 54 0 0 := ⟨⟨_, _, 1, Try.underlying54, rfl, rfl, by kernel_rfl, by decide⟩⟩
theorem ti52 : TI Try.prog 52 false 1 := ⟨⟨_, Try.underlying52, rfl⟩, by kernel_rfl⟩
theorem ti3 : TI Try.prog 3 false 1 := ⟨⟨_, Try.underlying3, rfl⟩, by kernel_rfl⟩
theorem mixed : Try.prog.follows .mixedOrders = true := by kernel_rfl
theorem fn30 : FnI Try.prog 30 := ⟨⟨_, Try.func30, by kernel_rfl, by kernel_rfl⟩⟩
theorem fn34 : FnI Try.prog 34 := ⟨⟨_, Try.func34, by kernel_rfl, by kernel_rfl⟩⟩
theorem fn31 : FnI Try.prog 31 := ⟨⟨_, Try.func31, by kernel_rfl, by kernel_rfl⟩⟩
theorem ti5 : TI Try.prog 5 false 1 := ⟨⟨_, Try.underlying5, rfl⟩, by kernel_rfl⟩
theorem fn16 : FnI Try.prog 16 := ⟨⟨_, Try.func16, by kernel_rfl, by kernel_rfl⟩⟩
theorem fn26 : FnI Try.prog 26 := ⟨⟨_, Try.func26, by kernel_rfl, by kernel_rfl⟩⟩
theorem fn25 : FnI Try.prog 25 := ⟨⟨_, Try.func25, by kernel_rfl, by kernel_rfl⟩⟩
theorem fn9 : FnI Try.prog 9 := ⟨⟨_, Try.func9, by kernel_rfl, by kernel_rfl⟩⟩
theorem fn11 : FnI Try.prog 11 := ⟨⟨_, Try.func11, by kernel_rfl, by kernel_rfl⟩⟩
theorem fn12 : FnI Try.prog 12 := ⟨⟨_, Try.func12, by kernel_rfl, by kernel_rfl⟩⟩
theorem fn13 : FnI Try.prog 13 := ⟨⟨_, Try.func13, by kernel_rfl, by kernel_rfl⟩⟩
theorem si28 : SI Try.prog 28 34 2 := ⟨Try.underlying28, by kernel_rfl, by decide⟩
theorem zi41 : ZI Try.prog 41 ([.raw (.slice none 0 0), .i .i64 0, .i .i64 0]) := zi_of (by kernel_rfl)
theorem pi41 : PI Try.prog 41 [(0, 1), (1, 1), (2, 1)] := pi_of Try.underlying41 (by kernel_rfl) (by kernel_rfl)
theorem fn15 : FnI Try.prog 15 := ⟨⟨_, Try.func15, by kernel_rfl, by kernel_rfl⟩⟩
theorem fi34_0 : FI Try.prog 34 0 0 := ⟨⟨_, _, 1, Try.underlying34, rfl, rfl, by kernel_rfl, by decide⟩⟩
theorem fi34_1 : FI Try.prog 34 1 1 := ⟨⟨_, _, 1, Try.underlying34, rfl, rfl, by kernel_rfl, by decide⟩⟩
theorem fi41_2 : FI Try.prog 41 2 2 := ⟨⟨_, _, 1, Try.underlying41, rfl, rfl, by kernel_rfl, by decide⟩⟩
theorem fn23 : FnI Try.prog 23 := ⟨⟨_, Try.func23, by kernel_rfl, by kernel_rfl⟩⟩
theorem fi41_0 : FI Try.prog 41 0 0 := ⟨⟨_, _, 1, Try.underlying41, rfl, rfl, by kernel_rfl, by decide⟩⟩
theorem fi41_1 : FI Try.prog 41 1 1 := ⟨⟨_, _, 1, Try.underlying41, rfl, rfl, by kernel_rfl, by decide⟩⟩
theorem fn32 : FnI Try.prog 32 := ⟨⟨_, Try.func32, by kernel_rfl, by kernel_rfl⟩⟩
theorem fn17 : FnI Try.prog 17 := ⟨⟨_, Try.func17, by kernel_rfl, by kernel_rfl⟩⟩
theorem fn33 : FnI Try.prog 33 := ⟨⟨_, Try.func33, by kernel_rfl, by kernel_rfl⟩⟩
theorem fn18 : FnI Try.prog 18 := ⟨⟨_, Try.func18, by kernel_rfl, by kernel_rfl⟩⟩
theorem fn19 : FnI Try.prog 19 := ⟨⟨_, Try.func19, by kernel_rfl, by kernel_rfl⟩⟩
theorem fn20 : FnI Try.prog 20 := ⟨⟨_, Try.func20, by kernel_rfl, by kernel_rfl⟩⟩
theorem fn21 : FnI Try.prog 21 := ⟨⟨_, Try.func21, by kernel_rfl, by kernel_rfl⟩⟩
theorem fn27 : FnI Try.prog 27 := ⟨⟨_, Try.func27, by kernel_rfl, by kernel_rfl⟩⟩
theorem si44 : SI Try.prog 44 23 1 := ⟨Try.underlying44, by kernel_rfl, by decide⟩
theorem ti23 : TI Try.prog 23 false 1 := ⟨⟨_, Try.underlying23, rfl⟩, by kernel_rfl⟩
theorem ti34 : TI Try.prog 34 true 2 := ⟨⟨_, Try.underlying34, rfl⟩, by kernel_rfl⟩
theorem fn28 : FnI Try.prog 28 := ⟨⟨_, Try.func28, by kernel_rfl, by kernel_rfl⟩⟩

def m35_slices_Growo_k1 (a0 : Int) (b1 : Unit) : Option (List UInt8) :=
  if (decide (0 < (wI (a0 - (wI (0 - 0)))))) then (if 0 < (wI (a0 - (wI (0 - 0)))) ∧ (wI (a0 - (wI (0 - 0)))) * ((1 : Nat) : Int) ≤ 281474976710656 then (if (0 : Int) ≤ 0 ∧ 0 ≤ ((List.replicate (wI (a0 - (wI (0 - 0)))).toNat (0 : UInt8)).length : Int) then (some ((List.replicate (wI (a0 - (wI (0 - 0)))).toNat (0 : UInt8)).take (0 : Int).toNat)) else none) else none) else (some ([] : List UInt8))
def m35_slices_Growo (a0 : Int) : Option (List UInt8) :=
  if (decide (a0 < 0)) then none else (m35_slices_Growo_k1 a0 ())

set_option maxRecDepth 100000 in
theorem m35_slices_Growo_c {a0 : Int} {r : (List UInt8)} (h : m35_slices_Growo a0 = some r) : CallsB Try.prog 35 [] [.one (.raw (.slice none 0 0)), .one (.i .i64 a0)] (fun y m' => y = .s (.one (.ls 0 r.length)) ∧ m' = [.arr 5 1 0 (r.flatMap eU8)]) := by
  unfold m35_slices_Growo at h
  refine callsB_of Try.func35 rfl (nt := 27) rfl (Nat.le_of_ble_eq_true rfl) ?_
  intro w0 S0 X0 H0
  refine cseq ?_
  refine cregion ?_
  refine sv rfl (opv_as rfl) ?_
  refine snil ?_
  refine cseq ?_
  refine cseq ?_
  refine cregion ?_
  refine sv rfl (opv_mv rfl) ?_
  refine sv rfl (opv_lss rfl rfl) ?_
  refine snil ?_
  refine cjoin (Unit) (fun b1 => [(0, .s (.one (.raw (.slice none 0 0)))), (1, .s (.one (.i .i64 a0)))]) (fun b1 => []) (fun b1 => m35_slices_Growo_k1 a0 b1 = some r) (fun _ _ => inbL_of rfl) (fun _ _ => blkinb_of rfl) (fun _ _ => Nat.le_of_ble_eq_true rfl) (fun b1 h => ?_) ?_
  · unfold m35_slices_Growo_k1 at h
    refine cseq ?_
    refine cseq ?_
    refine cregion ?_
    refine sv rfl (opv_mv rfl) ?_
    refine sv rfl (opv_mv rfl) ?_
    refine sv rfl (opv_cap_nil si22 rfl) ?_
    refine sv rfl (opv_mv rfl) ?_
    refine sv rfl (opv_len_nil si22 rfl) ?_
    refine sv rfl (opv_sub rfl rfl) ?_
    refine sv rfl (opv_sub rfl rfl) ?_
    refine sv rfl (opv_as rfl) ?_
    refine snil ?_
    refine cseq ?_
    refine cregion ?_
    refine sv rfl (opv_mv rfl) ?_
    refine sv rfl (opv_gtr rfl rfl) ?_
    refine snil ?_
    refine ccond rfl (fun hc => ?_) (fun hc => ?_)
    · replace h := ite_t hc h
      clear hc
      refine cregion ?_
      refine sv rfl (opv_mv rfl) ?_
      refine sv rfl (opv_mv rfl) ?_
      refine sv rfl (opv_cap_nil si22 rfl) ?_
      refine sv rfl (opv_slice_nil si22 rfl rfl) ?_
      refine sv rfl (opv_mv rfl) ?_
      obtain ⟨hm2, h⟩ := chk_eq h
      refine sappz (f := eU8) (z := (0 : UInt8)) rfl Try.underlying22 ei5 Try.underlying3 (fun _ => rfl) rfl rfl rfl hm2 (by decide) ?_
      refine sv rfl (opv_mv rfl) ?_
      refine sv rfl (opv_len_nil si22 rfl) ?_
      obtain ⟨hs3, h⟩ := chk_eq h
      refine strunc (f := eU8) rfl si22 (fun _ => rfl) rfl rfl rfl rfl rfl hs3 ?_
      refine sv rfl (opv_as rfl) ?_
      refine snil ?_
      refine cseq ?_
      refine cregion ?_
      refine sv rfl (opv_mv rfl) ?_
      refine sv rfl (opv_as rfl) ?_
      refine snil ?_
      refine cret ?_
      obtain rfl := Option.some.inj h
      exact ⟨Or.inr rfl, _, [1], [.one (.ls 0 ((List.replicate (wI (a0 - (wI (0 - 0)))).toNat (0 : UInt8)).take (0 : Int).toNat).length)], [.arr 5 1 0 (((List.replicate (wI (a0 - (wI (0 - 0)))).toNat (0 : UInt8)).take (0 : Int).toNat).flatMap eU8)], (resVs_cons (ResV.tmp _ _ rfl) resVs_nil), rfl, rfl, ⟨by decide, rfl⟩, rfl, rfl, ⟨rfl, rfl⟩⟩
    · replace h := ite_f hc h
      clear hc
      refine cskip ?_
      refine then_normal ?_
      refine cseq ?_
      refine cregion ?_
      refine sv rfl (opv_mv rfl) ?_
      refine sv rfl (opv_as rfl) ?_
      refine snil ?_
      refine sadopt_c 5 1 4 (by decide) rfl ?_
      refine cret ?_
      obtain rfl := Option.some.inj h
      exact ⟨Or.inr rfl, _, [0], [.one (.ls 0 ([] : List UInt8).length)], [.arr 5 1 0 (([] : List UInt8).flatMap eU8)], (resVs_cons (ResV.tmp _ _ rfl) resVs_nil), rfl, rfl, ⟨by decide, rfl⟩, rfl, rfl, ⟨rfl, rfl⟩⟩
  · skip
    refine ccond rfl (fun hc => ?_) (fun hc => ?_)
    · replace h := ite_t hc h
      clear hc
      cases h
    · replace h := ite_f hc h
      clear hc
      refine cskip ?_
      refine then_normal ?_
      exact ⟨(), _, h, ⟨rfl, rfl, trivial⟩, rfl⟩

def m29_slices_Concato_k3 (b3 : (List UInt8)) : Option (List UInt8) :=
  some b3

def m29_slices_Concato_s4 (a0 : List (List UInt8)) (s4 : Int × (List UInt8)) : Option (LB (Int × (List UInt8)) ((List UInt8))) :=
  if (decide (s4.1 < (a0.length : Int))) then ((idx a0 s4.1).bind fun u5 => if (s4.2.length + u5.length) * 1 ≤ 140737488355328 then (some (.cont ((wI (s4.1 + 1)), (s4.2 ++ u5)))) else none) else (some (.brk s4.2))

def m29_slices_Concato_k1 (a0 : List (List UInt8)) (b1 : Int) : Option (List UInt8) :=
  (m35_slices_Growo b1).bind fun v2 => (iterB (m29_slices_Concato_s4 a0) fuel (0, v2)).bind fun e7 => m29_slices_Concato_k3 e7

def m29_slices_Concato_s8 (a0 : List (List UInt8)) (s8 : Int × Int) : Option (LB (Int × Int) (Int)) :=
  if (decide (s8.2 < (a0.length : Int))) then ((idx a0 s8.2).bind fun u9 => if (decide ((wI (s8.1 + (u9.length : Int))) < 0)) then none else (some (.cont ((wI (s8.1 + (u9.length : Int))), (wI (s8.2 + 1)))))) else (some (.brk s8.1))
def m29_slices_Concato (a0 : List (List UInt8)) : Option (List UInt8) :=
  (iterB (m29_slices_Concato_s8 a0) fuel (0, 0)).bind fun e10 => m29_slices_Concato_k1 a0 e10

set_option maxRecDepth 100000 in
theorem m29_slices_Concato_c {a0 : List (List UInt8)} {r : (List UInt8)} (h : m29_slices_Concato a0 = some r) : CallsB Try.prog 29 [] [.one (.sl a0.length (a0.flatMap (eL eU8)))] (fun y m' => y = .s (.one (.ls 0 r.length)) ∧ m' = [.arr 5 1 0 (r.flatMap eU8)]) := by
  unfold m29_slices_Concato at h
  refine callsB_of Try.func29 rfl (nt := 36) rfl (Nat.le_of_ble_eq_true rfl) ?_
  intro w0 S0 X0 H0
  refine cseq ?_
  refine cregion ?_
  refine sv rfl (opv_as rfl) ?_
  refine snil ?_
  refine cseq ?_
  refine cregion ?_
  refine sv rfl (opv_as rfl) ?_
  refine snil ?_
  refine cseq ?_
  refine cseq ?_
  refine cregion ?_
  refine sv rfl (opv_mv rfl) ?_
  refine sv rfl (opv_len_sl si45 rfl) ?_
  refine sv rfl (opv_mv rfl) ?_
  refine snil ?_
  refine cjoin (Int) (fun b1 => [(0, .s (.one (.sl a0.length (a0.flatMap (eL eU8))))), (3, .s (.one (.i .i64 b1)))]) (fun b1 => []) (fun b1 => m29_slices_Concato_k1 a0 b1 = some r) (fun _ _ => inbL_of rfl) (fun _ _ => blkinb_of rfl) (fun _ _ => Nat.le_of_ble_eq_true rfl) (fun b1 h => ?_) ?_
  · unfold m29_slices_Concato_k1 at h
    refine cseq ?_
    refine cregion ?_
    refine sv rfl (opv_mv rfl) ?_
    obtain ⟨v2, hv2, h⟩ := bind_eq h
    refine scallB (x' := .s (.one (.ls 0 v2.length))) (M' := [.arr 5 1 0 (v2.flatMap eU8)]) [] rfl fn35 (.func _) (opnds_cons rfl (opnds_cons rfl opnds_nil)) (m35_slices_Growo_c hv2) rfl rfl (by decide) rfl rfl rfl ?_
    refine sv rfl (opv_as rfl) ?_
    refine snil ?_
    refine cseq ?_
    refine cseq ?_
    refine cregion ?_
    refine sv rfl (opv_mv rfl) ?_
    refine sv rfl (opv_len_sl si45 rfl) ?_
    refine sv rfl (opv_mv rfl) ?_
    refine snil ?_
    refine cjoin ((List UInt8)) (fun b3 => [(6, .s (.one (.ls 0 b3.length)))]) (fun b3 => [.arr 5 1 0 (b3.flatMap eU8)]) (fun b3 => m29_slices_Concato_k3 b3 = some r) (fun _ _ => inbL_of rfl) (fun _ _ => blkinb_of rfl) (fun _ _ => Nat.le_of_ble_eq_true rfl) (fun b3 h => ?_) ?_
    · unfold m29_slices_Concato_k3 at h
      refine cseq ?_
      refine cregion ?_
      refine sv rfl (opv_mv rfl) ?_
      refine sv rfl (opv_as rfl) ?_
      refine snil ?_
      refine cret ?_
      obtain rfl := Option.some.inj h
      exact ⟨Or.inr rfl, _, [0], [.one (.ls 0 b3.length)], [.arr 5 1 0 (b3.flatMap eU8)], (resVs_cons (ResV.tmp _ _ rfl) resVs_nil), rfl, rfl, ⟨by decide, rfl⟩, rfl, rfl, ⟨rfl, rfl⟩⟩
    · skip
      refine cblock ?_
      obtain ⟨x4, hx4, ho4⟩ := bind_eq h
      refine awc_loop (G := Nat × (Int × (List UInt8))) (fun g => [(6, .s (.one (.ls 0 g.2.2.length))), (25, .s (.one (.sl a0.length (a0.flatMap (eL eU8))))), (26, .s (.one (.i .i64 (a0.length : Int)))), (27, .s (.one (.i .i64 g.2.1)))]) (fun g => [.arr 5 1 0 (g.2.2.flatMap eU8)]) (fun g => iterB (m29_slices_Concato_s4 a0) g.1 g.2 = some x4) (fun g => g.1) (fuel, (0, v2)) hx4 ⟨rfl, rfl, rfl, rfl, trivial⟩ [] rfl (fun _ _ => inbL_of rfl) (fun _ _ => blkinb_of rfl) (fun _ _ => Nat.le_of_ble_eq_true rfl) ?_
      clear hx4 h
      rintro ⟨n4, s4⟩ h
      obtain ⟨n4, y4, rfl, h, hk4⟩ := iterB_eq h
      unfold m29_slices_Concato_s4 at h
      refine cseq ?_
      refine cregion ?_
      refine sv rfl (opv_lss rfl rfl) ?_
      refine snil ?_
      refine cseq ?_
      refine ccond rfl (fun hc => ?_) (fun hc => ?_)
      · replace h := ite_t hc h
        clear hc
        refine cskip ?_
        refine then_normal ?_
        refine cseq ?_
        refine cblock ?_
        refine cseq ?_
        refine cregion ?_
        obtain ⟨u5, hu5, h⟩ := bind_eq h
        refine sv rfl (opv_ix (f := (eL eU8)) si45 (fun _ => rfl) rfl rfl rfl rfl hu5) ?_
        refine sv rfl (opv_load1 ti22 rfl (.cp _) rfl) ?_
        refine sv rfl (opv_as rfl) ?_
        refine snil ?_
        refine cregion ?_
        refine sv rfl (opv_mv rfl) ?_
        refine sv rfl (opv_mv rfl) ?_
        obtain ⟨hb6, h⟩ := chk_eq h
        refine sapp (f := eU8) (xs := s4.2) (us := u5) rfl Try.underlying22 ei5 ni22 (fun _ => rfl) rfl rfl (.one _ _ _ _ (.id _ rfl)) rfl rfl rfl (.sl _ _ _ (flat_len (f := eU8) (fun _ => rfl) _)) rfl rfl hb6 (by decide) ?_
        refine sv rfl (opv_as rfl) ?_
        refine snil0 ?_
        refine block_normal ?_
        refine then_normal ?_
        refine cregion ?_
        refine sv rfl (opv_add rfl rfl) ?_
        refine sv rfl (opv_mv rfl) ?_
        refine snil ?_
        obtain rfl := Option.some.inj h
        exact ⟨(n4, ((wI (s4.1 + 1)), (s4.2 ++ u5))), _, hk4, ⟨rfl, rfl, rfl, rfl, trivial⟩, rfl, Nat.lt_succ_self _⟩
      · replace h := ite_f hc h
        clear hc
        refine cexit ?_
        refine then_exit ?_
        refine then_exit ?_
        refine block_hit ?_
        refine then_normal ?_
        obtain rfl := Option.some.inj h
        obtain rfl : _ = x4 := hk4
        exact ⟨s4.2, _, ho4, ⟨rfl, trivial⟩, rfl⟩
  · skip
    refine cblock ?_
    obtain ⟨x8, hx8, ho8⟩ := bind_eq h
    refine awc_loop (G := Nat × (Int × Int)) (fun g => [(0, .s (.one (.sl a0.length (a0.flatMap (eL eU8))))), (3, .s (.one (.i .i64 g.2.1))), (9, .s (.one (.sl a0.length (a0.flatMap (eL eU8))))), (10, .s (.one (.i .i64 (a0.length : Int)))), (11, .s (.one (.i .i64 g.2.2)))]) (fun g => []) (fun g => iterB (m29_slices_Concato_s8 a0) g.1 g.2 = some x8) (fun g => g.1) (fuel, (0, 0)) hx8 ⟨rfl, rfl, rfl, rfl, rfl, trivial⟩ [] rfl (fun _ _ => inbL_of rfl) (fun _ _ => blkinb_of rfl) (fun _ _ => Nat.le_of_ble_eq_true rfl) ?_
    clear hx8 h
    rintro ⟨n8, s8⟩ h
    obtain ⟨n8, y8, rfl, h, hk8⟩ := iterB_eq h
    unfold m29_slices_Concato_s8 at h
    refine cseq ?_
    refine cregion ?_
    refine sv rfl (opv_lss rfl rfl) ?_
    refine snil ?_
    refine cseq ?_
    refine ccond rfl (fun hc => ?_) (fun hc => ?_)
    · replace h := ite_t hc h
      clear hc
      refine cskip ?_
      refine then_normal ?_
      refine cseq ?_
      refine cblock ?_
      refine cseq ?_
      refine cregion ?_
      obtain ⟨u9, hu9, h⟩ := bind_eq h
      refine sv rfl (opv_ix (f := (eL eU8)) si45 (fun _ => rfl) rfl rfl rfl rfl hu9) ?_
      refine sv rfl (opv_load1 ti22 rfl (.cp _) rfl) ?_
      refine sv rfl (opv_as rfl) ?_
      refine snil ?_
      refine cseq ?_
      refine cregion ?_
      refine sv rfl (opv_mv rfl) ?_
      refine sv rfl (opv_mv rfl) ?_
      refine sv rfl (opv_len_sl si22 rfl) ?_
      refine sv rfl (opv_add rfl rfl) ?_
      refine sv rfl (opv_as rfl) ?_
      refine snil ?_
      refine cseq ?_
      refine cregion ?_
      refine sv rfl (opv_mv rfl) ?_
      refine sv rfl (opv_lss rfl rfl) ?_
      refine snil ?_
      refine ccond rfl (fun hc => ?_) (fun hc => ?_)
      · replace h := ite_t hc h
        clear hc
        cases h
      · replace h := ite_f hc h
        clear hc
        refine cskip ?_
        refine block_normal ?_
        refine then_normal ?_
        refine cregion ?_
        refine sv rfl (opv_add rfl rfl) ?_
        refine sv rfl (opv_mv rfl) ?_
        refine snil ?_
        obtain rfl := Option.some.inj h
        exact ⟨(n8, ((wI (s8.1 + (u9.length : Int))), (wI (s8.2 + 1)))), _, hk8, ⟨rfl, rfl, rfl, rfl, rfl, trivial⟩, rfl, Nat.lt_succ_self _⟩
    · replace h := ite_f hc h
      clear hc
      refine cexit ?_
      refine then_exit ?_
      refine then_exit ?_
      refine block_hit ?_
      refine then_normal ?_
      obtain rfl := Option.some.inj h
      obtain rfl : _ = x8 := hk8
      exact ⟨s8.1, _, ho8, ⟨rfl, rfl, trivial⟩, rfl⟩

def m10_enc_U_k2 (a0 : List UInt8) (b2 : (List UInt8)) : Option (List UInt8) :=
  (m29_slices_Concato [a0, b2]).bind fun v3 => some v3

def m10_enc_U_s4 (a1 : BitVec 64) (a2 : Int) (s4 : Int × (List UInt8)) : Option (LB (Int × (List UInt8)) ((List UInt8))) :=
  if (decide (s4.1 < ((List.replicate (if (if 8 < a2 then 8 else a2) > 0 then (if 8 < a2 then 8 else a2) else 0).toNat (0 : UInt8)).length : Int))) then (if 0 ≤ (wI (8 * s4.1)) then ((idx s4.2 s4.1).bind fun u6 => some (.cont ((wI (s4.1 + 1)), (s4.2.set s4.1.toNat (UInt8.ofBitVec ((a1 >>> (wI (8 * s4.1)).toNat).setWidth 8)))))) else none) else (some (.brk s4.2))
def m10_enc_U (a0 : List UInt8) (a1 : BitVec 64) (a2 : Int) : Option (List UInt8) :=
  if (0 : Int) ≤ (if (if 8 < a2 then 8 else a2) > 0 then (if 8 < a2 then 8 else a2) else 0) ∧ (if (if 8 < a2 then 8 else a2) > 0 then (if 8 < a2 then 8 else a2) else 0) ≤ (if (if 8 < a2 then 8 else a2) > 0 then (if 8 < a2 then 8 else a2) else 0) ∧ ((1 : Nat) : Int) * (if (if 8 < a2 then 8 else a2) > 0 then (if 8 < a2 then 8 else a2) else 0) ≤ 281474976710656 then ((iterB (m10_enc_U_s4 a1 a2) fuel (0, (List.replicate (if (if 8 < a2 then 8 else a2) > 0 then (if 8 < a2 then 8 else a2) else 0).toNat (0 : UInt8)))).bind fun e7 => m10_enc_U_k2 a0 e7) else none

set_option maxRecDepth 100000 in
theorem m10_enc_U_c {a0 : List UInt8} {a1 : BitVec 64} {a2 : Int} {r : (List UInt8)} (h : m10_enc_U a0 a1 a2 = some r) : CallsA Try.prog 10 [.one (.sl a0.length (a0.flatMap eU8)), .one (.i .u64 (a1.toNat : Int)), .one (.i .i64 a2)] (· = .s (.one (.sl r.length (r.flatMap eU8)))) := by
  unfold m10_enc_U at h
  refine callsA_of Try.func10 rfl (nt := 32) rfl (Nat.le_of_ble_eq_true rfl) ?_
  intro w0 S0
  refine cseq ?_
  refine cregion ?_
  refine sv rfl (opv_as rfl) ?_
  refine snil ?_
  refine cseq ?_
  refine cregion ?_
  refine sv rfl (opv_mv rfl) ?_
  refine sv rfl (opv_min rfl rfl) ?_
  refine sv rfl (opv_max rfl rfl) ?_
  refine sv rfl (opv_as rfl) ?_
  refine snil ?_
  refine cseq ?_
  refine cregion ?_
  refine sv rfl (opv_mv rfl) ?_
  obtain ⟨hm1, h⟩ := chk_eq h
  refine smk (f := eU8) (z := (0 : UInt8)) rfl Try.underlying22 ei5 (fun _ => rfl) rfl rfl rfl hm1 (by decide) ?_
  refine sv rfl (opv_as rfl) ?_
  refine snil ?_
  refine cseq ?_
  refine cseq ?_
  refine cregion ?_
  refine sv rfl (opv_mv rfl) ?_
  refine sv rfl (opv_len_ls si22 rfl rfl (flat_len (f := eU8) (fun _ => rfl) _).symm) ?_
  refine sv rfl (opv_mv rfl) ?_
  refine snil ?_
  refine cjoin ((List UInt8)) (fun b2 => [(0, .s (.one (.sl a0.length (a0.flatMap eU8)))), (7, .s (.one (.ls 0 b2.length)))]) (fun b2 => [.arr 5 1 0 (b2.flatMap eU8)]) (fun b2 => m10_enc_U_k2 a0 b2 = some r) (fun _ _ => inbL_of rfl) (fun _ _ => blkinb_of rfl) (fun _ _ => Nat.le_of_ble_eq_true rfl) (fun b2 h => ?_) ?_
  · unfold m10_enc_U_k2 at h
    refine cseq ?_
    refine cregion ?_
    refine sv rfl (opv_mv rfl) ?_
    refine sv rfl (opv_mv rfl) ?_
    refine spub 29 rfl (by (repeat' first | exact PubA.nil _ | apply PubA.cons | apply PubV.one | apply PubV.agg | exact PubL.nil | exact PubL.ls _ _ _ _ _ _ rfl (flat_len (f := eU8) (fun _ => rfl) _).symm | exact PubL.id _ rfl | exact PubLs.nil _ | apply PubLs.cons)) ?_
    refine sbuildN (out := ([a0, b2] : List (List UInt8)).flatMap (eL eU8)) rfl Try.underlying45 ei22 (parts_cons rfl (parts_cons rfl parts_nil)) (.cons _ _ _ _ _ _ _ rfl rfl (Nat.le_of_ble_eq_true rfl) (.cons _ _ _ _ _ _ _ rfl rfl (Nat.le_of_ble_eq_true rfl) (.nil _))) rfl (by decide) ?_
    refine spub 30 rfl (by (repeat' first | exact PubA.nil _ | apply PubA.cons | apply PubV.one | apply PubV.agg | exact PubL.nil | exact PubL.ls _ _ _ _ _ _ rfl (flat_len (f := (eL eU8)) (fun _ => rfl) ([a0, b2] : List (List UInt8))).symm | exact PubL.ls _ _ _ _ _ _ rfl (flat_len (f := (eL eU8)) (fun _ => rfl) _).symm | exact PubL.ls _ _ _ _ _ _ rfl (flat_len (f := eU8) (fun _ => rfl) _).symm | exact PubL.id _ rfl | exact PubLs.nil _ | apply PubLs.cons)) ?_
    obtain ⟨v3, hv3, h⟩ := bind_eq h
    refine scallB (x' := .s (.one (.ls 2 v3.length))) (M' := [.arr 5 1 (b2.flatMap eU8).length (b2.flatMap eU8), .arr 22 1 ([a0, b2].flatMap (eL eU8)).length ([a0, b2].flatMap (eL eU8)), .arr 5 1 0 (v3.flatMap eU8)]) [] rfl fn29 (.func _) (opnds_cons rfl opnds_nil) (m29_slices_Concato_c hv3) rfl rfl (by decide) rfl rfl rfl ?_
    refine sv rfl (opv_as rfl) ?_
    refine snil ?_
    refine cret ?_
    obtain rfl := Option.some.inj h
    refine ⟨Or.inr rfl, _, _, _, (resVs_cons (ResV.tmp _ _ rfl) resVs_nil), (by (repeat' first | exact PubA.nil _ | apply PubA.cons | apply PubV.one | apply PubV.agg | exact PubL.nil | exact PubL.ls _ _ _ _ _ _ rfl (flat_len (f := (eL eU8)) (fun _ => rfl) _).symm | exact PubL.ls _ _ _ _ _ _ rfl (flat_len (f := eU8) (fun _ => rfl) _).symm | exact PubL.id _ rfl | exact PubLs.nil _ | apply PubLs.cons)), ?_⟩
    rfl
  · skip
    refine cblock ?_
    obtain ⟨x4, hx4, ho4⟩ := bind_eq h
    refine awc_loop (G := Nat × (Int × (List UInt8))) (fun g => [(0, .s (.one (.sl a0.length (a0.flatMap eU8)))), (1, .s (.one (.i .u64 (a1.toNat : Int)))), (7, .s (.one (.ls 0 g.2.2.length))), (15, .s (.one (.i .i64 ((List.replicate (if (if 8 < a2 then 8 else a2) > 0 then (if 8 < a2 then 8 else a2) else 0).toNat (0 : UInt8)).length : Int)))), (16, .s (.one (.i .i64 g.2.1)))]) (fun g => [.arr 5 1 0 (g.2.2.flatMap eU8)]) (fun g => iterB (m10_enc_U_s4 a1 a2) g.1 g.2 = some x4) (fun g => g.1) (fuel, (0, (List.replicate (if (if 8 < a2 then 8 else a2) > 0 then (if 8 < a2 then 8 else a2) else 0).toNat (0 : UInt8)))) hx4 ⟨rfl, rfl, rfl, rfl, rfl, trivial⟩ [] rfl (fun _ _ => inbL_of rfl) (fun _ _ => blkinb_of rfl) (fun _ _ => Nat.le_of_ble_eq_true rfl) ?_
    clear hx4 h
    rintro ⟨n4, s4⟩ h
    obtain ⟨n4, y4, rfl, h, hk4⟩ := iterB_eq h
    unfold m10_enc_U_s4 at h
    refine cseq ?_
    refine cregion ?_
    refine sv rfl (opv_lss rfl rfl) ?_
    refine snil ?_
    refine cseq ?_
    refine ccond rfl (fun hc => ?_) (fun hc => ?_)
    · replace h := ite_t hc h
      clear hc
      refine cskip ?_
      refine then_normal ?_
      refine cseq ?_
      refine cblock ?_
      refine cseq ?_
      refine cregion ?_
      refine sv rfl (opv_mv rfl) ?_
      refine sv rfl (opv_as rfl) ?_
      refine snil ?_
      refine cregion ?_
      refine sv rfl (opv_mv rfl) ?_
      refine sv rfl (opv_mv rfl) ?_
      refine sv rfl (opv_mv rfl) ?_
      refine sv rfl (opv_mv rfl) ?_
      refine sv rfl (opv_mul rfl rfl) ?_
      obtain ⟨hz5, h⟩ := chk_eq h
      refine sv rfl (opv_shr_u64 (a := a1) rfl rfl rfl hz5) ?_
      refine sv rfl (opv_conv_bv (k := .u64) (a := (a1 >>> (wI (8 * s4.1)).toNat)) rfl Try.underlying23 Try.underlying5 rfl rfl) ?_
      obtain ⟨u6, hu6, h⟩ := bind_eq h
      refine sv rfl (opv_ixo (f := eU8) si22 (fun _ => rfl) rfl rfl rfl rfl rfl hu6) ?_
      refine sseto (f := eU8) (u' := (UInt8.ofBitVec ((a1 >>> (wI (8 * s4.1)).toNat).setWidth 8))) (sz := 1) 0 sz5 (fun _ => rfl) rfl rfl rfl rfl rfl rfl rfl (List.all_eq_true.1 rfl) (idx_eq hu6).2 (Nat.le_of_ble_eq_true rfl) rfl ?_
      refine stell 7 (y := .s (.one (.ls 0 s4.2.length))) (.s (.one (.ls 0 (s4.2.set s4.1.toNat (UInt8.ofBitVec ((a1 >>> (wI (8 * s4.1)).toNat).setWidth 8))).length))) rfl (congrArg (fun n => AV.s (.one (.ls 0 n))) List.length_set.symm) ?_
      refine stell 19 (y := .s (.one (.ls 0 s4.2.length))) (.s (.one (.ls 0 (s4.2.set s4.1.toNat (UInt8.ofBitVec ((a1 >>> (wI (8 * s4.1)).toNat).setWidth 8))).length))) rfl (congrArg (fun n => AV.s (.one (.ls 0 n))) List.length_set.symm) ?_
      refine snil0 ?_
      refine block_normal ?_
      refine then_normal ?_
      refine cregion ?_
      refine sv rfl (opv_add rfl rfl) ?_
      refine sv rfl (opv_mv rfl) ?_
      refine snil ?_
      obtain rfl := Option.some.inj h
      exact ⟨(n4, ((wI (s4.1 + 1)), (s4.2.set s4.1.toNat (UInt8.ofBitVec ((a1 >>> (wI (8 * s4.1)).toNat).setWidth 8))))), _, hk4, ⟨rfl, rfl, rfl, rfl, rfl, trivial⟩, rfl, Nat.lt_succ_self _⟩
    · replace h := ite_f hc h
      clear hc
      refine cexit ?_
      refine then_exit ?_
      refine then_exit ?_
      refine block_hit ?_
      refine then_normal ?_
      obtain rfl := Option.some.inj h
      obtain rfl : _ = x4 := hk4
      exact ⟨s4.2, _, ho4, ⟨rfl, rfl, trivial⟩, rfl⟩

def m14_enc_News (a0 : List UInt8) : Option (Int × Int × (List UInt8)) :=
  some (0, 0, a0)

set_option maxRecDepth 100000 in
theorem m14_enc_News_c {a0 : List UInt8} {r : Int × Int × (List UInt8)} (h : m14_enc_News a0 = some r) : CallsB Try.prog 14 [] [.one (.sl a0.length (a0.flatMap eU8))] (fun y m' => y = .s (.one (.lp 0 0)) ∧ m' = [.box [.fn 30 [] [.lp 1 0, .lp 2 0], .i .i64 r.1], .box [.i .i64 r.2.1], .box [.sl r.2.2.length (r.2.2.flatMap eU8)]]) := by
  unfold m14_enc_News at h
  refine callsB_of Try.func14 rfl (nt := 7) rfl (Nat.le_of_ble_eq_true rfl) ?_
  intro w0 S0 X0 H0
  refine cseq ?_
  refine cregion ?_
  refine sbox rfl rfl ?_
  refine sv rfl (opv_as rfl) ?_
  refine snil ?_
  refine cseq ?_
  refine cregion ?_
  refine salloc rfl zi3 ?_
  refine sstore sz3 rfl rfl rfl rfl (Nat.le_of_ble_eq_true rfl) ?_
  refine smem [.box [.sl a0.length (a0.flatMap eU8)], .box [.i .i64 0]] rfl ?_
  refine snil ?_
  refine cseq ?_
  refine cregion ?_
  refine sv rfl (opv_makeFunc opnds1_nil (opnds1_cons rfl rfl (opnds1_cons rfl rfl opnds1_nil))) ?_
  refine sv rfl (opv_build zi54 pi54 (parts_cons rfl parts_nil) (.cons _ _ _ _ _ _ _ rfl rfl (Nat.le_of_ble_eq_true rfl) (.nil _))) ?_
  refine sbox rfl rfl ?_
  refine sv rfl (opv_as rfl) ?_
  refine snil ?_
  refine cret ?_
  obtain rfl := Option.some.inj h
  exact ⟨Or.inr rfl, _, [2, 1, 0], [.one (.lp 0 0)], [.box [.fn 30 [] [.lp 1 0, .lp 2 0], .i .i64 0], .box [.i .i64 0], .box [.sl a0.length (a0.flatMap eU8)]], (resVs_cons (ResV.tmp _ _ rfl) resVs_nil), rfl, rfl, ⟨by decide, rfl⟩, rfl, rfl, ⟨rfl, rfl⟩⟩

def m24_enc_Reader_Errs (a0 : Int) (a1 : Int) (a2 : List UInt8) : Option Int :=
  some a0

set_option maxRecDepth 100000 in
theorem m24_enc_Reader_Errs_c {a0 : Int} {a1 : Int} {a2 : List UInt8} {r : Int} (h : m24_enc_Reader_Errs a0 a1 a2 = some r) : CallsB Try.prog 24 [.box [.fn 30 [] [.lp 1 0, .lp 2 0], .i .i64 a0], .box [.i .i64 a1], .box [.sl a2.length (a2.flatMap eU8)]] [.one (.lp 0 0)] (fun y m' => y = .s (.one (.i .i64 r)) ∧ m' = [.box [.fn 30 [] [.lp 1 0, .lp 2 0], .i .i64 a0], .box [.i .i64 a1], .box [.sl a2.length (a2.flatMap eU8)]]) := by
  unfold m24_enc_Reader_Errs at h
  refine callsB_of Try.func24 rfl (nt := 9) rfl (Nat.le_of_ble_eq_true rfl) ?_
  intro w0 S0 X0 H0
  refine cseq ?_
  refine cregion ?_
  refine sv rfl (opv_as rfl) ?_
  refine snil ?_
  refine cseq ?_
  refine cseq ?_
  refine cregion ?_
  refine sv rfl (opv_mv rfl) ?_
  refine sv rfl (opv_pnil_eql Try.underlying29 rfl) ?_
  refine snil ?_
  refine ccond rfl (fun hx => Bool.noConfusion hx) (fun _ => ?_)
  refine cskip ?_
  refine then_normal ?_
  refine cseq ?_
  refine cregion ?_
  refine sv rfl (opv_mv rfl) ?_
  refine sv rfl (opv_nilCheck rfl rfl (fun _ _ _ h => by cases h)) ?_
  refine sv rfl (opv_fieldAddr_lp fi54_1 rfl) ?_
  refine sv rfl (opv_load1 ti38 rfl (.lp _ _ _ rfl) rfl) ?_
  refine sv rfl (opv_as rfl) ?_
  refine snil ?_
  refine cret ?_
  obtain rfl := Option.some.inj h
  exact ⟨Or.inr rfl, _, [0, 1, 2], [.one (.i .i64 a0)], [.box [.fn 30 [] [.lp 1 0, .lp 2 0], .i .i64 a0], .box [.i .i64 a1], .box [.sl a2.length (a2.flatMap eU8)]], (resVs_cons (ResV.tmp _ _ rfl) resVs_nil), rfl, rfl, ⟨by decide, rfl⟩, rfl, rfl, ⟨rfl, rfl⟩⟩

def m22_enc_Reader_Fails (a0 : Int) (a1 : Int) (a2 : Int) (a3 : List UInt8) : Option Int :=
  if (decide (a1 = 0)) then (some a0) else (some a1)

set_option maxRecDepth 100000 in
theorem m22_enc_Reader_Fails_c {a0 : Int} {a1 : Int} {a2 : Int} {a3 : List UInt8} {r : Int} (h : m22_enc_Reader_Fails a0 a1 a2 a3 = some r) : CallsB Try.prog 22 [.box [.fn 30 [] [.lp 1 0, .lp 2 0], .i .i64 a1], .box [.i .i64 a2], .box [.sl a3.length (a3.flatMap eU8)]] [.one (.lp 0 0), .one (.i .i64 a0)] (fun y m' => y = .tup [] ∧ m' = [.box [.fn 30 [] [.lp 1 0, .lp 2 0], .i .i64 r], .box [.i .i64 a2], .box [.sl a3.length (a3.flatMap eU8)]]) := by
  unfold m22_enc_Reader_Fails at h
  refine callsB_of Try.func22 rfl (nt := 17) rfl (Nat.le_of_ble_eq_true rfl) ?_
  intro w0 S0 X0 H0
  refine cseq ?_
  refine cregion ?_
  refine sv rfl (opv_mv rfl) ?_
  refine sv rfl (opv_pnil_neq Try.underlying29 rfl) ?_
  refine sv rfl (opv_mv rfl) ?_
  refine son rfl rfl rfl ?_
  refine sv rfl (opv_mv rfl) ?_
  refine son rfl rfl rfl ?_
  refine sv rfl (opv_nilCheck rfl rfl (fun _ _ _ h => by cases h)) ?_
  refine son rfl rfl rfl ?_
  refine sv rfl (opv_fieldAddr_lp fi54_1 rfl) ?_
  refine son rfl rfl rfl ?_
  refine sv rfl (opv_load1 ti38 rfl (.lp _ _ _ rfl) rfl) ?_
  refine son rfl rfl rfl ?_
  refine sv rfl (opv_ieql rfl rfl) ?_
  refine sv rfl (opv_pick_t rfl rfl) ?_
  refine snil ?_
  refine ccond rfl (fun hc => ?_) (fun hc => ?_)
  · replace h := ite_t hc h
    clear hc
    refine cregion ?_
    refine sv rfl (opv_mv rfl) ?_
    refine sv rfl (opv_mv rfl) ?_
    refine sv rfl (opv_nilCheck rfl rfl (fun _ _ _ h => by cases h)) ?_
    refine sv rfl (opv_fieldAddr_lp fi54_1 rfl) ?_
    refine sstore sz38 rfl rfl rfl rfl (Nat.le_of_ble_eq_true rfl) ?_
    refine smem [.box [.fn 30 [] [.lp 1 0, .lp 2 0], .i .i64 a0], .box [.i .i64 a2], .box [.sl a3.length (a3.flatMap eU8)]] rfl ?_
    refine snil0 ?_
    obtain rfl := Option.some.inj h
    exact ⟨Or.inl rfl, _, [0, 1, 2], [], [.box [.fn 30 [] [.lp 1 0, .lp 2 0], .i .i64 a0], .box [.i .i64 a2], .box [.sl a3.length (a3.flatMap eU8)]], resVs_nil, rfl, rfl, ⟨by decide, rfl⟩, rfl, rfl, ⟨rfl, rfl⟩⟩
  · replace h := ite_f hc h
    clear hc
    refine cskip ?_
    obtain rfl := Option.some.inj h
    exact ⟨Or.inl rfl, _, [0, 1, 2], [], [.box [.fn 30 [] [.lp 1 0, .lp 2 0], .i .i64 a1], .box [.i .i64 a2], .box [.sl a3.length (a3.flatMap eU8)]], resVs_nil, rfl, rfl, ⟨by decide, rfl⟩, rfl, rfl, ⟨rfl, rfl⟩⟩

def m30_enc_New_1s (a0 : Int) (a1 : Int) (a2 : List UInt8) : Option (Int × (List UInt8) × Int) :=
  (cut a2 (wI (a1 + a0)) (a2.length : Int)).bind fun c1 => some ((wI (a1 + a0)), c1, (wI (a1 + a0)))

set_option maxRecDepth 100000 in
theorem m30_enc_New_1s_c {a0 : Int} {a1 : Int} {a2 : List UInt8} {r : Int × (List UInt8) × Int} (h : m30_enc_New_1s a0 a1 a2 = some r) : CallsB Try.prog 30 [.box [.i .i64 a1], .box [.sl a2.length (a2.flatMap eU8)]] [.one (.i .i64 a0), .one (.lp 0 0), .one (.lp 1 0)] (fun y m' => y = .tup [.one (.i .i64 r.1), .one (.sl r.2.1.length (r.2.1.flatMap eU8))] ∧ m' = [.box [.i .i64 r.2.2], .box [.sl a2.length (a2.flatMap eU8)]]) := by
  unfold m30_enc_New_1s at h
  refine callsB_of Try.func30 rfl (nt := 13) rfl (Nat.le_of_ble_eq_true rfl) ?_
  intro w0 S0 X0 H0
  refine cseq ?_
  refine cregion ?_
  refine sv rfl (opv_as rfl) ?_
  refine sv rfl (opv_as rfl) ?_
  refine snil ?_
  refine cseq ?_
  refine cregion ?_
  refine sv rfl (opv_load1 ti3 rfl (.lp _ _ _ rfl) rfl) ?_
  refine sv rfl (opv_mv rfl) ?_
  refine sv rfl (opv_add rfl rfl) ?_
  refine sstore sz3 rfl rfl rfl rfl (Nat.le_of_ble_eq_true rfl) ?_
  refine smem [.box [.i .i64 (wI (a1 + a0))], .box [.sl a2.length (a2.flatMap eU8)]] rfl ?_
  refine snil ?_
  refine cseq ?_
  refine cdraw mixed (by kernel_rfl) ?_
  refine dv rfl (opv_load1 ti3 rfl (.lp _ _ _ rfl) rfl) ?_
  refine dv rfl (opv_load1 ti22 rfl (.lp _ _ _ rfl) rfl) ?_
  refine dv rfl (opv_load1 ti3 rfl (.lp _ _ _ rfl) rfl) ?_
  obtain ⟨c1, hc1, h⟩ := bind_eq h
  refine dv rfl (opv_cut (f := eU8) (lo := (wI (a1 + a0))) (hi := (a2.length : Int)) si22 (fun _ => rfl) rfl rfl rfl (bound_some rfl (cut_eq hc1).1.1) (by exact rfl) hc1) ?_
  refine dv rfl (opv_as rfl) ?_
  refine dv rfl (opv_as rfl) ?_
  refine dnil ?_
  refine then_normal ?_
  refine cret ?_
  obtain rfl := Option.some.inj h
  exact ⟨Or.inr rfl, _, [0, 1], [.one (.i .i64 (wI (a1 + a0))), .one (.sl c1.length (c1.flatMap eU8))], [.box [.i .i64 (wI (a1 + a0))], .box [.sl a2.length (a2.flatMap eU8)]], (resVs_cons (ResV.tmp _ _ rfl) (resVs_cons (ResV.tmp _ _ rfl) resVs_nil)), rfl, rfl, ⟨by decide, rfl⟩, rfl, rfl, ⟨rfl, rfl⟩⟩

def m34_enc_Reader_places_k1 (a1 : Int) (a2 : List UInt8) (b1 : Unit) : Option (Int × (List UInt8) × Int) :=
  (m30_enc_New_1s 0 a1 a2).bind fun v2 => some (v2.1, v2.2.1, v2.2.2)
def m34_enc_Reader_places (a0 : Int) (a1 : Int) (a2 : List UInt8) : Option (Int × (List UInt8) × Int) :=
  m34_enc_Reader_places_k1 a1 a2 ()

set_option maxRecDepth 100000 in
theorem m34_enc_Reader_places_c {a0 : Int} {a1 : Int} {a2 : List UInt8} {r : Int × (List UInt8) × Int} (h : m34_enc_Reader_places a0 a1 a2 = some r) : CallsB Try.prog 34 [.box [.fn 30 [] [.lp 1 0, .lp 2 0], .i .i64 a0], .box [.i .i64 a1], .box [.sl a2.length (a2.flatMap eU8)]] [.one (.lp 0 0)] (fun y m' => y = .tup [.one (.i .i64 r.1), .one (.sl r.2.1.length (r.2.1.flatMap eU8))] ∧ m' = [.box [.fn 30 [] [.lp 1 0, .lp 2 0], .i .i64 a0], .box [.i .i64 r.2.2], .box [.sl a2.length (a2.flatMap eU8)]]) := by
  unfold m34_enc_Reader_places at h
  refine callsB_of Try.func34 rfl (nt := 20) rfl (Nat.le_of_ble_eq_true rfl) ?_
  intro w0 S0 X0 H0
  refine cseq ?_
  refine cregion ?_
  refine sv rfl (opv_as rfl) ?_
  refine sv rfl (opv_as rfl) ?_
  refine snil ?_
  refine cseq ?_
  refine cseq ?_
  refine cjoin3 (Unit) (fun b1 => [(0, .s (.one (.lp 0 0)))]) (fun b1 => [.box [.fn 30 [] [.lp 1 0, .lp 2 0], .i .i64 a0], .box [.i .i64 a1], .box [.sl a2.length (a2.flatMap eU8)]]) (fun b1 => m34_enc_Reader_places_k1 a1 a2 b1 = some r) (fun _ _ => inbL_of rfl) (fun _ _ => blkinb_of rfl) (fun _ _ => Nat.le_of_ble_eq_true rfl) (fun b1 h => ?_) ?_
  · unfold m34_enc_Reader_places_k1 at h
    refine cseq ?_
    refine cregion ?_
    refine sv rfl (opv_mv rfl) ?_
    refine sv rfl (opv_nilCheck rfl rfl (fun _ _ _ h => by cases h)) ?_
    refine sv rfl (opv_fieldAddr_lp fi54_0 rfl) ?_
    refine sv rfl (opv_load1 ti52 rfl (.lp _ _ _ rfl) rfl) ?_
    obtain ⟨v2, hv2, h⟩ := bind_eq h
    refine scallB (x' := .tup [.one (.i .i64 v2.1), .one (.sl v2.2.1.length (v2.2.1.flatMap eU8))]) (M' := [.box [.fn 30 [] [.lp 1 0, .lp 2 0], .i .i64 a0], .box [.i .i64 v2.2.2], .box [.sl a2.length (a2.flatMap eU8)]]) [1, 2] rfl fn30 (.fn _ _ _ _ rfl) (opnds_cons rfl opnds_nil) (m30_enc_New_1s_c hv2) rfl rfl (by decide) rfl rfl rfl ?_
    refine sv rfl (opv_extract rfl rfl) ?_
    refine sv rfl (opv_extract rfl rfl) ?_
    refine sv rfl (opv_as rfl) ?_
    refine sv rfl (opv_as rfl) ?_
    refine snil ?_
    refine cret ?_
    obtain rfl := Option.some.inj h
    exact ⟨Or.inr rfl, _, [0, 1, 2], [.one (.i .i64 v2.1), .one (.sl v2.2.1.length (v2.2.1.flatMap eU8))], [.box [.fn 30 [] [.lp 1 0, .lp 2 0], .i .i64 a0], .box [.i .i64 v2.2.2], .box [.sl a2.length (a2.flatMap eU8)]], (resVs_cons (ResV.tmp _ _ rfl) (resVs_cons (ResV.tmp _ _ rfl) resVs_nil)), rfl, rfl, ⟨by decide, rfl⟩, rfl, rfl, ⟨rfl, rfl⟩⟩
  · skip
    refine cregion ?_
    refine sv rfl (opv_mv rfl) ?_
    refine sv rfl (opv_pnil_eql Try.underlying29 rfl) ?_
    refine sv rfl (opv_mv rfl) ?_
    refine son rfl rfl rfl ?_
    refine sv rfl (opv_mv rfl) ?_
    refine son rfl rfl rfl ?_
    refine sv rfl (opv_nilCheck rfl rfl (fun _ _ _ h => by cases h)) ?_
    refine son rfl rfl rfl ?_
    refine sv rfl (opv_fieldAddr_lp fi54_0 rfl) ?_
    refine son rfl rfl rfl ?_
    refine sv rfl (opv_load1 ti52 rfl (.lp _ _ _ rfl) rfl) ?_
    refine son rfl rfl rfl ?_
    refine sv rfl (opv_fnil_eql Try.underlying52 rfl rfl) ?_
    refine sv rfl (opv_pick_f rfl rfl) ?_
    refine snil ?_
    refine ccond rfl (fun hx => Bool.noConfusion hx) (fun _ => ?_)
    refine cskip ?_
    refine then_normal ?_
    exact ⟨(), _, h, ⟨rfl, trivial⟩, rfl⟩

def m31_enc_Reader_takes_k3 (a0 : Int) (a1 : Int) (v1 : Int × (List UInt8) × Int) (b3 : Int) : Option ((List UInt8) × Int × Int) :=
  (cut v1.2.1 0 a0).bind fun c4 => some (c4, a1, b3)
def m31_enc_Reader_takes (a0 : Int) (a1 : Int) (a2 : Int) (a3 : List UInt8) : Option ((List UInt8) × Int × Int) :=
  (m34_enc_Reader_places a1 a2 a3).bind fun v1 => if (decide ((v1.2.1.length : Int) < a0)) then ((m22_enc_Reader_Fails 2 a1 v1.2.2 a3).bind fun v2 => some (([] : List UInt8), v2, v1.2.2)) else (if (decide (0 < a0)) then ((m30_enc_New_1s a0 v1.2.2 a3).bind fun v5 => m31_enc_Reader_takes_k3 a0 a1 v1 v5.2.2) else (m31_enc_Reader_takes_k3 a0 a1 v1 v1.2.2))

set_option maxRecDepth 100000 in
theorem m31_enc_Reader_takes_c {a0 : Int} {a1 : Int} {a2 : Int} {a3 : List UInt8} {r : (List UInt8) × Int × Int} (h : m31_enc_Reader_takes a0 a1 a2 a3 = some r) : CallsB Try.prog 31 [.box [.fn 30 [] [.lp 1 0, .lp 2 0], .i .i64 a1], .box [.i .i64 a2], .box [.sl a3.length (a3.flatMap eU8)]] [.one (.lp 0 0), .one (.i .i64 a0)] (fun y m' => y = .s (.one (.sl r.1.length (r.1.flatMap eU8))) ∧ m' = [.box [.fn 30 [] [.lp 1 0, .lp 2 0], .i .i64 r.2.1], .box [.i .i64 r.2.2], .box [.sl a3.length (a3.flatMap eU8)]]) := by
  unfold m31_enc_Reader_takes at h
  refine callsB_of Try.func31 rfl (nt := 29) rfl (Nat.le_of_ble_eq_true rfl) ?_
  intro w0 S0 X0 H0
  refine cseq ?_
  refine cregion ?_
  refine sv rfl (opv_as rfl) ?_
  refine snil ?_
  refine cseq ?_
  refine cregion ?_
  refine sv rfl (opv_mv rfl) ?_
  obtain ⟨v1, hv1, h⟩ := bind_eq h
  refine scallB (x' := .tup [.one (.i .i64 v1.1), .one (.sl v1.2.1.length (v1.2.1.flatMap eU8))]) (M' := [.box [.fn 30 [] [.lp 1 0, .lp 2 0], .i .i64 a1], .box [.i .i64 v1.2.2], .box [.sl a3.length (a3.flatMap eU8)]]) [0, 1, 2] rfl fn34 (.func _) (opnds_cons rfl opnds_nil) (m34_enc_Reader_places_c hv1) rfl rfl (by decide) rfl rfl rfl ?_
  refine sv rfl (opv_mvt rfl) ?_
  refine sv rfl (opv_extract rfl rfl) ?_
  refine sv rfl (opv_extract rfl rfl) ?_
  refine sv rfl (opv_as rfl) ?_
  refine sv rfl (opv_as rfl) ?_
  refine snil ?_
  refine cseq ?_
  refine cseq ?_
  refine cregion ?_
  refine sv rfl (opv_mv rfl) ?_
  refine sv rfl (opv_len_sl si22 rfl) ?_
  refine sv rfl (opv_mv rfl) ?_
  refine sv rfl (opv_lss rfl rfl) ?_
  refine snil ?_
  refine ccond rfl (fun hc => ?_) (fun hc => ?_)
  · replace h := ite_t hc h
    clear hc
    refine cseq ?_
    refine cregion ?_
    refine sv rfl (opv_mv rfl) ?_
    obtain ⟨v2, hv2, h⟩ := bind_eq h
    refine scallB (x' := .tup []) (M' := [.box [.fn 30 [] [.lp 1 0, .lp 2 0], .i .i64 v2], .box [.i .i64 v1.2.2], .box [.sl a3.length (a3.flatMap eU8)]]) [0, 1, 2] rfl fn22 (.func _) (opnds_cons rfl (opnds_cons rfl opnds_nil)) (m22_enc_Reader_Fails_c hv2) rfl rfl (by decide) rfl rfl rfl ?_
    refine snil ?_
    refine cseq ?_
    refine cregion ?_
    refine sv rfl (opv_as rfl) ?_
    refine snil ?_
    refine cpub 4 rfl (by (repeat' first | exact PubA.nil _ | apply PubA.cons | apply PubV.one | apply PubV.agg | exact PubL.nil | exact PubL.id _ rfl | exact PubLs.nil _ | apply PubLs.cons)) ?_
    refine cret ?_
    refine then_ret ?_
    obtain rfl := Option.some.inj h
    exact ⟨Or.inr rfl, _, [0, 1, 2], [.one (.sl ([] : List UInt8).length (([] : List UInt8).flatMap eU8))], [.box [.fn 30 [] [.lp 1 0, .lp 2 0], .i .i64 v2], .box [.i .i64 v1.2.2], .box [.sl a3.length (a3.flatMap eU8)]], (resVs_cons (ResV.tmp _ _ rfl) resVs_nil), rfl, rfl, ⟨by decide, rfl⟩, rfl, rfl, ⟨rfl, rfl⟩⟩
  · replace h := ite_f hc h
    clear hc
    refine cskip ?_
    refine then_normal ?_
    refine cseq ?_
    refine cseq ?_
    refine cregion ?_
    refine sv rfl (opv_mv rfl) ?_
    refine sv rfl (opv_gtr rfl rfl) ?_
    refine snil ?_
    refine cjoin (Int) (fun b3 => [(1, .s (.one (.i .i64 a0))), (6, .s (.one (.sl v1.2.1.length (v1.2.1.flatMap eU8))))]) (fun b3 => [.box [.fn 30 [] [.lp 1 0, .lp 2 0], .i .i64 a1], .box [.i .i64 b3], .box [.sl a3.length (a3.flatMap eU8)]]) (fun b3 => m31_enc_Reader_takes_k3 a0 a1 v1 b3 = some r) (fun _ _ => inbL_of rfl) (fun _ _ => blkinb_of rfl) (fun _ _ => Nat.le_of_ble_eq_true rfl) (fun b3 h => ?_) ?_
    · unfold m31_enc_Reader_takes_k3 at h
      refine cseq ?_
      refine cregion ?_
      refine sv rfl (opv_mv rfl) ?_
      refine sv rfl (opv_mv rfl) ?_
      obtain ⟨c4, hc4, h⟩ := bind_eq h
      refine sv rfl (opv_cut (f := eU8) (lo := 0) (hi := a0) si22 (fun _ => rfl) rfl rfl rfl bound_none (bound_some rfl (Int.le_trans (cut_eq hc4).1.1 (cut_eq hc4).1.2.1)) hc4) ?_
      refine sv rfl (opv_as rfl) ?_
      refine snil ?_
      refine cret ?_
      obtain rfl := Option.some.inj h
      exact ⟨Or.inr rfl, _, [0, 1, 2], [.one (.sl c4.length (c4.flatMap eU8))], [.box [.fn 30 [] [.lp 1 0, .lp 2 0], .i .i64 a1], .box [.i .i64 b3], .box [.sl a3.length (a3.flatMap eU8)]], (resVs_cons (ResV.tmp _ _ rfl) resVs_nil), rfl, rfl, ⟨by decide, rfl⟩, rfl, rfl, ⟨rfl, rfl⟩⟩
    · skip
      refine ccond rfl (fun hc => ?_) (fun hc => ?_)
      · replace h := ite_t hc h
        clear hc
        refine cregion ?_
        refine sv rfl (opv_mv rfl) ?_
        refine sv rfl (opv_nilCheck rfl rfl (fun _ _ _ h => by cases h)) ?_
        refine sv rfl (opv_fieldAddr_lp fi54_0 rfl) ?_
        refine sv rfl (opv_load1 ti52 rfl (.lp _ _ _ rfl) rfl) ?_
        refine sv rfl (opv_mv rfl) ?_
        obtain ⟨v5, hv5, h⟩ := bind_eq h
        refine scallB (x' := .tup [.one (.i .i64 v5.1), .one (.sl v5.2.1.length (v5.2.1.flatMap eU8))]) (M' := [.box [.fn 30 [] [.lp 1 0, .lp 2 0], .i .i64 a1], .box [.i .i64 v5.2.2], .box [.sl a3.length (a3.flatMap eU8)]]) [1, 2] rfl fn30 (.fn _ _ _ _ rfl) (opnds_cons rfl opnds_nil) (m30_enc_New_1s_c hv5) rfl rfl (by decide) rfl rfl rfl ?_
        refine snil ?_
        exact ⟨v5.2.2, _, h, ⟨rfl, rfl, trivial⟩, rfl⟩
      · replace h := ite_f hc h
        clear hc
        refine cskip ?_
        refine then_normal ?_
        exact ⟨v1.2.2, _, h, ⟨rfl, rfl, trivial⟩, rfl⟩

def m16_enc_Reader_Us_k4 (v3 : (List UInt8) × Int × Int) (b4 : (BitVec 64)) : Option ((BitVec 64) × Int × Int) :=
  some (b4, v3.2.1, v3.2.2)

def m16_enc_Reader_Us_s5 (v3 : (List UInt8) × Int × Int) (s5 : (BitVec 64) × Int) : Option (LB ((BitVec 64) × Int) ((BitVec 64))) :=
  if (decide (s5.2 < (v3.1.length : Int))) then ((idx v3.1 s5.2).bind fun u6 => if 0 ≤ (wI (8 * s5.2)) then (some (.cont ((s5.1 ||| ((u6.toBitVec.setWidth 64) <<< (wI (8 * s5.2)).toNat)), (wI (s5.2 + 1))))) else none) else (some (.brk s5.1))

def m16_enc_Reader_Us_k2 (a0 : Int) (a1 : Int) (a2 : Int) (a3 : List UInt8) (b2 : Unit) : Option ((BitVec 64) × Int × Int) :=
  (m31_enc_Reader_takes a0 a1 a2 a3).bind fun v3 => (iterB (m16_enc_Reader_Us_s5 v3) fuel (0#64, 0)).bind fun e8 => m16_enc_Reader_Us_k4 v3 e8
def m16_enc_Reader_Us (a0 : Int) (a1 : Int) (a2 : Int) (a3 : List UInt8) : Option ((BitVec 64) × Int × Int) :=
  (m24_enc_Reader_Errs a1 a2 a3).bind fun v1 => if (!decide (v1 = 0)) then (some (0#64, a1, a2)) else (if (decide (a0 < 1)) then ((m22_enc_Reader_Fails 1 a1 a2 a3).bind fun v9 => some (0#64, v9, a2)) else (if (decide (8 < a0)) then ((m22_enc_Reader_Fails 1 a1 a2 a3).bind fun v10 => some (0#64, v10, a2)) else (m16_enc_Reader_Us_k2 a0 a1 a2 a3 ())))

set_option maxRecDepth 100000 in
theorem m16_enc_Reader_Us_c {a0 : Int} {a1 : Int} {a2 : Int} {a3 : List UInt8} {r : (BitVec 64) × Int × Int} (h : m16_enc_Reader_Us a0 a1 a2 a3 = some r) : CallsB Try.prog 16 [.box [.fn 30 [] [.lp 1 0, .lp 2 0], .i .i64 a1], .box [.i .i64 a2], .box [.sl a3.length (a3.flatMap eU8)]] [.one (.lp 0 0), .one (.i .i64 a0)] (fun y m' => y = .s (.one (.i .u64 (r.1.toNat : Int))) ∧ m' = [.box [.fn 30 [] [.lp 1 0, .lp 2 0], .i .i64 r.2.1], .box [.i .i64 r.2.2], .box [.sl a3.length (a3.flatMap eU8)]]) := by
  unfold m16_enc_Reader_Us at h
  refine callsB_of Try.func16 rfl (nt := 37) rfl (Nat.le_of_ble_eq_true rfl) ?_
  intro w0 S0 X0 H0
  refine cseq ?_
  refine cregion ?_
  refine sv rfl (opv_as rfl) ?_
  refine snil ?_
  refine cseq ?_
  refine cseq ?_
  refine cregion ?_
  refine sv rfl (opv_mv rfl) ?_
  obtain ⟨v1, hv1, h⟩ := bind_eq h
  refine scallB (x' := .s (.one (.i .i64 v1))) (M' := [.box [.fn 30 [] [.lp 1 0, .lp 2 0], .i .i64 a1], .box [.i .i64 a2], .box [.sl a3.length (a3.flatMap eU8)]]) [0, 1, 2] rfl fn24 (.func _) (opnds_cons rfl opnds_nil) (m24_enc_Reader_Errs_c hv1) rfl rfl (by decide) rfl rfl rfl ?_
  refine sv rfl (opv_ineq rfl rfl) ?_
  refine snil ?_
  refine ccond rfl (fun hc => ?_) (fun hc => ?_)
  · replace h := ite_t hc h
    clear hc
    refine cseq ?_
    refine cregion ?_
    refine sv rfl (opv_as rfl) ?_
    refine snil ?_
    refine cret ?_
    refine then_ret ?_
    obtain rfl := Option.some.inj h
    exact ⟨Or.inr rfl, _, [0, 1, 2], [.one (.i .u64 ((0#64).toNat : Int))], [.box [.fn 30 [] [.lp 1 0, .lp 2 0], .i .i64 a1], .box [.i .i64 a2], .box [.sl a3.length (a3.flatMap eU8)]], (resVs_cons (ResV.tmp _ _ rfl) resVs_nil), rfl, rfl, ⟨by decide, rfl⟩, rfl, rfl, ⟨rfl, rfl⟩⟩
  · replace h := ite_f hc h
    clear hc
    refine cskip ?_
    refine then_normal ?_
    refine cseq ?_
    refine cseq ?_
    refine cjoin3 (Unit) (fun b2 => [(0, .s (.one (.lp 0 0))), (1, .s (.one (.i .i64 a0)))]) (fun b2 => [.box [.fn 30 [] [.lp 1 0, .lp 2 0], .i .i64 a1], .box [.i .i64 a2], .box [.sl a3.length (a3.flatMap eU8)]]) (fun b2 => m16_enc_Reader_Us_k2 a0 a1 a2 a3 b2 = some r) (fun _ _ => inbL_of rfl) (fun _ _ => blkinb_of rfl) (fun _ _ => Nat.le_of_ble_eq_true rfl) (fun b2 h => ?_) ?_
    · unfold m16_enc_Reader_Us_k2 at h
      refine cseq ?_
      refine cregion ?_
      refine sv rfl (opv_as rfl) ?_
      refine snil ?_
      refine cseq ?_
      refine cseq ?_
      refine cregion ?_
      refine sv rfl (opv_mv rfl) ?_
      refine sv rfl (opv_mv rfl) ?_
      obtain ⟨v3, hv3, h⟩ := bind_eq h
      refine scallB (x' := .s (.one (.sl v3.1.length (v3.1.flatMap eU8)))) (M' := [.box [.fn 30 [] [.lp 1 0, .lp 2 0], .i .i64 v3.2.1], .box [.i .i64 v3.2.2], .box [.sl a3.length (a3.flatMap eU8)]]) [0, 1, 2] rfl fn31 (.func _) (opnds_cons rfl (opnds_cons rfl opnds_nil)) (m31_enc_Reader_takes_c hv3) rfl rfl (by decide) rfl rfl rfl ?_
      refine sv rfl (opv_len_sl si22 rfl) ?_
      refine sv rfl (opv_mv rfl) ?_
      refine snil ?_
      refine cjoin ((BitVec 64)) (fun b4 => [(5, .s (.one (.i .u64 (b4.toNat : Int))))]) (fun b4 => [.box [.fn 30 [] [.lp 1 0, .lp 2 0], .i .i64 v3.2.1], .box [.i .i64 v3.2.2], .box [.sl a3.length (a3.flatMap eU8)]]) (fun b4 => m16_enc_Reader_Us_k4 v3 b4 = some r) (fun _ _ => inbL_of rfl) (fun _ _ => blkinb_of rfl) (fun _ _ => Nat.le_of_ble_eq_true rfl) (fun b4 h => ?_) ?_
      · unfold m16_enc_Reader_Us_k4 at h
        refine cseq ?_
        refine cregion ?_
        refine sv rfl (opv_mv rfl) ?_
        refine sv rfl (opv_as rfl) ?_
        refine snil ?_
        refine cret ?_
        obtain rfl := Option.some.inj h
        exact ⟨Or.inr rfl, _, [0, 1, 2], [.one (.i .u64 (b4.toNat : Int))], [.box [.fn 30 [] [.lp 1 0, .lp 2 0], .i .i64 v3.2.1], .box [.i .i64 v3.2.2], .box [.sl a3.length (a3.flatMap eU8)]], (resVs_cons (ResV.tmp _ _ rfl) resVs_nil), rfl, rfl, ⟨by decide, rfl⟩, rfl, rfl, ⟨rfl, rfl⟩⟩
      · skip
        refine cblock ?_
        obtain ⟨x5, hx5, ho5⟩ := bind_eq h
        refine awc_loop (G := Nat × ((BitVec 64) × Int)) (fun g => [(5, .s (.one (.i .u64 (g.2.1.toNat : Int)))), (21, .s (.one (.sl v3.1.length (v3.1.flatMap eU8)))), (22, .s (.one (.i .i64 (v3.1.length : Int)))), (23, .s (.one (.i .i64 g.2.2)))]) (fun g => [.box [.fn 30 [] [.lp 1 0, .lp 2 0], .i .i64 v3.2.1], .box [.i .i64 v3.2.2], .box [.sl a3.length (a3.flatMap eU8)]]) (fun g => iterB (m16_enc_Reader_Us_s5 v3) g.1 g.2 = some x5) (fun g => g.1) (fuel, (0#64, 0)) hx5 ⟨rfl, rfl, rfl, rfl, trivial⟩ [] rfl (fun _ _ => inbL_of rfl) (fun _ _ => blkinb_of rfl) (fun _ _ => Nat.le_of_ble_eq_true rfl) ?_
        clear hx5 h
        rintro ⟨n5, s5⟩ h
        obtain ⟨n5, y5, rfl, h, hk5⟩ := iterB_eq h
        unfold m16_enc_Reader_Us_s5 at h
        refine cseq ?_
        refine cregion ?_
        refine sv rfl (opv_lss rfl rfl) ?_
        refine snil ?_
        refine cseq ?_
        refine ccond rfl (fun hc => ?_) (fun hc => ?_)
        · replace h := ite_t hc h
          clear hc
          refine cskip ?_
          refine then_normal ?_
          refine cseq ?_
          refine cblock ?_
          refine cseq ?_
          refine cregion ?_
          refine sv rfl (opv_mv rfl) ?_
          obtain ⟨u6, hu6, h⟩ := bind_eq h
          refine sv rfl (opv_ix (f := eU8) si22 (fun _ => rfl) rfl rfl rfl rfl hu6) ?_
          refine sv rfl (opv_load1 ti5 rfl (.cp _) rfl) ?_
          refine sv rfl (opv_as rfl) ?_
          refine sv rfl (opv_as rfl) ?_
          refine snil ?_
          refine cregion ?_
          refine sv rfl (opv_mv rfl) ?_
          refine sv rfl (opv_mv rfl) ?_
          refine sv rfl (opv_conv_bv (k := .u8) (a := u6.toBitVec) rfl Try.underlying5 Try.underlying23 rfl rfl) ?_
          refine sv rfl (opv_mv rfl) ?_
          refine sv rfl (opv_mul rfl rfl) ?_
          obtain ⟨hz7, h⟩ := chk_eq h
          refine sv rfl (opv_shl_u64 (a := (u6.toBitVec.setWidth 64)) rfl rfl rfl hz7) ?_
          refine sv rfl (opv_or_u64 (a := s5.1) (b := ((u6.toBitVec.setWidth 64) <<< (wI (8 * s5.2)).toNat)) rfl rfl rfl rfl) ?_
          refine sv rfl (opv_as rfl) ?_
          refine snil0 ?_
          refine block_normal ?_
          refine then_normal ?_
          refine cregion ?_
          refine sv rfl (opv_add rfl rfl) ?_
          refine sv rfl (opv_mv rfl) ?_
          refine snil ?_
          obtain rfl := Option.some.inj h
          exact ⟨(n5, ((s5.1 ||| ((u6.toBitVec.setWidth 64) <<< (wI (8 * s5.2)).toNat)), (wI (s5.2 + 1)))), _, hk5, ⟨rfl, rfl, rfl, rfl, trivial⟩, rfl, Nat.lt_succ_self _⟩
        · replace h := ite_f hc h
          clear hc
          refine cexit ?_
          refine then_exit ?_
          refine then_exit ?_
          refine block_hit ?_
          refine then_normal ?_
          obtain rfl := Option.some.inj h
          obtain rfl : _ = x5 := hk5
          exact ⟨s5.1, _, ho5, ⟨rfl, trivial⟩, rfl⟩
    · skip
      refine cregion ?_
      refine sv rfl (opv_mv rfl) ?_
      refine sv rfl (opv_lss rfl rfl) ?_
      refine sv rfl (opv_mv rfl) ?_
      refine ssplit 13 rfl (fun hc => ?_) (fun hc => ?_)
      · replace h := ite_t hc h
        clear hc
        refine soff rfl rfl rfl rfl ?_
        refine soff rfl rfl rfl rfl ?_
        refine sv rfl (opv_pick_t rfl rfl) ?_
        refine snil ?_
        refine ccond rfl (fun _ => ?_) (fun hx => Bool.noConfusion hx)
        refine cseq ?_
        refine cregion ?_
        refine sv rfl (opv_mv rfl) ?_
        obtain ⟨v9, hv9, h⟩ := bind_eq h
        refine scallB (x' := .tup []) (M' := [.box [.fn 30 [] [.lp 1 0, .lp 2 0], .i .i64 v9], .box [.i .i64 a2], .box [.sl a3.length (a3.flatMap eU8)]]) [0, 1, 2] rfl fn22 (.func _) (opnds_cons rfl (opnds_cons rfl opnds_nil)) (m22_enc_Reader_Fails_c hv9) rfl rfl (by decide) rfl rfl rfl ?_
        refine snil ?_
        refine cseq ?_
        refine cregion ?_
        refine sv rfl (opv_as rfl) ?_
        refine snil ?_
        refine cret ?_
        refine then_ret ?_
        obtain rfl := Option.some.inj h
        exact ⟨Or.inr rfl, _, [0, 1, 2], [.one (.i .u64 ((0#64).toNat : Int))], [.box [.fn 30 [] [.lp 1 0, .lp 2 0], .i .i64 v9], .box [.i .i64 a2], .box [.sl a3.length (a3.flatMap eU8)]], (resVs_cons (ResV.tmp _ _ rfl) resVs_nil), rfl, rfl, ⟨by decide, rfl⟩, rfl, rfl, ⟨rfl, rfl⟩⟩
      · replace h := ite_f hc h
        clear hc
        refine son rfl rfl rfl ?_
        refine sv rfl (opv_mv rfl) ?_
        refine son rfl rfl rfl ?_
        refine sv rfl (opv_gtr rfl rfl) ?_
        refine sv rfl (opv_pick_f rfl rfl) ?_
        refine snil ?_
        refine ccond rfl (fun hc => ?_) (fun hc => ?_)
        · replace h := ite_t hc h
          clear hc
          refine cseq ?_
          refine cregion ?_
          refine sv rfl (opv_mv rfl) ?_
          obtain ⟨v10, hv10, h⟩ := bind_eq h
          refine scallB (x' := .tup []) (M' := [.box [.fn 30 [] [.lp 1 0, .lp 2 0], .i .i64 v10], .box [.i .i64 a2], .box [.sl a3.length (a3.flatMap eU8)]]) [0, 1, 2] rfl fn22 (.func _) (opnds_cons rfl (opnds_cons rfl opnds_nil)) (m22_enc_Reader_Fails_c hv10) rfl rfl (by decide) rfl rfl rfl ?_
          refine snil ?_
          refine cseq ?_
          refine cregion ?_
          refine sv rfl (opv_as rfl) ?_
          refine snil ?_
          refine cret ?_
          refine then_ret ?_
          obtain rfl := Option.some.inj h
          exact ⟨Or.inr rfl, _, [0, 1, 2], [.one (.i .u64 ((0#64).toNat : Int))], [.box [.fn 30 [] [.lp 1 0, .lp 2 0], .i .i64 v10], .box [.i .i64 a2], .box [.sl a3.length (a3.flatMap eU8)]], (resVs_cons (ResV.tmp _ _ rfl) resVs_nil), rfl, rfl, ⟨by decide, rfl⟩, rfl, rfl, ⟨rfl, rfl⟩⟩
        · replace h := ite_f hc h
          clear hc
          refine cskip ?_
          refine then_normal ?_
          exact ⟨(), _, h, ⟨rfl, rfl, trivial⟩, rfl⟩

def m26_enc_Reader_Ends (a0 : Int) (a1 : Int) (a2 : List UInt8) : Option (Int × Int) :=
  (m24_enc_Reader_Errs a0 a1 a2).bind fun v1 => if (!decide (v1 = 0)) then (some (v1, a1)) else ((m34_enc_Reader_places a0 a1 a2).bind fun v2 => if (decide (0 < (v2.2.1.length : Int))) then (some (3, v2.2.2)) else (some (0, v2.2.2)))

set_option maxRecDepth 100000 in
theorem m26_enc_Reader_Ends_c {a0 : Int} {a1 : Int} {a2 : List UInt8} {r : Int × Int} (h : m26_enc_Reader_Ends a0 a1 a2 = some r) : CallsB Try.prog 26 [.box [.fn 30 [] [.lp 1 0, .lp 2 0], .i .i64 a0], .box [.i .i64 a1], .box [.sl a2.length (a2.flatMap eU8)]] [.one (.lp 0 0)] (fun y m' => y = .s (.one (.i .i64 r.1)) ∧ m' = [.box [.fn 30 [] [.lp 1 0, .lp 2 0], .i .i64 a0], .box [.i .i64 r.2], .box [.sl a2.length (a2.flatMap eU8)]]) := by
  unfold m26_enc_Reader_Ends at h
  refine callsB_of Try.func26 rfl (nt := 19) rfl (Nat.le_of_ble_eq_true rfl) ?_
  intro w0 S0 X0 H0
  refine cseq ?_
  refine cregion ?_
  refine sv rfl (opv_as rfl) ?_
  refine snil ?_
  refine cseq ?_
  refine cseq ?_
  refine cregion ?_
  refine sv rfl (opv_mv rfl) ?_
  obtain ⟨v1, hv1, h⟩ := bind_eq h
  refine scallB (x' := .s (.one (.i .i64 v1))) (M' := [.box [.fn 30 [] [.lp 1 0, .lp 2 0], .i .i64 a0], .box [.i .i64 a1], .box [.sl a2.length (a2.flatMap eU8)]]) [0, 1, 2] rfl fn24 (.func _) (opnds_cons rfl opnds_nil) (m24_enc_Reader_Errs_c hv1) rfl rfl (by decide) rfl rfl rfl ?_
  refine sv rfl (opv_as rfl) ?_
  refine snil ?_
  refine cseq ?_
  refine cregion ?_
  refine sv rfl (opv_mv rfl) ?_
  refine sv rfl (opv_ineq rfl rfl) ?_
  refine snil ?_
  refine ccond rfl (fun hc => ?_) (fun hc => ?_)
  · replace h := ite_t hc h
    clear hc
    refine cseq ?_
    refine cregion ?_
    refine sv rfl (opv_mv rfl) ?_
    refine sv rfl (opv_as rfl) ?_
    refine snil ?_
    refine cret ?_
    refine then_ret ?_
    obtain rfl := Option.some.inj h
    exact ⟨Or.inr rfl, _, [0, 1, 2], [.one (.i .i64 v1)], [.box [.fn 30 [] [.lp 1 0, .lp 2 0], .i .i64 a0], .box [.i .i64 a1], .box [.sl a2.length (a2.flatMap eU8)]], (resVs_cons (ResV.tmp _ _ rfl) resVs_nil), rfl, rfl, ⟨by decide, rfl⟩, rfl, rfl, ⟨rfl, rfl⟩⟩
  · replace h := ite_f hc h
    clear hc
    refine cskip ?_
    refine then_normal ?_
    refine cseq ?_
    refine cseq ?_
    refine cregion ?_
    refine sv rfl (opv_mv rfl) ?_
    obtain ⟨v2, hv2, h⟩ := bind_eq h
    refine scallB (x' := .tup [.one (.i .i64 v2.1), .one (.sl v2.2.1.length (v2.2.1.flatMap eU8))]) (M' := [.box [.fn 30 [] [.lp 1 0, .lp 2 0], .i .i64 a0], .box [.i .i64 v2.2.2], .box [.sl a2.length (a2.flatMap eU8)]]) [0, 1, 2] rfl fn34 (.func _) (opnds_cons rfl opnds_nil) (m34_enc_Reader_places_c hv2) rfl rfl (by decide) rfl rfl rfl ?_
    refine sv rfl (opv_mvt rfl) ?_
    refine sv rfl (opv_extract rfl rfl) ?_
    refine sv rfl (opv_extract rfl rfl) ?_
    refine sv rfl (opv_as rfl) ?_
    refine sv rfl (opv_as rfl) ?_
    refine snil ?_
    refine cseq ?_
    refine cregion ?_
    refine sv rfl (opv_mv rfl) ?_
    refine sv rfl (opv_len_sl si22 rfl) ?_
    refine sv rfl (opv_gtr rfl rfl) ?_
    refine snil ?_
    refine ccond rfl (fun hc => ?_) (fun hc => ?_)
    · replace h := ite_t hc h
      clear hc
      refine cseq ?_
      refine cregion ?_
      refine sv rfl (opv_as rfl) ?_
      refine snil ?_
      refine cret ?_
      refine then_ret ?_
      obtain rfl := Option.some.inj h
      exact ⟨Or.inr rfl, _, [0, 1, 2], [.one (.i .i64 3)], [.box [.fn 30 [] [.lp 1 0, .lp 2 0], .i .i64 a0], .box [.i .i64 v2.2.2], .box [.sl a2.length (a2.flatMap eU8)]], (resVs_cons (ResV.tmp _ _ rfl) resVs_nil), rfl, rfl, ⟨by decide, rfl⟩, rfl, rfl, ⟨rfl, rfl⟩⟩
    · replace h := ite_f hc h
      clear hc
      refine cskip ?_
      refine then_normal ?_
      refine cseq ?_
      refine cregion ?_
      refine sv rfl (opv_as rfl) ?_
      refine snil ?_
      refine cret ?_
      obtain rfl := Option.some.inj h
      exact ⟨Or.inr rfl, _, [0, 1, 2], [.one (.i .i64 0)], [.box [.fn 30 [] [.lp 1 0, .lp 2 0], .i .i64 a0], .box [.i .i64 v2.2.2], .box [.sl a2.length (a2.flatMap eU8)]], (resVs_cons (ResV.tmp _ _ rfl) resVs_nil), rfl, rfl, ⟨by decide, rfl⟩, rfl, rfl, ⟨rfl, rfl⟩⟩

def m25_enc_Reader_Ats (a0 : Int) (a1 : Int) (a2 : List UInt8) : Option (Int × Int) :=
  (m34_enc_Reader_places a0 a1 a2).bind fun v1 => some (v1.1, v1.2.2)

set_option maxRecDepth 100000 in
theorem m25_enc_Reader_Ats_c {a0 : Int} {a1 : Int} {a2 : List UInt8} {r : Int × Int} (h : m25_enc_Reader_Ats a0 a1 a2 = some r) : CallsB Try.prog 25 [.box [.fn 30 [] [.lp 1 0, .lp 2 0], .i .i64 a0], .box [.i .i64 a1], .box [.sl a2.length (a2.flatMap eU8)]] [.one (.lp 0 0)] (fun y m' => y = .s (.one (.i .i64 r.1)) ∧ m' = [.box [.fn 30 [] [.lp 1 0, .lp 2 0], .i .i64 a0], .box [.i .i64 r.2], .box [.sl a2.length (a2.flatMap eU8)]]) := by
  unfold m25_enc_Reader_Ats at h
  refine callsB_of Try.func25 rfl (nt := 11) rfl (Nat.le_of_ble_eq_true rfl) ?_
  intro w0 S0 X0 H0
  refine cseq ?_
  refine cregion ?_
  refine sv rfl (opv_as rfl) ?_
  refine snil ?_
  refine cseq ?_
  refine cregion ?_
  refine sv rfl (opv_mv rfl) ?_
  obtain ⟨v1, hv1, h⟩ := bind_eq h
  refine scallB (x' := .tup [.one (.i .i64 v1.1), .one (.sl v1.2.1.length (v1.2.1.flatMap eU8))]) (M' := [.box [.fn 30 [] [.lp 1 0, .lp 2 0], .i .i64 a0], .box [.i .i64 v1.2.2], .box [.sl a2.length (a2.flatMap eU8)]]) [0, 1, 2] rfl fn34 (.func _) (opnds_cons rfl opnds_nil) (m34_enc_Reader_places_c hv1) rfl rfl (by decide) rfl rfl rfl ?_
  refine sv rfl (opv_mvt rfl) ?_
  refine sv rfl (opv_extract rfl rfl) ?_
  refine sv rfl (opv_extract rfl rfl) ?_
  refine sv rfl (opv_as rfl) ?_
  refine sv rfl (opv_as rfl) ?_
  refine snil ?_
  refine cseq ?_
  refine cregion ?_
  refine sv rfl (opv_mv rfl) ?_
  refine sv rfl (opv_as rfl) ?_
  refine snil ?_
  refine cret ?_
  obtain rfl := Option.some.inj h
  exact ⟨Or.inr rfl, _, [0, 1, 2], [.one (.i .i64 v1.1)], [.box [.fn 30 [] [.lp 1 0, .lp 2 0], .i .i64 a0], .box [.i .i64 v1.2.2], .box [.sl a2.length (a2.flatMap eU8)]], (resVs_cons (ResV.tmp _ _ rfl) resVs_nil), rfl, rfl, ⟨by decide, rfl⟩, rfl, rfl, ⟨rfl, rfl⟩⟩

def m9_l01_awake  : Option Bool :=
  (m10_enc_U ([] : List UInt8) (4660#64) 2).bind fun v1 => (m14_enc_News v1).bind fun v2 => (m16_enc_Reader_Us 2 v2.1 v2.2.1 v2.2.2).bind fun v3 => if (decide ((v1.length : Int) = 2)) then ((idx v1 0).bind fun u4 => if (decide ((u4.toBitVec.toNat : Int) = (52 : Int))) then ((idx v1 1).bind fun u5 => if (decide ((u5.toBitVec.toNat : Int) = (18 : Int))) then (if (decide ((v3.1.toNat : Int) = (4660 : Int))) then ((m26_enc_Reader_Ends v3.2.1 v3.2.2 v2.2.2).bind fun v6 => if (decide (v6.1 = 0)) then ((m25_enc_Reader_Ats v3.2.1 v6.2 v2.2.2).bind fun v7 => some (decide (v7.1 = 2))) else (some false)) else (some false)) else (some false)) else (some false)) else (some false)

set_option maxRecDepth 100000 in
theorem m9_l01_awake_c  {r : Bool} (h : m9_l01_awake = some r) : CallsA Try.prog 9 [] (· = .s (.one (.b r))) := by
  unfold m9_l01_awake at h
  refine callsA_of Try.func9 rfl (nt := 38) rfl (Nat.le_of_ble_eq_true rfl) ?_
  intro w0 S0
  refine cseq ?_
  refine cregion ?_
  refine sv rfl (opv_as rfl) ?_
  refine snil ?_
  refine cseq ?_
  refine cregion ?_
  obtain ⟨v1, hv1, h⟩ := bind_eq h
  refine scall1 rfl fn10 (opnds_cons rfl (opnds_cons rfl (opnds_cons rfl opnds_nil))) (pubC rfl) (m10_enc_U_c hv1) ?_
  refine sv rfl (opv_as rfl) ?_
  refine snil ?_
  refine cseq ?_
  refine cregion ?_
  refine sv rfl (opv_mv rfl) ?_
  obtain ⟨v2, hv2, h⟩ := bind_eq h
  refine scallB (x' := .s (.one (.lp 0 0))) (M' := [.box [.fn 30 [] [.lp 1 0, .lp 2 0], .i .i64 v2.1], .box [.i .i64 v2.2.1], .box [.sl v2.2.2.length (v2.2.2.flatMap eU8)]]) [] rfl fn14 (.func _) (opnds_cons rfl opnds_nil) (m14_enc_News_c hv2) rfl rfl (by decide) rfl rfl rfl ?_
  refine sv rfl (opv_as rfl) ?_
  refine snil ?_
  refine cseq ?_
  refine cregion ?_
  refine sv rfl (opv_mv rfl) ?_
  obtain ⟨v3, hv3, h⟩ := bind_eq h
  refine scallB (x' := .s (.one (.i .u64 (v3.1.toNat : Int)))) (M' := [.box [.fn 30 [] [.lp 1 0, .lp 2 0], .i .i64 v3.2.1], .box [.i .i64 v3.2.2], .box [.sl v2.2.2.length (v2.2.2.flatMap eU8)]]) [0, 1, 2] rfl fn16 (.func _) (opnds_cons rfl (opnds_cons rfl opnds_nil)) (m16_enc_Reader_Us_c hv3) rfl rfl (by decide) rfl rfl rfl ?_
  refine sv rfl (opv_as rfl) ?_
  refine snil ?_
  refine cseq ?_
  refine cregion ?_
  refine sv rfl (opv_mv rfl) ?_
  refine sv rfl (opv_len_sl si22 rfl) ?_
  refine sv rfl (opv_ieql rfl rfl) ?_
  refine sv rfl (opv_mv rfl) ?_
  refine ssplit 12 rfl (fun hc => ?_) (fun hc => ?_)
  · replace h := ite_t hc h
    clear hc
    refine son rfl rfl rfl ?_
    refine sv rfl (opv_mv rfl) ?_
    refine son rfl rfl rfl ?_
    obtain ⟨u4, hu4, h⟩ := bind_eq h
    refine sv rfl (opv_ix (f := eU8) si22 (fun _ => rfl) rfl rfl rfl rfl hu4) ?_
    refine son rfl rfl rfl ?_
    refine sv rfl (opv_load1 ti5 rfl (.cp _) rfl) ?_
    refine son rfl rfl rfl ?_
    refine sv rfl (opv_ieql rfl rfl) ?_
    refine sv rfl (opv_pick_t rfl rfl) ?_
    refine sv rfl (opv_mv rfl) ?_
    refine ssplit 18 rfl (fun hc => ?_) (fun hc => ?_)
    · replace h := ite_t hc h
      clear hc
      refine son rfl rfl rfl ?_
      refine sv rfl (opv_mv rfl) ?_
      refine son rfl rfl rfl ?_
      obtain ⟨u5, hu5, h⟩ := bind_eq h
      refine sv rfl (opv_ix (f := eU8) si22 (fun _ => rfl) rfl rfl rfl rfl hu5) ?_
      refine son rfl rfl rfl ?_
      refine sv rfl (opv_load1 ti5 rfl (.cp _) rfl) ?_
      refine son rfl rfl rfl ?_
      refine sv rfl (opv_ieql rfl rfl) ?_
      refine sv rfl (opv_pick_t rfl rfl) ?_
      refine sv rfl (opv_mv rfl) ?_
      refine ssplit 24 rfl (fun hc => ?_) (fun hc => ?_)
      · replace h := ite_t hc h
        clear hc
        refine son rfl rfl rfl ?_
        refine sv rfl (opv_mv rfl) ?_
        refine son rfl rfl rfl ?_
        refine sv rfl (opv_ieql rfl rfl) ?_
        refine sv rfl (opv_pick_t rfl rfl) ?_
        refine sv rfl (opv_mv rfl) ?_
        refine ssplit 28 rfl (fun hc => ?_) (fun hc => ?_)
        · replace h := ite_t hc h
          clear hc
          refine son rfl rfl rfl ?_
          refine sv rfl (opv_mv rfl) ?_
          refine son rfl rfl rfl ?_
          obtain ⟨v6, hv6, h⟩ := bind_eq h
          refine scallB (x' := .s (.one (.i .i64 v6.1))) (M' := [.box [.fn 30 [] [.lp 1 0, .lp 2 0], .i .i64 v3.2.1], .box [.i .i64 v6.2], .box [.sl v2.2.2.length (v2.2.2.flatMap eU8)]]) [0, 1, 2] rfl fn26 (.func _) (opnds_cons rfl opnds_nil) (m26_enc_Reader_Ends_c hv6) rfl rfl (by decide) rfl rfl rfl ?_
          refine son rfl rfl rfl ?_
          refine sv rfl (opv_ieql rfl rfl) ?_
          refine sv rfl (opv_pick_t rfl rfl) ?_
          refine sv rfl (opv_mv rfl) ?_
          refine ssplit 33 rfl (fun hc => ?_) (fun hc => ?_)
          · replace h := ite_t hc h
            clear hc
            refine son rfl rfl rfl ?_
            refine sv rfl (opv_mv rfl) ?_
            refine son rfl rfl rfl ?_
            obtain ⟨v7, hv7, h⟩ := bind_eq h
            refine scallB (x' := .s (.one (.i .i64 v7.1))) (M' := [.box [.fn 30 [] [.lp 1 0, .lp 2 0], .i .i64 v3.2.1], .box [.i .i64 v7.2], .box [.sl v2.2.2.length (v2.2.2.flatMap eU8)]]) [0, 1, 2] rfl fn25 (.func _) (opnds_cons rfl opnds_nil) (m25_enc_Reader_Ats_c hv7) rfl rfl (by decide) rfl rfl rfl ?_
            refine son rfl rfl rfl ?_
            refine sv rfl (opv_ieql rfl rfl) ?_
            refine sv rfl (opv_pick_t rfl rfl) ?_
            refine sv rfl (opv_as rfl) ?_
            refine snil ?_
            refine cret ?_
            obtain rfl := Option.some.inj h
            refine ⟨Or.inr rfl, _, _, _, (resVs_cons (ResV.tmp _ _ rfl) resVs_nil), (pubA_id rfl), ?_⟩
            rfl
          · replace h := ite_f hc h
            clear hc
            refine soff rfl rfl rfl rfl ?_
            refine soff rfl rfl rfl rfl ?_
            refine soff rfl rfl rfl rfl ?_
            refine sv rfl (opv_pick_f rfl rfl) ?_
            refine sv rfl (opv_as rfl) ?_
            refine snil ?_
            refine cret ?_
            obtain rfl := Option.some.inj h
            refine ⟨Or.inr rfl, _, _, _, (resVs_cons (ResV.tmp _ _ rfl) resVs_nil), (pubA_id rfl), ?_⟩
            rfl
        · replace h := ite_f hc h
          clear hc
          refine soff rfl rfl rfl rfl ?_
          refine soff rfl rfl rfl rfl ?_
          refine soff rfl rfl rfl rfl ?_
          refine sv rfl (opv_pick_f rfl rfl) ?_
          refine sv rfl (opv_mv rfl) ?_
          refine soff rfl rfl rfl rfl ?_
          refine soff rfl rfl rfl rfl ?_
          refine soff rfl rfl rfl rfl ?_
          refine sv rfl (opv_pick_f rfl rfl) ?_
          refine sv rfl (opv_as rfl) ?_
          refine snil ?_
          refine cret ?_
          obtain rfl := Option.some.inj h
          refine ⟨Or.inr rfl, _, _, _, (resVs_cons (ResV.tmp _ _ rfl) resVs_nil), (pubA_id rfl), ?_⟩
          rfl
      · replace h := ite_f hc h
        clear hc
        refine soff rfl rfl rfl rfl ?_
        refine soff rfl rfl rfl rfl ?_
        refine sv rfl (opv_pick_f rfl rfl) ?_
        refine sv rfl (opv_mv rfl) ?_
        refine soff rfl rfl rfl rfl ?_
        refine soff rfl rfl rfl rfl ?_
        refine soff rfl rfl rfl rfl ?_
        refine sv rfl (opv_pick_f rfl rfl) ?_
        refine sv rfl (opv_mv rfl) ?_
        refine soff rfl rfl rfl rfl ?_
        refine soff rfl rfl rfl rfl ?_
        refine soff rfl rfl rfl rfl ?_
        refine sv rfl (opv_pick_f rfl rfl) ?_
        refine sv rfl (opv_as rfl) ?_
        refine snil ?_
        refine cret ?_
        obtain rfl := Option.some.inj h
        refine ⟨Or.inr rfl, _, _, _, (resVs_cons (ResV.tmp _ _ rfl) resVs_nil), (pubA_id rfl), ?_⟩
        rfl
    · replace h := ite_f hc h
      clear hc
      refine soff rfl rfl rfl rfl ?_
      refine soff rfl rfl rfl rfl ?_
      refine soff rfl rfl rfl rfl ?_
      refine soff rfl rfl rfl rfl ?_
      refine sv rfl (opv_pick_f rfl rfl) ?_
      refine sv rfl (opv_mv rfl) ?_
      refine soff rfl rfl rfl rfl ?_
      refine soff rfl rfl rfl rfl ?_
      refine sv rfl (opv_pick_f rfl rfl) ?_
      refine sv rfl (opv_mv rfl) ?_
      refine soff rfl rfl rfl rfl ?_
      refine soff rfl rfl rfl rfl ?_
      refine soff rfl rfl rfl rfl ?_
      refine sv rfl (opv_pick_f rfl rfl) ?_
      refine sv rfl (opv_mv rfl) ?_
      refine soff rfl rfl rfl rfl ?_
      refine soff rfl rfl rfl rfl ?_
      refine soff rfl rfl rfl rfl ?_
      refine sv rfl (opv_pick_f rfl rfl) ?_
      refine sv rfl (opv_as rfl) ?_
      refine snil ?_
      refine cret ?_
      obtain rfl := Option.some.inj h
      refine ⟨Or.inr rfl, _, _, _, (resVs_cons (ResV.tmp _ _ rfl) resVs_nil), (pubA_id rfl), ?_⟩
      rfl
  · replace h := ite_f hc h
    clear hc
    refine soff rfl rfl rfl rfl ?_
    refine soff rfl rfl rfl rfl ?_
    refine soff rfl rfl rfl rfl ?_
    refine soff rfl rfl rfl rfl ?_
    refine sv rfl (opv_pick_f rfl rfl) ?_
    refine sv rfl (opv_mv rfl) ?_
    refine soff rfl rfl rfl rfl ?_
    refine soff rfl rfl rfl rfl ?_
    refine soff rfl rfl rfl rfl ?_
    refine soff rfl rfl rfl rfl ?_
    refine sv rfl (opv_pick_f rfl rfl) ?_
    refine sv rfl (opv_mv rfl) ?_
    refine soff rfl rfl rfl rfl ?_
    refine soff rfl rfl rfl rfl ?_
    refine sv rfl (opv_pick_f rfl rfl) ?_
    refine sv rfl (opv_mv rfl) ?_
    refine soff rfl rfl rfl rfl ?_
    refine soff rfl rfl rfl rfl ?_
    refine soff rfl rfl rfl rfl ?_
    refine sv rfl (opv_pick_f rfl rfl) ?_
    refine sv rfl (opv_mv rfl) ?_
    refine soff rfl rfl rfl rfl ?_
    refine soff rfl rfl rfl rfl ?_
    refine soff rfl rfl rfl rfl ?_
    refine sv rfl (opv_pick_f rfl rfl) ?_
    refine sv rfl (opv_as rfl) ?_
    refine snil ?_
    refine cret ?_
    obtain rfl := Option.some.inj h
    refine ⟨Or.inr rfl, _, _, _, (resVs_cons (ResV.tmp _ _ rfl) resVs_nil), (pubA_id rfl), ?_⟩
    rfl

def m11_r01_U_k2 (b2 : (List UInt8)) : Option (List UInt8) :=
  some b2

def m11_r01_U_k4 (s3 : (BitVec 64) × Int × (List UInt8)) (b4 : Unit) : Option (LB ((BitVec 64) × Int × (List UInt8)) ((List UInt8))) :=
  if (s3.2.2.length + [(UInt8.ofBitVec ((s3.1 % (256#64)).setWidth 8))].length) * 1 ≤ 140737488355328 then (some (.cont ((s3.1 / (256#64)), (wI (s3.2.1 + 1)), (s3.2.2 ++ [(UInt8.ofBitVec ((s3.1 % (256#64)).setWidth 8))])))) else none

def m11_r01_U_s3 (a2 : Int) (s3 : (BitVec 64) × Int × (List UInt8)) : Option (LB ((BitVec 64) × Int × (List UInt8)) ((List UInt8))) :=
  if (decide (s3.2.1 < a2)) then (if (decide (s3.2.1 < 8)) then (m11_r01_U_k4 s3 ()) else (some (.brk s3.2.2))) else (some (.brk s3.2.2))
def m11_r01_U (a0 : List UInt8) (a1 : BitVec 64) (a2 : Int) : Option (List UInt8) :=
  if (([] : List UInt8).length + a0.length) * 1 ≤ 140737488355328 then ((iterB (m11_r01_U_s3 a2) fuel (a1, 0, (([] : List UInt8) ++ a0))).bind fun e6 => m11_r01_U_k2 e6) else none

set_option maxRecDepth 100000 in
theorem m11_r01_U_c {a0 : List UInt8} {a1 : BitVec 64} {a2 : Int} {r : (List UInt8)} (h : m11_r01_U a0 a1 a2 = some r) : CallsA Try.prog 11 [.one (.sl a0.length (a0.flatMap eU8)), .one (.i .u64 (a1.toNat : Int)), .one (.i .i64 a2)] (· = .s (.one (.sl r.length (r.flatMap eU8)))) := by
  unfold m11_r01_U at h
  refine callsA_of Try.func11 rfl (nt := 30) rfl (Nat.le_of_ble_eq_true rfl) ?_
  intro w0 S0
  refine cseq ?_
  refine cregion ?_
  refine sv rfl (opv_as rfl) ?_
  refine snil ?_
  refine cseq ?_
  refine cregion ?_
  refine sbuild0 rfl Try.underlying22 ei5 ?_
  refine sv rfl (opv_mv rfl) ?_
  obtain ⟨hb1, h⟩ := chk_eq h
  refine sapp (f := eU8) (xs := ([] : List UInt8)) (us := a0) rfl Try.underlying22 ei5 ni22 (fun _ => rfl) rfl rfl (.one _ _ _ _ (.id _ rfl)) rfl rfl rfl (.sl _ _ _ (flat_len (f := eU8) (fun _ => rfl) _)) rfl rfl hb1 (by decide) ?_
  refine sv rfl (opv_as rfl) ?_
  refine snil ?_
  refine cseq ?_
  refine cseq ?_
  refine cregion ?_
  refine sv rfl (opv_as rfl) ?_
  refine snil ?_
  refine cjoin ((List UInt8)) (fun b2 => [(7, .s (.one (.ls 0 b2.length)))]) (fun b2 => [.arr 5 1 0 (b2.flatMap eU8)]) (fun b2 => m11_r01_U_k2 b2 = some r) (fun _ _ => inbL_of rfl) (fun _ _ => blkinb_of rfl) (fun _ _ => Nat.le_of_ble_eq_true rfl) (fun b2 h => ?_) ?_
  · unfold m11_r01_U_k2 at h
    refine cseq ?_
    refine cregion ?_
    refine sv rfl (opv_mv rfl) ?_
    refine sv rfl (opv_as rfl) ?_
    refine snil ?_
    refine cret ?_
    obtain rfl := Option.some.inj h
    refine ⟨Or.inr rfl, _, _, _, (resVs_cons (ResV.tmp _ _ rfl) resVs_nil), (by (repeat' first | exact PubA.nil _ | apply PubA.cons | apply PubV.one | apply PubV.agg | exact PubL.nil | exact PubL.ls _ _ _ _ _ _ rfl (flat_len (f := eU8) (fun _ => rfl) _).symm | exact PubL.id _ rfl | exact PubLs.nil _ | apply PubLs.cons)), ?_⟩
    rfl
  · skip
    refine cblock ?_
    obtain ⟨x3, hx3, ho3⟩ := bind_eq h
    refine awc_loop (G := Nat × ((BitVec 64) × Int × (List UInt8))) (fun g => [(1, .s (.one (.i .u64 (g.2.1.toNat : Int)))), (2, .s (.one (.i .i64 a2))), (7, .s (.one (.ls 0 g.2.2.2.length))), (8, .s (.one (.i .i64 g.2.2.1)))]) (fun g => [.arr 5 1 0 (g.2.2.2.flatMap eU8)]) (fun g => iterB (m11_r01_U_s3 a2) g.1 g.2 = some x3) (fun g => g.1) (fuel, (a1, 0, (([] : List UInt8) ++ a0))) hx3 ⟨rfl, rfl, rfl, rfl, trivial⟩ [] rfl (fun _ _ => inbL_of rfl) (fun _ _ => blkinb_of rfl) (fun _ _ => Nat.le_of_ble_eq_true rfl) ?_
    clear hx3 h
    rintro ⟨n3, s3⟩ h
    obtain ⟨n3, y3, rfl, h, hk3⟩ := iterB_eq h
    unfold m11_r01_U_s3 at h
    refine cseq ?_
    refine cseq ?_
    refine cjoin3 (Unit) (fun b4 => [(1, .s (.one (.i .u64 (s3.1.toNat : Int)))), (2, .s (.one (.i .i64 a2))), (7, .s (.one (.ls 0 s3.2.2.length))), (8, .s (.one (.i .i64 s3.2.1)))]) (fun b4 => [.arr 5 1 0 (s3.2.2.flatMap eU8)]) (fun b4 => m11_r01_U_k4 s3 b4 = some y3) (fun _ _ => inbL_of rfl) (fun _ _ => blkinb_of rfl) (fun _ _ => Nat.le_of_ble_eq_true rfl) (fun b4 h => ?_) ?_
    · unfold m11_r01_U_k4 at h
      refine cseq ?_
      refine cblock ?_
      refine cseq ?_
      refine cregion ?_
      refine sv rfl (opv_mv rfl) ?_
      refine sv rfl (opv_mv rfl) ?_
      refine sv rfl (opv_rem_u64 (a := s3.1) (b := 256#64) rfl rfl rfl rfl (by decide)) ?_
      refine sv rfl (opv_conv_bv (k := .u64) (a := (s3.1 % (256#64))) rfl Try.underlying23 Try.underlying5 rfl rfl) ?_
      refine sbuild1 rfl Try.underlying22 ei5 rfl rfl (List.all_eq_true.1 rfl) (by decide) ?_
      refine smem [.arr 5 1 0 (s3.2.2.flatMap eU8), .arr 5 1 0 ([(UInt8.ofBitVec ((s3.1 % (256#64)).setWidth 8))].flatMap eU8)] rfl ?_
      obtain ⟨hb5, h⟩ := chk_eq h
      refine sapp (f := eU8) (xs := s3.2.2) (us := [(UInt8.ofBitVec ((s3.1 % (256#64)).setWidth 8))]) rfl Try.underlying22 ei5 ni22 (fun _ => rfl) rfl rfl (.one _ _ _ _ (.ls _ _ _ _ _ _ rfl (flat_len (f := eU8) (fun _ => rfl) [(UInt8.ofBitVec ((s3.1 % (256#64)).setWidth 8))]).symm)) rfl rfl rfl (.sl _ _ _ (flat_len (f := eU8) (fun _ => rfl) _)) rfl rfl hb5 (by decide) ?_
      refine sv rfl (opv_as rfl) ?_
      refine snil ?_
      refine cregion ?_
      refine sv rfl (opv_mv rfl) ?_
      refine sv rfl (opv_quo_u64 (a := s3.1) (b := 256#64) rfl rfl rfl rfl (by decide)) ?_
      refine sv rfl (opv_as rfl) ?_
      refine snil0 ?_
      refine block_normal ?_
      refine then_normal ?_
      refine cregion ?_
      refine sv rfl (opv_mv rfl) ?_
      refine sv rfl (opv_add rfl rfl) ?_
      refine sv rfl (opv_as rfl) ?_
      refine snil ?_
      obtain rfl := Option.some.inj h
      exact ⟨(n3, ((s3.1 / (256#64)), (wI (s3.2.1 + 1)), (s3.2.2 ++ [(UInt8.ofBitVec ((s3.1 % (256#64)).setWidth 8))]))), _, hk3, ⟨rfl, rfl, rfl, rfl, trivial⟩, rfl, Nat.lt_succ_self _⟩
    · skip
      refine cregion ?_
      refine sv rfl (opv_mv rfl) ?_
      refine sv rfl (opv_mv rfl) ?_
      refine sv rfl (opv_lss rfl rfl) ?_
      refine sv rfl (opv_mv rfl) ?_
      refine ssplit 15 rfl (fun hc => ?_) (fun hc => ?_)
      · replace h := ite_t hc h
        clear hc
        refine son rfl rfl rfl ?_
        refine sv rfl (opv_mv rfl) ?_
        refine son rfl rfl rfl ?_
        refine sv rfl (opv_lss rfl rfl) ?_
        refine sv rfl (opv_pick_t rfl rfl) ?_
        refine snil ?_
        refine ccond rfl (fun hc => ?_) (fun hc => ?_)
        · replace h := ite_t hc h
          clear hc
          refine cskip ?_
          refine then_normal ?_
          exact ⟨(), _, h, ⟨rfl, rfl, rfl, rfl, trivial⟩, rfl⟩
        · replace h := ite_f hc h
          clear hc
          refine cexit ?_
          refine then_exit ?_
          refine then_exit ?_
          refine block_hit ?_
          refine then_normal ?_
          obtain rfl := Option.some.inj h
          obtain rfl : _ = x3 := hk3
          exact ⟨s3.2.2, _, ho3, ⟨rfl, trivial⟩, rfl⟩
      · replace h := ite_f hc h
        clear hc
        refine soff rfl rfl rfl rfl ?_
        refine soff rfl rfl rfl rfl ?_
        refine sv rfl (opv_pick_f rfl rfl) ?_
        refine snil ?_
        refine ccond rfl (fun hx => Bool.noConfusion hx) (fun _ => ?_)
        refine cexit ?_
        refine then_exit ?_
        refine then_exit ?_
        refine block_hit ?_
        refine then_normal ?_
        obtain rfl := Option.some.inj h
        obtain rfl : _ = x3 := hk3
        exact ⟨s3.2.2, _, ho3, ⟨rfl, trivial⟩, rfl⟩

def m12_enc_List (a0 : List UInt8) (a1 : List UInt8) : Option (List UInt8) :=
  (cut a1 0 (if 65535 < (a1.length : Int) then 65535 else (a1.length : Int))).bind fun c1 => (m10_enc_U a0 (BitVec.ofInt 64 (c1.length : Int)) 2).bind fun v2 => (m29_slices_Concato [v2, c1]).bind fun v3 => some v3

set_option maxRecDepth 100000 in
theorem m12_enc_List_c {a0 : List UInt8} {a1 : List UInt8} {r : (List UInt8)} (h : m12_enc_List a0 a1 = some r) : CallsA Try.prog 12 [.one (.sl a0.length (a0.flatMap eU8)), .one (.sl a1.length (a1.flatMap eU8))] (· = .s (.one (.sl r.length (r.flatMap eU8)))) := by
  unfold m12_enc_List at h
  refine callsA_of Try.func12 rfl (nt := 18) rfl (Nat.le_of_ble_eq_true rfl) ?_
  intro w0 S0
  refine cseq ?_
  refine cregion ?_
  refine sv rfl (opv_as rfl) ?_
  refine snil ?_
  refine cseq ?_
  refine cregion ?_
  refine sv rfl (opv_mv rfl) ?_
  refine sv rfl (opv_mv rfl) ?_
  refine sv rfl (opv_len_sl si22 rfl) ?_
  refine sv rfl (opv_min rfl rfl) ?_
  obtain ⟨c1, hc1, h⟩ := bind_eq h
  refine sv rfl (opv_cut (f := eU8) (lo := 0) (hi := (if 65535 < (a1.length : Int) then 65535 else (a1.length : Int))) si22 (fun _ => rfl) rfl rfl rfl bound_none (bound_some rfl (Int.le_trans (cut_eq hc1).1.1 (cut_eq hc1).1.2.1)) hc1) ?_
  refine sv rfl (opv_as rfl) ?_
  refine snil ?_
  refine cseq ?_
  refine cregion ?_
  refine sv rfl (opv_mv rfl) ?_
  refine sv rfl (opv_mv rfl) ?_
  refine sv rfl (opv_len_sl si22 rfl) ?_
  refine sv rfl (opv_conv_ibv rfl Try.underlying3 Try.underlying23 rfl) ?_
  obtain ⟨v2, hv2, h⟩ := bind_eq h
  refine scall1 rfl fn10 (opnds_cons rfl (opnds_cons rfl (opnds_cons rfl opnds_nil))) (pubA_id rfl) (m10_enc_U_c hv2) ?_
  refine sv rfl (opv_mv rfl) ?_
  refine sbuildN (out := ([v2, c1] : List (List UInt8)).flatMap (eL eU8)) rfl Try.underlying45 ei22 (parts_cons rfl (parts_cons rfl parts_nil)) (.cons _ _ _ _ _ _ _ rfl rfl (Nat.le_of_ble_eq_true rfl) (.cons _ _ _ _ _ _ _ rfl rfl (Nat.le_of_ble_eq_true rfl) (.nil _))) rfl (by decide) ?_
  refine spub 16 rfl (by (repeat' first | exact PubA.nil _ | apply PubA.cons | apply PubV.one | apply PubV.agg | exact PubL.nil | exact PubL.ls _ _ _ _ _ _ rfl (flat_len (f := (eL eU8)) (fun _ => rfl) ([v2, c1] : List (List UInt8))).symm | exact PubL.ls _ _ _ _ _ _ rfl (flat_len (f := (eL eU8)) (fun _ => rfl) _).symm | exact PubL.id _ rfl | exact PubLs.nil _ | apply PubLs.cons)) ?_
  obtain ⟨v3, hv3, h⟩ := bind_eq h
  refine scallB (x' := .s (.one (.ls 1 v3.length))) (M' := [.arr 22 1 ([v2, c1].flatMap (eL eU8)).length ([v2, c1].flatMap (eL eU8)), .arr 5 1 0 (v3.flatMap eU8)]) [] rfl fn29 (.func _) (opnds_cons rfl opnds_nil) (m29_slices_Concato_c hv3) rfl rfl (by decide) rfl rfl rfl ?_
  refine sv rfl (opv_as rfl) ?_
  refine snil ?_
  refine cret ?_
  obtain rfl := Option.some.inj h
  refine ⟨Or.inr rfl, _, _, _, (resVs_cons (ResV.tmp _ _ rfl) resVs_nil), (by (repeat' first | exact PubA.nil _ | apply PubA.cons | apply PubV.one | apply PubV.agg | exact PubL.nil | exact PubL.ls _ _ _ _ _ _ rfl (flat_len (f := (eL eU8)) (fun _ => rfl) _).symm | exact PubL.ls _ _ _ _ _ _ rfl (flat_len (f := eU8) (fun _ => rfl) _).symm | exact PubL.id _ rfl | exact PubLs.nil _ | apply PubLs.cons)), ?_⟩
  rfl

def m11_r01_Uo_k2 (b2 : (List UInt8)) : Option (List UInt8) :=
  some b2

def m11_r01_Uo_k4 (s3 : (BitVec 64) × Int × (List UInt8)) (b4 : Unit) : Option (LB ((BitVec 64) × Int × (List UInt8)) ((List UInt8))) :=
  if (s3.2.2.length + [(UInt8.ofBitVec ((s3.1 % (256#64)).setWidth 8))].length) * 1 ≤ 140737488355328 then (some (.cont ((s3.1 / (256#64)), (wI (s3.2.1 + 1)), (s3.2.2 ++ [(UInt8.ofBitVec ((s3.1 % (256#64)).setWidth 8))])))) else none

def m11_r01_Uo_s3 (a2 : Int) (s3 : (BitVec 64) × Int × (List UInt8)) : Option (LB ((BitVec 64) × Int × (List UInt8)) ((List UInt8))) :=
  if (decide (s3.2.1 < a2)) then (if (decide (s3.2.1 < 8)) then (m11_r01_Uo_k4 s3 ()) else (some (.brk s3.2.2))) else (some (.brk s3.2.2))
def m11_r01_Uo (a0 : List UInt8) (a1 : BitVec 64) (a2 : Int) : Option (List UInt8) :=
  if (([] : List UInt8).length + a0.length) * 1 ≤ 140737488355328 then ((iterB (m11_r01_Uo_s3 a2) fuel (a1, 0, (([] : List UInt8) ++ a0))).bind fun e6 => m11_r01_Uo_k2 e6) else none

set_option maxRecDepth 100000 in
theorem m11_r01_Uo_c {a0 : List UInt8} {a1 : BitVec 64} {a2 : Int} {r : (List UInt8)} (h : m11_r01_Uo a0 a1 a2 = some r) : CallsB Try.prog 11 [] [.one (.sl a0.length (a0.flatMap eU8)), .one (.i .u64 (a1.toNat : Int)), .one (.i .i64 a2)] (fun y m' => y = .s (.one (.ls 0 r.length)) ∧ m' = [.arr 5 1 0 (r.flatMap eU8)]) := by
  unfold m11_r01_Uo at h
  refine callsB_of Try.func11 rfl (nt := 30) rfl (Nat.le_of_ble_eq_true rfl) ?_
  intro w0 S0 X0 H0
  refine cseq ?_
  refine cregion ?_
  refine sv rfl (opv_as rfl) ?_
  refine snil ?_
  refine cseq ?_
  refine cregion ?_
  refine sbuild0 rfl Try.underlying22 ei5 ?_
  refine sv rfl (opv_mv rfl) ?_
  obtain ⟨hb1, h⟩ := chk_eq h
  refine sapp (f := eU8) (xs := ([] : List UInt8)) (us := a0) rfl Try.underlying22 ei5 ni22 (fun _ => rfl) rfl rfl (.one _ _ _ _ (.id _ rfl)) rfl rfl rfl (.sl _ _ _ (flat_len (f := eU8) (fun _ => rfl) _)) rfl rfl hb1 (by decide) ?_
  refine sv rfl (opv_as rfl) ?_
  refine snil ?_
  refine cseq ?_
  refine cseq ?_
  refine cregion ?_
  refine sv rfl (opv_as rfl) ?_
  refine snil ?_
  refine cjoin ((List UInt8)) (fun b2 => [(7, .s (.one (.ls 0 b2.length)))]) (fun b2 => [.arr 5 1 0 (b2.flatMap eU8)]) (fun b2 => m11_r01_Uo_k2 b2 = some r) (fun _ _ => inbL_of rfl) (fun _ _ => blkinb_of rfl) (fun _ _ => Nat.le_of_ble_eq_true rfl) (fun b2 h => ?_) ?_
  · unfold m11_r01_Uo_k2 at h
    refine cseq ?_
    refine cregion ?_
    refine sv rfl (opv_mv rfl) ?_
    refine sv rfl (opv_as rfl) ?_
    refine snil ?_
    refine cret ?_
    obtain rfl := Option.some.inj h
    exact ⟨Or.inr rfl, _, [0], [.one (.ls 0 b2.length)], [.arr 5 1 0 (b2.flatMap eU8)], (resVs_cons (ResV.tmp _ _ rfl) resVs_nil), rfl, rfl, ⟨by decide, rfl⟩, rfl, rfl, ⟨rfl, rfl⟩⟩
  · skip
    refine cblock ?_
    obtain ⟨x3, hx3, ho3⟩ := bind_eq h
    refine awc_loop (G := Nat × ((BitVec 64) × Int × (List UInt8))) (fun g => [(1, .s (.one (.i .u64 (g.2.1.toNat : Int)))), (2, .s (.one (.i .i64 a2))), (7, .s (.one (.ls 0 g.2.2.2.length))), (8, .s (.one (.i .i64 g.2.2.1)))]) (fun g => [.arr 5 1 0 (g.2.2.2.flatMap eU8)]) (fun g => iterB (m11_r01_Uo_s3 a2) g.1 g.2 = some x3) (fun g => g.1) (fuel, (a1, 0, (([] : List UInt8) ++ a0))) hx3 ⟨rfl, rfl, rfl, rfl, trivial⟩ [] rfl (fun _ _ => inbL_of rfl) (fun _ _ => blkinb_of rfl) (fun _ _ => Nat.le_of_ble_eq_true rfl) ?_
    clear hx3 h
    rintro ⟨n3, s3⟩ h
    obtain ⟨n3, y3, rfl, h, hk3⟩ := iterB_eq h
    unfold m11_r01_Uo_s3 at h
    refine cseq ?_
    refine cseq ?_
    refine cjoin3 (Unit) (fun b4 => [(1, .s (.one (.i .u64 (s3.1.toNat : Int)))), (2, .s (.one (.i .i64 a2))), (7, .s (.one (.ls 0 s3.2.2.length))), (8, .s (.one (.i .i64 s3.2.1)))]) (fun b4 => [.arr 5 1 0 (s3.2.2.flatMap eU8)]) (fun b4 => m11_r01_Uo_k4 s3 b4 = some y3) (fun _ _ => inbL_of rfl) (fun _ _ => blkinb_of rfl) (fun _ _ => Nat.le_of_ble_eq_true rfl) (fun b4 h => ?_) ?_
    · unfold m11_r01_Uo_k4 at h
      refine cseq ?_
      refine cblock ?_
      refine cseq ?_
      refine cregion ?_
      refine sv rfl (opv_mv rfl) ?_
      refine sv rfl (opv_mv rfl) ?_
      refine sv rfl (opv_rem_u64 (a := s3.1) (b := 256#64) rfl rfl rfl rfl (by decide)) ?_
      refine sv rfl (opv_conv_bv (k := .u64) (a := (s3.1 % (256#64))) rfl Try.underlying23 Try.underlying5 rfl rfl) ?_
      refine sbuild1 rfl Try.underlying22 ei5 rfl rfl (List.all_eq_true.1 rfl) (by decide) ?_
      refine smem [.arr 5 1 0 (s3.2.2.flatMap eU8), .arr 5 1 0 ([(UInt8.ofBitVec ((s3.1 % (256#64)).setWidth 8))].flatMap eU8)] rfl ?_
      obtain ⟨hb5, h⟩ := chk_eq h
      refine sapp (f := eU8) (xs := s3.2.2) (us := [(UInt8.ofBitVec ((s3.1 % (256#64)).setWidth 8))]) rfl Try.underlying22 ei5 ni22 (fun _ => rfl) rfl rfl (.one _ _ _ _ (.ls _ _ _ _ _ _ rfl (flat_len (f := eU8) (fun _ => rfl) [(UInt8.ofBitVec ((s3.1 % (256#64)).setWidth 8))]).symm)) rfl rfl rfl (.sl _ _ _ (flat_len (f := eU8) (fun _ => rfl) _)) rfl rfl hb5 (by decide) ?_
      refine sv rfl (opv_as rfl) ?_
      refine snil ?_
      refine cregion ?_
      refine sv rfl (opv_mv rfl) ?_
      refine sv rfl (opv_quo_u64 (a := s3.1) (b := 256#64) rfl rfl rfl rfl (by decide)) ?_
      refine sv rfl (opv_as rfl) ?_
      refine snil0 ?_
      refine block_normal ?_
      refine then_normal ?_
      refine cregion ?_
      refine sv rfl (opv_mv rfl) ?_
      refine sv rfl (opv_add rfl rfl) ?_
      refine sv rfl (opv_as rfl) ?_
      refine snil ?_
      obtain rfl := Option.some.inj h
      exact ⟨(n3, ((s3.1 / (256#64)), (wI (s3.2.1 + 1)), (s3.2.2 ++ [(UInt8.ofBitVec ((s3.1 % (256#64)).setWidth 8))]))), _, hk3, ⟨rfl, rfl, rfl, rfl, trivial⟩, rfl, Nat.lt_succ_self _⟩
    · skip
      refine cregion ?_
      refine sv rfl (opv_mv rfl) ?_
      refine sv rfl (opv_mv rfl) ?_
      refine sv rfl (opv_lss rfl rfl) ?_
      refine sv rfl (opv_mv rfl) ?_
      refine ssplit 15 rfl (fun hc => ?_) (fun hc => ?_)
      · replace h := ite_t hc h
        clear hc
        refine son rfl rfl rfl ?_
        refine sv rfl (opv_mv rfl) ?_
        refine son rfl rfl rfl ?_
        refine sv rfl (opv_lss rfl rfl) ?_
        refine sv rfl (opv_pick_t rfl rfl) ?_
        refine snil ?_
        refine ccond rfl (fun hc => ?_) (fun hc => ?_)
        · replace h := ite_t hc h
          clear hc
          refine cskip ?_
          refine then_normal ?_
          exact ⟨(), _, h, ⟨rfl, rfl, rfl, rfl, trivial⟩, rfl⟩
        · replace h := ite_f hc h
          clear hc
          refine cexit ?_
          refine then_exit ?_
          refine then_exit ?_
          refine block_hit ?_
          refine then_normal ?_
          obtain rfl := Option.some.inj h
          obtain rfl : _ = x3 := hk3
          exact ⟨s3.2.2, _, ho3, ⟨rfl, trivial⟩, rfl⟩
      · replace h := ite_f hc h
        clear hc
        refine soff rfl rfl rfl rfl ?_
        refine soff rfl rfl rfl rfl ?_
        refine sv rfl (opv_pick_f rfl rfl) ?_
        refine snil ?_
        refine ccond rfl (fun hx => Bool.noConfusion hx) (fun _ => ?_)
        refine cexit ?_
        refine then_exit ?_
        refine then_exit ?_
        refine block_hit ?_
        refine then_normal ?_
        obtain rfl := Option.some.inj h
        obtain rfl : _ = x3 := hk3
        exact ⟨s3.2.2, _, ho3, ⟨rfl, trivial⟩, rfl⟩

def m13_r01_List (a0 : List UInt8) (a1 : List UInt8) : Option (List UInt8) :=
  (m11_r01_Uo a0 (BitVec.ofInt 64 (if 65535 < (a1.length : Int) then 65535 else (a1.length : Int))) 2).bind fun v1 => (cut a1 0 (if 65535 < (a1.length : Int) then 65535 else (a1.length : Int))).bind fun c2 => if (v1.length + c2.length) * 1 ≤ 140737488355328 then (some (v1 ++ c2)) else none

set_option maxRecDepth 100000 in
theorem m13_r01_List_c {a0 : List UInt8} {a1 : List UInt8} {r : (List UInt8)} (h : m13_r01_List a0 a1 = some r) : CallsA Try.prog 13 [.one (.sl a0.length (a0.flatMap eU8)), .one (.sl a1.length (a1.flatMap eU8))] (· = .s (.one (.sl r.length (r.flatMap eU8)))) := by
  unfold m13_r01_List at h
  refine callsA_of Try.func13 rfl (nt := 19) rfl (Nat.le_of_ble_eq_true rfl) ?_
  intro w0 S0
  refine cseq ?_
  refine cregion ?_
  refine sv rfl (opv_as rfl) ?_
  refine snil ?_
  refine cseq ?_
  refine cregion ?_
  refine sv rfl (opv_mv rfl) ?_
  refine sv rfl (opv_len_sl si22 rfl) ?_
  refine sv rfl (opv_min rfl rfl) ?_
  refine sv rfl (opv_as rfl) ?_
  refine snil ?_
  refine cseq ?_
  refine cregion ?_
  refine sv rfl (opv_mv rfl) ?_
  refine sv rfl (opv_mv rfl) ?_
  refine sv rfl (opv_conv_ibv rfl Try.underlying3 Try.underlying23 rfl) ?_
  obtain ⟨v1, hv1, h⟩ := bind_eq h
  refine scallB (x' := .s (.one (.ls 0 v1.length))) (M' := [.arr 5 1 0 (v1.flatMap eU8)]) [] rfl fn11 (.func _) (opnds_cons rfl (opnds_cons rfl (opnds_cons rfl opnds_nil))) (m11_r01_Uo_c hv1) rfl rfl (by decide) rfl rfl rfl ?_
  refine sv rfl (opv_as rfl) ?_
  refine snil ?_
  refine cseq ?_
  refine cregion ?_
  refine sv rfl (opv_mv rfl) ?_
  refine sv rfl (opv_mv rfl) ?_
  refine sv rfl (opv_mv rfl) ?_
  obtain ⟨c2, hc2, h⟩ := bind_eq h
  refine sv rfl (opv_cut (f := eU8) (lo := 0) (hi := (if 65535 < (a1.length : Int) then 65535 else (a1.length : Int))) si22 (fun _ => rfl) rfl rfl rfl bound_none (bound_some rfl (Int.le_trans (cut_eq hc2).1.1 (cut_eq hc2).1.2.1)) hc2) ?_
  obtain ⟨hb3, h⟩ := chk_eq h
  refine sapp (f := eU8) (xs := v1) (us := c2) rfl Try.underlying22 ei5 ni22 (fun _ => rfl) rfl rfl (.one _ _ _ _ (.id _ rfl)) rfl rfl rfl (.sl _ _ _ (flat_len (f := eU8) (fun _ => rfl) _)) rfl rfl hb3 (by decide) ?_
  refine sv rfl (opv_as rfl) ?_
  refine snil ?_
  refine cret ?_
  obtain rfl := Option.some.inj h
  refine ⟨Or.inr rfl, _, _, _, (resVs_cons (ResV.tmp _ _ rfl) resVs_nil), (by (repeat' first | exact PubA.nil _ | apply PubA.cons | apply PubV.one | apply PubV.agg | exact PubL.nil | exact PubL.ls _ _ _ _ _ _ rfl (flat_len (f := eU8) (fun _ => rfl) _).symm | exact PubL.id _ rfl | exact PubLs.nil _ | apply PubLs.cons)), ?_⟩
  rfl

def m3_l01_EncLays_k2 (a0 : List UInt8) (a1 : BitVec 64) (a2 : Int) (a3 : List UInt8) (v1 : Bool) (b2 : Unit) : Option Bool :=
  if v1 then ((m10_enc_U a0 a1 a2).bind fun v3 => (m11_r01_U a0 a1 a2).bind fun v4 => if (v3 == v4) then ((m12_enc_List a0 a3).bind fun v5 => (m13_r01_List a0 a3).bind fun v6 => some (v5 == v6)) else (some false)) else (some false)
def m3_l01_EncLays (a0 : List UInt8) (a1 : BitVec 64) (a2 : Int) (a3 : List UInt8) : Option Bool :=
  (m9_l01_awake).bind fun v1 => if (decide (500 < (a0.length : Int))) then (some v1) else (if (decide (70000 < (a3.length : Int))) then (some v1) else (m3_l01_EncLays_k2 a0 a1 a2 a3 v1 ()))

set_option maxRecDepth 100000 in
theorem m3_l01_EncLays_c {a0 : List UInt8} {a1 : BitVec 64} {a2 : Int} {a3 : List UInt8} {r : Bool} (h : m3_l01_EncLays a0 a1 a2 a3 = some r) : CallsA Try.prog 3 [.one (.sl a0.length (a0.flatMap eU8)), .one (.i .u64 (a1.toNat : Int)), .one (.i .i64 a2), .one (.sl a3.length (a3.flatMap eU8))] (· = .s (.one (.b r))) := by
  unfold m3_l01_EncLays at h
  refine callsA_of Try.func3 rfl (nt := 45) rfl (Nat.le_of_ble_eq_true rfl) ?_
  intro w0 S0
  refine cseq ?_
  refine cregion ?_
  refine sv rfl (opv_as rfl) ?_
  refine snil ?_
  refine cseq ?_
  refine cregion ?_
  obtain ⟨v1, hv1, h⟩ := bind_eq h
  refine scall1 rfl fn9 opnds_nil (pubA_id rfl) (m9_l01_awake_c hv1) ?_
  refine sv rfl (opv_as rfl) ?_
  refine snil ?_
  refine cseq ?_
  refine cseq ?_
  refine cjoin3 (Unit) (fun b2 => [(0, .s (.one (.sl a0.length (a0.flatMap eU8)))), (1, .s (.one (.i .u64 (a1.toNat : Int)))), (2, .s (.one (.i .i64 a2))), (3, .s (.one (.sl a3.length (a3.flatMap eU8)))), (9, .s (.one (.b v1)))]) (fun b2 => []) (fun b2 => m3_l01_EncLays_k2 a0 a1 a2 a3 v1 b2 = some r) (fun _ _ => inbL_of rfl) (fun _ _ => blkinb_of rfl) (fun _ _ => Nat.le_of_ble_eq_true rfl) (fun b2 h => ?_) ?_
  · unfold m3_l01_EncLays_k2 at h
    refine cseq ?_
    refine cdraw mixed (by kernel_rfl) ?_
    refine dv rfl (opv_mv rfl) ?_
    refine dv rfl (opv_mv rfl) ?_
    refine dsplit 21 rfl (fun hc => ?_) (fun hc => ?_)
    · replace h := ite_t hc h
      clear hc
      refine dvg rfl rfl rfl (opv_mv rfl) ?_
      refine dvg rfl rfl rfl (opv_mv rfl) ?_
      refine dvg rfl rfl rfl (opv_mv rfl) ?_
      obtain ⟨v3, hv3, h⟩ := bind_eq h
      refine ddg rfl rfl rfl (opD_call fn10 (opnds_cons rfl (opnds_cons rfl (opnds_cons rfl opnds_nil))) rfl (m10_enc_U_c hv3)) ?_
      refine dvg rfl rfl rfl (opv_bs (l := v3) Try.underlying22 Try.underlying5 Try.underlying9 rfl rfl rfl) ?_
      refine dvg rfl rfl rfl (opv_mv rfl) ?_
      refine dvg rfl rfl rfl (opv_mv rfl) ?_
      refine dvg rfl rfl rfl (opv_mv rfl) ?_
      obtain ⟨v4, hv4, h⟩ := bind_eq h
      refine ddg rfl rfl rfl (opD_call fn11 (opnds_cons rfl (opnds_cons rfl (opnds_cons rfl opnds_nil))) rfl (m11_r01_U_c hv4)) ?_
      refine dvg rfl rfl rfl (opv_bs (l := v4) Try.underlying22 Try.underlying5 Try.underlying9 rfl rfl rfl) ?_
      refine dvg rfl rfl rfl (opv_seql' rfl rfl) ?_
      refine dv rfl (opv_pick_t rfl rfl) ?_
      refine dv rfl (opv_mv rfl) ?_
      refine dsplit 34 rfl (fun hc => ?_) (fun hc => ?_)
      · replace h := ite_t hc h
        clear hc
        refine dvg rfl rfl rfl (opv_mv rfl) ?_
        refine dvg rfl rfl rfl (opv_mv rfl) ?_
        obtain ⟨v5, hv5, h⟩ := bind_eq h
        refine ddg rfl rfl rfl (opD_call fn12 (opnds_cons rfl (opnds_cons rfl opnds_nil)) rfl (m12_enc_List_c hv5)) ?_
        refine dvg rfl rfl rfl (opv_bs (l := v5) Try.underlying22 Try.underlying5 Try.underlying9 rfl rfl rfl) ?_
        refine dvg rfl rfl rfl (opv_mv rfl) ?_
        refine dvg rfl rfl rfl (opv_mv rfl) ?_
        obtain ⟨v6, hv6, h⟩ := bind_eq h
        refine ddg rfl rfl rfl (opD_call fn13 (opnds_cons rfl (opnds_cons rfl opnds_nil)) rfl (m13_r01_List_c hv6)) ?_
        refine dvg rfl rfl rfl (opv_bs (l := v6) Try.underlying22 Try.underlying5 Try.underlying9 rfl rfl rfl) ?_
        refine dvg rfl rfl rfl (opv_seql' rfl rfl) ?_
        refine dv rfl (opv_pick_t rfl rfl) ?_
        refine dv rfl (opv_as rfl) ?_
        refine dnil ?_
        refine then_normal ?_
        refine cret ?_
        obtain rfl := Option.some.inj h
        refine ⟨Or.inr rfl, _, _, _, (resVs_cons (ResV.tmp _ _ rfl) resVs_nil), (pubA_id rfl), ?_⟩
        rfl
      · replace h := ite_f hc h
        clear hc
        refine doff rfl rfl rfl rfl ?_
        refine doff rfl rfl rfl rfl ?_
        refine doff rfl rfl rfl rfl ?_
        refine doff rfl rfl rfl rfl ?_
        refine doff rfl rfl rfl rfl ?_
        refine doff rfl rfl rfl rfl ?_
        refine doff rfl rfl rfl rfl ?_
        refine doff rfl rfl rfl rfl ?_
        refine doff rfl rfl rfl rfl ?_
        refine dv rfl (opv_pick_f rfl rfl) ?_
        refine dv rfl (opv_as rfl) ?_
        refine dnil ?_
        refine then_normal ?_
        refine cret ?_
        obtain rfl := Option.some.inj h
        refine ⟨Or.inr rfl, _, _, _, (resVs_cons (ResV.tmp _ _ rfl) resVs_nil), (pubA_id rfl), ?_⟩
        rfl
    · replace h := ite_f hc h
      clear hc
      refine doff rfl rfl rfl rfl ?_
      refine doff rfl rfl rfl rfl ?_
      refine doff rfl rfl rfl rfl ?_
      refine doff rfl rfl rfl rfl ?_
      refine doff rfl rfl rfl rfl ?_
      refine doff rfl rfl rfl rfl ?_
      refine doff rfl rfl rfl rfl ?_
      refine doff rfl rfl rfl rfl ?_
      refine doff rfl rfl rfl rfl ?_
      refine doff rfl rfl rfl rfl ?_
      refine doff rfl rfl rfl rfl ?_
      refine dv rfl (opv_pick_f rfl rfl) ?_
      refine dv rfl (opv_mv rfl) ?_
      refine doff rfl rfl rfl rfl ?_
      refine doff rfl rfl rfl rfl ?_
      refine doff rfl rfl rfl rfl ?_
      refine doff rfl rfl rfl rfl ?_
      refine doff rfl rfl rfl rfl ?_
      refine doff rfl rfl rfl rfl ?_
      refine doff rfl rfl rfl rfl ?_
      refine doff rfl rfl rfl rfl ?_
      refine doff rfl rfl rfl rfl ?_
      refine dv rfl (opv_pick_f rfl rfl) ?_
      refine dv rfl (opv_as rfl) ?_
      refine dnil ?_
      refine then_normal ?_
      refine cret ?_
      obtain rfl := Option.some.inj h
      refine ⟨Or.inr rfl, _, _, _, (resVs_cons (ResV.tmp _ _ rfl) resVs_nil), (pubA_id rfl), ?_⟩
      rfl
  · skip
    refine cregion ?_
    refine sv rfl (opv_mv rfl) ?_
    refine sv rfl (opv_len_sl si22 rfl) ?_
    refine sv rfl (opv_gtr rfl rfl) ?_
    refine sv rfl (opv_mv rfl) ?_
    refine ssplit 14 rfl (fun hc => ?_) (fun hc => ?_)
    · replace h := ite_t hc h
      clear hc
      refine soff rfl rfl rfl rfl ?_
      refine soff rfl rfl rfl rfl ?_
      refine soff rfl rfl rfl rfl ?_
      refine sv rfl (opv_pick_t rfl rfl) ?_
      refine snil ?_
      refine ccond rfl (fun _ => ?_) (fun hx => Bool.noConfusion hx)
      refine cseq ?_
      refine cregion ?_
      refine sv rfl (opv_mv rfl) ?_
      refine sv rfl (opv_as rfl) ?_
      refine snil ?_
      refine cret ?_
      refine then_ret ?_
      obtain rfl := Option.some.inj h
      refine ⟨Or.inr rfl, _, _, _, (resVs_cons (ResV.tmp _ _ rfl) resVs_nil), (pubA_id rfl), ?_⟩
      rfl
    · replace h := ite_f hc h
      clear hc
      refine son rfl rfl rfl ?_
      refine sv rfl (opv_mv rfl) ?_
      refine son rfl rfl rfl ?_
      refine sv rfl (opv_len_sl si22 rfl) ?_
      refine son rfl rfl rfl ?_
      refine sv rfl (opv_gtr rfl rfl) ?_
      refine sv rfl (opv_pick_f rfl rfl) ?_
      refine snil ?_
      refine ccond rfl (fun hc => ?_) (fun hc => ?_)
      · replace h := ite_t hc h
        clear hc
        refine cseq ?_
        refine cregion ?_
        refine sv rfl (opv_mv rfl) ?_
        refine sv rfl (opv_as rfl) ?_
        refine snil ?_
        refine cret ?_
        refine then_ret ?_
        obtain rfl := Option.some.inj h
        refine ⟨Or.inr rfl, _, _, _, (resVs_cons (ResV.tmp _ _ rfl) resVs_nil), (pubA_id rfl), ?_⟩
        rfl
      · replace h := ite_f hc h
        clear hc
        refine cskip ?_
        refine then_normal ?_
        exact ⟨(), _, h, ⟨rfl, rfl, rfl, rfl, rfl, trivial⟩, rfl⟩

def m15_r01_News (a0 : List UInt8) : Option ((List UInt8) × Int × Int) :=
  some (a0, 0, 0)

set_option maxRecDepth 100000 in
theorem m15_r01_News_c {a0 : List UInt8} {r : (List UInt8) × Int × Int} (h : m15_r01_News a0 = some r) : CallsB Try.prog 15 [] [.one (.sl a0.length (a0.flatMap eU8))] (fun y m' => y = .s (.one (.lp 0 0)) ∧ m' = [.box [.sl r.1.length (r.1.flatMap eU8), .i .i64 r.2.1, .i .i64 r.2.2]]) := by
  unfold m15_r01_News at h
  refine callsB_of Try.func15 rfl (nt := 6) rfl (Nat.le_of_ble_eq_true rfl) ?_
  intro w0 S0 X0 H0
  refine cseq ?_
  refine cregion ?_
  refine sv rfl (opv_as rfl) ?_
  refine snil ?_
  refine cseq ?_
  refine cregion ?_
  refine sv rfl (opv_mv rfl) ?_
  refine sv rfl (opv_build zi41 pi41 (parts_cons rfl parts_nil) (.cons _ _ _ _ _ _ _ rfl rfl (Nat.le_of_ble_eq_true rfl) (.nil _))) ?_
  refine sbox rfl rfl ?_
  refine sv rfl (opv_as rfl) ?_
  refine snil ?_
  refine cret ?_
  obtain rfl := Option.some.inj h
  exact ⟨Or.inr rfl, _, [0], [.one (.lp 0 0)], [.box [.sl a0.length (a0.flatMap eU8), .i .i64 0, .i .i64 0]], (resVs_cons (ResV.tmp _ _ rfl) resVs_nil), rfl, rfl, ⟨by decide, rfl⟩, rfl, rfl, ⟨rfl, rfl⟩⟩

def m23_r01_Reader_Fails (a0 : Int) (a1 : List UInt8) (a2 : Int) (a3 : Int) : Option Int :=
  if (decide (a3 = 0)) then (some a0) else (some a3)

set_option maxRecDepth 100000 in
theorem m23_r01_Reader_Fails_c {a0 : Int} {a1 : List UInt8} {a2 : Int} {a3 : Int} {r : Int} (h : m23_r01_Reader_Fails a0 a1 a2 a3 = some r) : CallsB Try.prog 23 [.box [.sl a1.length (a1.flatMap eU8), .i .i64 a2, .i .i64 a3]] [.one (.lp 0 0), .one (.i .i64 a0)] (fun y m' => y = .tup [] ∧ m' = [.box [.sl a1.length (a1.flatMap eU8), .i .i64 a2, .i .i64 r]]) := by
  unfold m23_r01_Reader_Fails at h
  refine callsB_of Try.func23 rfl (nt := 13) rfl (Nat.le_of_ble_eq_true rfl) ?_
  intro w0 S0 X0 H0
  refine cseq ?_
  refine cregion ?_
  refine sv rfl (opv_mv rfl) ?_
  refine sv rfl (opv_nilCheck rfl rfl (fun _ _ _ h => by cases h)) ?_
  refine sv rfl (opv_fieldAddr_lp fi41_2 rfl) ?_
  refine sv rfl (opv_load1 ti38 rfl (.lp _ _ _ rfl) rfl) ?_
  refine sv rfl (opv_ieql rfl rfl) ?_
  refine snil ?_
  refine ccond rfl (fun hc => ?_) (fun hc => ?_)
  · replace h := ite_t hc h
    clear hc
    refine cregion ?_
    refine sv rfl (opv_mv rfl) ?_
    refine sv rfl (opv_mv rfl) ?_
    refine sv rfl (opv_nilCheck rfl rfl (fun _ _ _ h => by cases h)) ?_
    refine sv rfl (opv_fieldAddr_lp fi41_2 rfl) ?_
    refine sstore sz38 rfl rfl rfl rfl (Nat.le_of_ble_eq_true rfl) ?_
    refine smem [.box [.sl a1.length (a1.flatMap eU8), .i .i64 a2, .i .i64 a0]] rfl ?_
    refine snil0 ?_
    obtain rfl := Option.some.inj h
    exact ⟨Or.inl rfl, _, [0], [], [.box [.sl a1.length (a1.flatMap eU8), .i .i64 a2, .i .i64 a0]], resVs_nil, rfl, rfl, ⟨by decide, rfl⟩, rfl, rfl, ⟨rfl, rfl⟩⟩
  · replace h := ite_f hc h
    clear hc
    refine cskip ?_
    obtain rfl := Option.some.inj h
    exact ⟨Or.inl rfl, _, [0], [], [.box [.sl a1.length (a1.flatMap eU8), .i .i64 a2, .i .i64 a3]], resVs_nil, rfl, rfl, ⟨by decide, rfl⟩, rfl, rfl, ⟨rfl, rfl⟩⟩

def m32_r01_Reader_takes_k1 (a0 : Int) (a1 : List UInt8) (a2 : Int) (b1 : Int) : Option ((List UInt8) × Int × Int) :=
  if (!decide (b1 = 0)) then (some (([] : List UInt8), a2, b1)) else ((cut a1 (wI ((wI (a2 + a0)) - a0)) (wI (a2 + a0))).bind fun c2 => if c2.length * 1 ≤ 140737488355328 then (some (c2, (wI (a2 + a0)), b1)) else none)
def m32_r01_Reader_takes (a0 : Int) (a1 : List UInt8) (a2 : Int) (a3 : Int) : Option ((List UInt8) × Int × Int) :=
  if (decide (a3 = 0)) then (if (decide ((wI ((a1.length : Int) - a2)) < a0)) then (m32_r01_Reader_takes_k1 a0 a1 a2 2) else (m32_r01_Reader_takes_k1 a0 a1 a2 a3)) else (m32_r01_Reader_takes_k1 a0 a1 a2 a3)

set_option maxRecDepth 100000 in
theorem m32_r01_Reader_takes_c {a0 : Int} {a1 : List UInt8} {a2 : Int} {a3 : Int} {r : (List UInt8) × Int × Int} (h : m32_r01_Reader_takes a0 a1 a2 a3 = some r) : CallsB Try.prog 32 [.box [.sl a1.length (a1.flatMap eU8), .i .i64 a2, .i .i64 a3]] [.one (.lp 0 0), .one (.i .i64 a0)] (fun y m' => y = .s (.one (.sl r.1.length (r.1.flatMap eU8))) ∧ m' = [.box [.sl a1.length (a1.flatMap eU8), .i .i64 r.2.1, .i .i64 r.2.2]]) := by
  unfold m32_r01_Reader_takes at h
  refine callsB_of Try.func32 rfl (nt := 58) rfl (Nat.le_of_ble_eq_true rfl) ?_
  intro w0 S0 X0 H0
  refine cseq ?_
  refine cregion ?_
  refine sv rfl (opv_as rfl) ?_
  refine snil ?_
  refine cseq ?_
  refine cseq ?_
  refine cjoin3 (Int) (fun b1 => [(0, .s (.one (.lp 0 0))), (1, .s (.one (.i .i64 a0)))]) (fun b1 => [.box [.sl a1.length (a1.flatMap eU8), .i .i64 a2, .i .i64 b1]]) (fun b1 => m32_r01_Reader_takes_k1 a0 a1 a2 b1 = some r) (fun _ _ => inbL_of rfl) (fun _ _ => blkinb_of rfl) (fun _ _ => Nat.le_of_ble_eq_true rfl) (fun b1 h => ?_) ?_
  · unfold m32_r01_Reader_takes_k1 at h
    refine cseq ?_
    refine cseq ?_
    refine cregion ?_
    refine sv rfl (opv_mv rfl) ?_
    refine sv rfl (opv_nilCheck rfl rfl (fun _ _ _ h => by cases h)) ?_
    refine sv rfl (opv_fieldAddr_lp fi41_2 rfl) ?_
    refine sv rfl (opv_load1 ti38 rfl (.lp _ _ _ rfl) rfl) ?_
    refine sv rfl (opv_ineq rfl rfl) ?_
    refine snil ?_
    refine ccond rfl (fun hc => ?_) (fun hc => ?_)
    · replace h := ite_t hc h
      clear hc
      refine cseq ?_
      refine cregion ?_
      refine sv rfl (opv_as rfl) ?_
      refine snil ?_
      refine cpub 4 rfl (by (repeat' first | exact PubA.nil _ | apply PubA.cons | apply PubV.one | apply PubV.agg | exact PubL.nil | exact PubL.id _ rfl | exact PubLs.nil _ | apply PubLs.cons)) ?_
      refine cret ?_
      refine then_ret ?_
      obtain rfl := Option.some.inj h
      exact ⟨Or.inr rfl, _, [0], [.one (.sl ([] : List UInt8).length (([] : List UInt8).flatMap eU8))], [.box [.sl a1.length (a1.flatMap eU8), .i .i64 a2, .i .i64 b1]], (resVs_cons (ResV.tmp _ _ rfl) resVs_nil), rfl, rfl, ⟨by decide, rfl⟩, rfl, rfl, ⟨rfl, rfl⟩⟩
    · replace h := ite_f hc h
      clear hc
      refine cskip ?_
      refine then_normal ?_
      refine cseq ?_
      refine cregion ?_
      refine sv rfl (opv_mv rfl) ?_
      refine sv rfl (opv_mv rfl) ?_
      refine sv rfl (opv_nilCheck rfl rfl (fun _ _ _ h => by cases h)) ?_
      refine sv rfl (opv_fieldAddr_lp fi41_1 rfl) ?_
      refine sv rfl (opv_load1 ti3 rfl (.lp _ _ _ rfl) rfl) ?_
      refine sv rfl (opv_mv rfl) ?_
      refine sv rfl (opv_add rfl rfl) ?_
      refine sv rfl (opv_nilCheck rfl rfl (fun _ _ _ h => by cases h)) ?_
      refine sv rfl (opv_fieldAddr_lp fi41_1 rfl) ?_
      refine sstore sz3 rfl rfl rfl rfl (Nat.le_of_ble_eq_true rfl) ?_
      refine smem [.box [.sl a1.length (a1.flatMap eU8), .i .i64 (wI (a2 + a0)), .i .i64 b1]] rfl ?_
      refine snil ?_
      refine cseq ?_
      refine cdraw mixed (by kernel_rfl) ?_
      refine dd rfl (opD_bldz Try.underlying22 ei5) ?_
      refine dv rfl (opv_mv rfl) ?_
      refine dv rfl (opv_nilCheck rfl rfl (fun _ _ _ h => by cases h)) ?_
      refine dv rfl (opv_fieldAddr_lp fi41_0 rfl) ?_
      refine dv rfl (opv_load1 ti22 rfl (.lp _ _ _ rfl) rfl) ?_
      refine dv rfl (opv_mv rfl) ?_
      refine dv rfl (opv_nilCheck rfl rfl (fun _ _ _ h => by cases h)) ?_
      refine dv rfl (opv_fieldAddr_lp fi41_1 rfl) ?_
      refine dv rfl (opv_load1 ti3 rfl (.lp _ _ _ rfl) rfl) ?_
      refine dv rfl (opv_mv rfl) ?_
      refine dv rfl (opv_sub rfl rfl) ?_
      refine dv rfl (opv_mv rfl) ?_
      refine dv rfl (opv_nilCheck rfl rfl (fun _ _ _ h => by cases h)) ?_
      refine dv rfl (opv_fieldAddr_lp fi41_1 rfl) ?_
      refine dv rfl (opv_load1 ti3 rfl (.lp _ _ _ rfl) rfl) ?_
      obtain ⟨c2, hc2, h⟩ := bind_eq h
      refine dv rfl (opv_cut (f := eU8) (lo := (wI ((wI (a2 + a0)) - a0))) (hi := (wI (a2 + a0))) si22 (fun _ => rfl) rfl rfl rfl (bound_some rfl (cut_eq hc2).1.1) (bound_some rfl (Int.le_trans (cut_eq hc2).1.1 (cut_eq hc2).1.2.1)) hc2) ?_
      obtain ⟨hb3, h⟩ := chk_eq h
      refine dd rfl (opD_apzf (f := eU8) (us := c2) Try.underlying22 ei5 ni22 (fun _ => rfl) rfl rfl hb3 (by decide)) ?_
      refine dv rfl (opv_as rfl) ?_
      refine dnil ?_
      refine then_normal ?_
      refine cret ?_
      obtain rfl := Option.some.inj h
      exact ⟨Or.inr rfl, _, [0], [.one (.sl c2.length (c2.flatMap eU8))], [.box [.sl a1.length (a1.flatMap eU8), .i .i64 (wI (a2 + a0)), .i .i64 b1]], (resVs_cons (ResV.tmp _ _ rfl) resVs_nil), rfl, rfl, ⟨by decide, rfl⟩, rfl, rfl, ⟨rfl, rfl⟩⟩
  · skip
    refine cdraw mixed (by kernel_rfl) ?_
    refine dv rfl (opv_mv rfl) ?_
    refine dv rfl (opv_nilCheck rfl rfl (fun _ _ _ h => by cases h)) ?_
    refine dv rfl (opv_fieldAddr_lp fi41_2 rfl) ?_
    refine dv rfl (opv_load1 ti38 rfl (.lp _ _ _ rfl) rfl) ?_
    refine dv rfl (opv_ieql rfl rfl) ?_
    refine dv rfl (opv_mv rfl) ?_
    refine dsplit 10 rfl (fun hc => ?_) (fun hc => ?_)
    · replace h := ite_t hc h
      clear hc
      refine dvg rfl rfl rfl (opv_mv rfl) ?_
      refine dvg rfl rfl rfl (opv_mv rfl) ?_
      refine dvg rfl rfl rfl (opv_nilCheck rfl rfl (fun _ _ _ h => by cases h)) ?_
      refine dvg rfl rfl rfl (opv_fieldAddr_lp fi41_0 rfl) ?_
      refine dvg rfl rfl rfl (opv_load1 ti22 rfl (.lp _ _ _ rfl) rfl) ?_
      refine dvg rfl rfl rfl (opv_len_sl si22 rfl) ?_
      refine dvg rfl rfl rfl (opv_mv rfl) ?_
      refine dvg rfl rfl rfl (opv_nilCheck rfl rfl (fun _ _ _ h => by cases h)) ?_
      refine dvg rfl rfl rfl (opv_fieldAddr_lp fi41_1 rfl) ?_
      refine dvg rfl rfl rfl (opv_load1 ti3 rfl (.lp _ _ _ rfl) rfl) ?_
      refine dvg rfl rfl rfl (opv_sub rfl rfl) ?_
      refine dvg rfl rfl rfl (opv_gtr rfl rfl) ?_
      refine dv rfl (opv_pick_t rfl rfl) ?_
      refine dnil ?_
      refine then_normal ?_
      refine ccond rfl (fun hc => ?_) (fun hc => ?_)
      · replace h := ite_t hc h
        clear hc
        refine cregion ?_
        refine sv rfl (opv_mv rfl) ?_
        refine sv rfl (opv_nilCheck rfl rfl (fun _ _ _ h => by cases h)) ?_
        refine sv rfl (opv_fieldAddr_lp fi41_2 rfl) ?_
        refine sstore sz38 rfl rfl rfl rfl (Nat.le_of_ble_eq_true rfl) ?_
        refine smem [.box [.sl a1.length (a1.flatMap eU8), .i .i64 a2, .i .i64 2]] rfl ?_
        refine snil ?_
        exact ⟨2, _, h, ⟨rfl, rfl, trivial⟩, rfl⟩
      · replace h := ite_f hc h
        clear hc
        refine cskip ?_
        refine then_normal ?_
        exact ⟨a3, _, h, ⟨rfl, rfl, trivial⟩, rfl⟩
    · replace h := ite_f hc h
      clear hc
      refine doff rfl rfl rfl rfl ?_
      refine doff rfl rfl rfl rfl ?_
      refine doff rfl rfl rfl rfl ?_
      refine doff rfl rfl rfl rfl ?_
      refine doff rfl rfl rfl rfl ?_
      refine doff rfl rfl rfl rfl ?_
      refine doff rfl rfl rfl rfl ?_
      refine doff rfl rfl rfl rfl ?_
      refine doff rfl rfl rfl rfl ?_
      refine doff rfl rfl rfl rfl ?_
      refine doff rfl rfl rfl rfl ?_
      refine doff rfl rfl rfl rfl ?_
      refine dv rfl (opv_pick_f rfl rfl) ?_
      refine dnil ?_
      refine then_normal ?_
      refine ccond rfl (fun hx => Bool.noConfusion hx) (fun _ => ?_)
      refine cskip ?_
      refine then_normal ?_
      exact ⟨a3, _, h, ⟨rfl, rfl, trivial⟩, rfl⟩

def m17_r01_Reader_Us_k3 (v2 : (List UInt8) × Int × Int) (b3 : (BitVec 64)) : Option ((BitVec 64) × Int × Int) :=
  some (b3, v2.2.1, v2.2.2)

def m17_r01_Reader_Us_s4 (v2 : (List UInt8) × Int × Int) (s4 : (BitVec 64) × Int) : Option (LB ((BitVec 64) × Int) ((BitVec 64))) :=
  if (decide (0 ≤ s4.2)) then ((idx v2.1 s4.2).bind fun u5 => some (.cont (((s4.1 * (256#64)) + (u5.toBitVec.setWidth 64)), (wI (s4.2 - 1))))) else (some (.brk s4.1))

def m17_r01_Reader_Us_k1 (a0 : Int) (a1 : List UInt8) (a2 : Int) (a3 : Int) (b1 : Unit) : Option ((BitVec 64) × Int × Int) :=
  (m32_r01_Reader_takes a0 a1 a2 a3).bind fun v2 => (iterB (m17_r01_Reader_Us_s4 v2) fuel (0#64, (wI ((v2.1.length : Int) - 1)))).bind fun e6 => m17_r01_Reader_Us_k3 v2 e6
def m17_r01_Reader_Us (a0 : Int) (a1 : List UInt8) (a2 : Int) (a3 : Int) : Option ((BitVec 64) × Int × Int) :=
  if (decide (a0 < 1)) then ((m23_r01_Reader_Fails 1 a1 a2 a3).bind fun v7 => some (0#64, a2, v7)) else (if (decide (8 < a0)) then ((m23_r01_Reader_Fails 1 a1 a2 a3).bind fun v8 => some (0#64, a2, v8)) else (m17_r01_Reader_Us_k1 a0 a1 a2 a3 ()))

set_option maxRecDepth 100000 in
theorem m17_r01_Reader_Us_c {a0 : Int} {a1 : List UInt8} {a2 : Int} {a3 : Int} {r : (BitVec 64) × Int × Int} (h : m17_r01_Reader_Us a0 a1 a2 a3 = some r) : CallsB Try.prog 17 [.box [.sl a1.length (a1.flatMap eU8), .i .i64 a2, .i .i64 a3]] [.one (.lp 0 0), .one (.i .i64 a0)] (fun y m' => y = .s (.one (.i .u64 (r.1.toNat : Int))) ∧ m' = [.box [.sl a1.length (a1.flatMap eU8), .i .i64 r.2.1, .i .i64 r.2.2]]) := by
  unfold m17_r01_Reader_Us at h
  refine callsB_of Try.func17 rfl (nt := 35) rfl (Nat.le_of_ble_eq_true rfl) ?_
  intro w0 S0 X0 H0
  refine cseq ?_
  refine cregion ?_
  refine sv rfl (opv_as rfl) ?_
  refine snil ?_
  refine cseq ?_
  refine cseq ?_
  refine cjoin3 (Unit) (fun b1 => [(0, .s (.one (.lp 0 0))), (1, .s (.one (.i .i64 a0)))]) (fun b1 => [.box [.sl a1.length (a1.flatMap eU8), .i .i64 a2, .i .i64 a3]]) (fun b1 => m17_r01_Reader_Us_k1 a0 a1 a2 a3 b1 = some r) (fun _ _ => inbL_of rfl) (fun _ _ => blkinb_of rfl) (fun _ _ => Nat.le_of_ble_eq_true rfl) (fun b1 h => ?_) ?_
  · unfold m17_r01_Reader_Us_k1 at h
    refine cseq ?_
    refine cregion ?_
    refine sv rfl (opv_as rfl) ?_
    refine snil ?_
    refine cseq ?_
    refine cregion ?_
    refine sv rfl (opv_mv rfl) ?_
    refine sv rfl (opv_mv rfl) ?_
    obtain ⟨v2, hv2, h⟩ := bind_eq h
    refine scallB (x' := .s (.one (.sl v2.1.length (v2.1.flatMap eU8)))) (M' := [.box [.sl a1.length (a1.flatMap eU8), .i .i64 v2.2.1, .i .i64 v2.2.2]]) [0] rfl fn32 (.func _) (opnds_cons rfl (opnds_cons rfl opnds_nil)) (m32_r01_Reader_takes_c hv2) rfl rfl (by decide) rfl rfl rfl ?_
    refine sv rfl (opv_as rfl) ?_
    refine snil ?_
    refine cseq ?_
    refine cseq ?_
    refine cregion ?_
    refine sv rfl (opv_mv rfl) ?_
    refine sv rfl (opv_len_sl si22 rfl) ?_
    refine sv rfl (opv_sub rfl rfl) ?_
    refine sv rfl (opv_as rfl) ?_
    refine snil ?_
    refine cjoin ((BitVec 64)) (fun b3 => [(5, .s (.one (.i .u64 (b3.toNat : Int))))]) (fun b3 => [.box [.sl a1.length (a1.flatMap eU8), .i .i64 v2.2.1, .i .i64 v2.2.2]]) (fun b3 => m17_r01_Reader_Us_k3 v2 b3 = some r) (fun _ _ => inbL_of rfl) (fun _ _ => blkinb_of rfl) (fun _ _ => Nat.le_of_ble_eq_true rfl) (fun b3 h => ?_) ?_
    · unfold m17_r01_Reader_Us_k3 at h
      refine cseq ?_
      refine cregion ?_
      refine sv rfl (opv_mv rfl) ?_
      refine sv rfl (opv_as rfl) ?_
      refine snil ?_
      refine cret ?_
      obtain rfl := Option.some.inj h
      exact ⟨Or.inr rfl, _, [0], [.one (.i .u64 (b3.toNat : Int))], [.box [.sl a1.length (a1.flatMap eU8), .i .i64 v2.2.1, .i .i64 v2.2.2]], (resVs_cons (ResV.tmp _ _ rfl) resVs_nil), rfl, rfl, ⟨by decide, rfl⟩, rfl, rfl, ⟨rfl, rfl⟩⟩
    · skip
      refine cblock ?_
      obtain ⟨x4, hx4, ho4⟩ := bind_eq h
      refine awc_loop (G := Nat × ((BitVec 64) × Int)) (fun g => [(5, .s (.one (.i .u64 (g.2.1.toNat : Int)))), (6, .s (.one (.sl v2.1.length (v2.1.flatMap eU8)))), (7, .s (.one (.i .i64 g.2.2)))]) (fun g => [.box [.sl a1.length (a1.flatMap eU8), .i .i64 v2.2.1, .i .i64 v2.2.2]]) (fun g => iterB (m17_r01_Reader_Us_s4 v2) g.1 g.2 = some x4) (fun g => g.1) (fuel, (0#64, (wI ((v2.1.length : Int) - 1)))) hx4 ⟨rfl, rfl, rfl, trivial⟩ [] rfl (fun _ _ => inbL_of rfl) (fun _ _ => blkinb_of rfl) (fun _ _ => Nat.le_of_ble_eq_true rfl) ?_
      clear hx4 h
      rintro ⟨n4, s4⟩ h
      obtain ⟨n4, y4, rfl, h, hk4⟩ := iterB_eq h
      unfold m17_r01_Reader_Us_s4 at h
      refine cseq ?_
      refine cseq ?_
      refine cregion ?_
      refine sv rfl (opv_mv rfl) ?_
      refine sv rfl (opv_geq rfl rfl) ?_
      refine snil ?_
      refine ccond rfl (fun hc => ?_) (fun hc => ?_)
      · replace h := ite_t hc h
        clear hc
        refine cskip ?_
        refine then_normal ?_
        refine cseq ?_
        refine cblock ?_
        refine cregion ?_
        refine sv rfl (opv_mv rfl) ?_
        refine sv rfl (opv_mul_u64 (a := s4.1) (b := 256#64) rfl rfl rfl rfl) ?_
        refine sv rfl (opv_mv rfl) ?_
        refine sv rfl (opv_mv rfl) ?_
        obtain ⟨u5, hu5, h⟩ := bind_eq h
        refine sv rfl (opv_ix (f := eU8) si22 (fun _ => rfl) rfl rfl rfl rfl hu5) ?_
        refine sv rfl (opv_load1 ti5 rfl (.cp _) rfl) ?_
        refine sv rfl (opv_conv_bv (k := .u8) (a := u5.toBitVec) rfl Try.underlying5 Try.underlying23 rfl rfl) ?_
        refine sv rfl (opv_add_u64 (a := (s4.1 * (256#64))) (b := (u5.toBitVec.setWidth 64)) rfl rfl rfl rfl) ?_
        refine sv rfl (opv_as rfl) ?_
        refine snil0 ?_
        refine block_normal ?_
        refine then_normal ?_
        refine cregion ?_
        refine sv rfl (opv_mv rfl) ?_
        refine sv rfl (opv_sub rfl rfl) ?_
        refine sv rfl (opv_as rfl) ?_
        refine snil ?_
        obtain rfl := Option.some.inj h
        exact ⟨(n4, (((s4.1 * (256#64)) + (u5.toBitVec.setWidth 64)), (wI (s4.2 - 1)))), _, hk4, ⟨rfl, rfl, rfl, trivial⟩, rfl, Nat.lt_succ_self _⟩
      · replace h := ite_f hc h
        clear hc
        refine cexit ?_
        refine then_exit ?_
        refine then_exit ?_
        refine block_hit ?_
        refine then_normal ?_
        obtain rfl := Option.some.inj h
        obtain rfl : _ = x4 := hk4
        exact ⟨s4.1, _, ho4, ⟨rfl, trivial⟩, rfl⟩
  · skip
    refine cregion ?_
    refine sv rfl (opv_mv rfl) ?_
    refine sv rfl (opv_lss rfl rfl) ?_
    refine sv rfl (opv_mv rfl) ?_
    refine ssplit 10 rfl (fun hc => ?_) (fun hc => ?_)
    · replace h := ite_t hc h
      clear hc
      refine soff rfl rfl rfl rfl ?_
      refine soff rfl rfl rfl rfl ?_
      refine sv rfl (opv_pick_t rfl rfl) ?_
      refine snil ?_
      refine ccond rfl (fun _ => ?_) (fun hx => Bool.noConfusion hx)
      refine cseq ?_
      refine cregion ?_
      refine sv rfl (opv_mv rfl) ?_
      obtain ⟨v7, hv7, h⟩ := bind_eq h
      refine scallB (x' := .tup []) (M' := [.box [.sl a1.length (a1.flatMap eU8), .i .i64 a2, .i .i64 v7]]) [0] rfl fn23 (.func _) (opnds_cons rfl (opnds_cons rfl opnds_nil)) (m23_r01_Reader_Fails_c hv7) rfl rfl (by decide) rfl rfl rfl ?_
      refine snil ?_
      refine cseq ?_
      refine cregion ?_
      refine sv rfl (opv_as rfl) ?_
      refine snil ?_
      refine cret ?_
      refine then_ret ?_
      obtain rfl := Option.some.inj h
      exact ⟨Or.inr rfl, _, [0], [.one (.i .u64 ((0#64).toNat : Int))], [.box [.sl a1.length (a1.flatMap eU8), .i .i64 a2, .i .i64 v7]], (resVs_cons (ResV.tmp _ _ rfl) resVs_nil), rfl, rfl, ⟨by decide, rfl⟩, rfl, rfl, ⟨rfl, rfl⟩⟩
    · replace h := ite_f hc h
      clear hc
      refine son rfl rfl rfl ?_
      refine sv rfl (opv_mv rfl) ?_
      refine son rfl rfl rfl ?_
      refine sv rfl (opv_gtr rfl rfl) ?_
      refine sv rfl (opv_pick_f rfl rfl) ?_
      refine snil ?_
      refine ccond rfl (fun hc => ?_) (fun hc => ?_)
      · replace h := ite_t hc h
        clear hc
        refine cseq ?_
        refine cregion ?_
        refine sv rfl (opv_mv rfl) ?_
        obtain ⟨v8, hv8, h⟩ := bind_eq h
        refine scallB (x' := .tup []) (M' := [.box [.sl a1.length (a1.flatMap eU8), .i .i64 a2, .i .i64 v8]]) [0] rfl fn23 (.func _) (opnds_cons rfl (opnds_cons rfl opnds_nil)) (m23_r01_Reader_Fails_c hv8) rfl rfl (by decide) rfl rfl rfl ?_
        refine snil ?_
        refine cseq ?_
        refine cregion ?_
        refine sv rfl (opv_as rfl) ?_
        refine snil ?_
        refine cret ?_
        refine then_ret ?_
        obtain rfl := Option.some.inj h
        exact ⟨Or.inr rfl, _, [0], [.one (.i .u64 ((0#64).toNat : Int))], [.box [.sl a1.length (a1.flatMap eU8), .i .i64 a2, .i .i64 v8]], (resVs_cons (ResV.tmp _ _ rfl) resVs_nil), rfl, rfl, ⟨by decide, rfl⟩, rfl, rfl, ⟨rfl, rfl⟩⟩
      · replace h := ite_f hc h
        clear hc
        refine cskip ?_
        refine then_normal ?_
        exact ⟨(), _, h, ⟨rfl, rfl, trivial⟩, rfl⟩

def m33_slices_Cloneo (a0 : List UInt8) : Option (List UInt8) :=
  if (([] : List UInt8).length + a0.length) * 1 ≤ 140737488355328 then (some (([] : List UInt8) ++ a0)) else none

set_option maxRecDepth 100000 in
theorem m33_slices_Cloneo_c {a0 : List UInt8} {r : (List UInt8)} (h : m33_slices_Cloneo a0 = some r) : CallsB Try.prog 33 [] [.one (.sl a0.length (a0.flatMap eU8))] (fun y m' => y = .s (.one (.ls 0 r.length)) ∧ m' = [.arr 5 1 0 (r.flatMap eU8)]) := by
  unfold m33_slices_Cloneo at h
  refine callsB_of Try.func33 rfl (nt := 8) rfl (Nat.le_of_ble_eq_true rfl) ?_
  intro w0 S0 X0 H0
  refine cseq ?_
  refine cregion ?_
  refine sv rfl (opv_as rfl) ?_
  refine snil ?_
  refine cseq ?_
  refine cseq ?_
  refine cregion ?_
  refine sv rfl (opv_mv rfl) ?_
  refine snilq rfl Try.underlying22 rfl (fun nq hnq => ?_)
  cases nq
  · skip
    refine snil ?_
    refine ccond rfl (fun hx => Bool.noConfusion hx) (fun _ => ?_)
    refine cskip ?_
    refine then_normal ?_
    refine cseq ?_
    refine cregion ?_
    refine sbuild0 rfl Try.underlying22 ei5 ?_
    refine sv rfl (opv_mv rfl) ?_
    obtain ⟨hb1, h⟩ := chk_eq h
    refine sapp (f := eU8) (xs := ([] : List UInt8)) (us := a0) rfl Try.underlying22 ei5 ni22 (fun _ => rfl) rfl rfl (.one _ _ _ _ (.id _ rfl)) rfl rfl rfl (.sl _ _ _ (flat_len (f := eU8) (fun _ => rfl) _)) rfl rfl hb1 (by decide) ?_
    refine sv rfl (opv_as rfl) ?_
    refine snil ?_
    refine cret ?_
    obtain rfl := Option.some.inj h
    exact ⟨Or.inr rfl, _, [0], [.one (.ls 0 (([] : List UInt8) ++ a0).length)], [.arr 5 1 0 ((([] : List UInt8) ++ a0).flatMap eU8)], (resVs_cons (ResV.tmp _ _ rfl) resVs_nil), rfl, rfl, ⟨by decide, rfl⟩, rfl, rfl, ⟨rfl, rfl⟩⟩
  · obtain rfl := List.eq_nil_of_length_eq_zero (hnq rfl)
    replace h : (some ([] : List UInt8)) = some r := by first | exact h | (rw [if_pos (by decide)] at h; exact h)
    refine snil ?_
    refine ccond rfl (fun _ => ?_) (fun hx => Bool.noConfusion hx)
    refine cseq ?_
    refine cregion ?_
    refine sv rfl (opv_as rfl) ?_
    refine snil ?_
    refine sadopt_c 5 1 2 (by decide) rfl ?_
    refine cret ?_
    refine then_ret ?_
    obtain rfl := Option.some.inj h
    exact ⟨Or.inr rfl, _, [0], [.one (.ls 0 ([] : List UInt8).length)], [.arr 5 1 0 (([] : List UInt8).flatMap eU8)], (resVs_cons (ResV.tmp _ _ rfl) resVs_nil), rfl, rfl, ⟨by decide, rfl⟩, rfl, rfl, ⟨rfl, rfl⟩⟩

def m18_enc_Reader_Lists (a0 : Int) (a1 : Int) (a2 : Int) (a3 : List UInt8) : Option ((List UInt8) × Int × Int) :=
  (m16_enc_Reader_Us 2 a1 a2 a3).bind fun v1 => (m24_enc_Reader_Errs v1.2.1 v1.2.2 a3).bind fun v2 => if (!decide (v2 = 0)) then (some (([] : List UInt8), v1.2.1, v1.2.2)) else (if (decide (a0 < (wI (v1.1.toNat : Int)))) then ((m22_enc_Reader_Fails 5 v1.2.1 v1.2.2 a3).bind fun v3 => some (([] : List UInt8), v3, v1.2.2)) else ((m31_enc_Reader_takes (wI (v1.1.toNat : Int)) v1.2.1 v1.2.2 a3).bind fun v4 => (m33_slices_Cloneo v4.1).bind fun v5 => some (v5, v4.2.1, v4.2.2)))

set_option maxRecDepth 100000 in
theorem m18_enc_Reader_Lists_c {a0 : Int} {a1 : Int} {a2 : Int} {a3 : List UInt8} {r : (List UInt8) × Int × Int} (h : m18_enc_Reader_Lists a0 a1 a2 a3 = some r) : CallsB Try.prog 18 [.box [.fn 30 [] [.lp 1 0, .lp 2 0], .i .i64 a1], .box [.i .i64 a2], .box [.sl a3.length (a3.flatMap eU8)]] [.one (.lp 0 0), .one (.i .i64 a0)] (fun y m' => y = .s (.one (.sl r.1.length (r.1.flatMap eU8))) ∧ m' = [.box [.fn 30 [] [.lp 1 0, .lp 2 0], .i .i64 r.2.1], .box [.i .i64 r.2.2], .box [.sl a3.length (a3.flatMap eU8)]]) := by
  unfold m18_enc_Reader_Lists at h
  refine callsB_of Try.func18 rfl (nt := 21) rfl (Nat.le_of_ble_eq_true rfl) ?_
  intro w0 S0 X0 H0
  refine cseq ?_
  refine cregion ?_
  refine sv rfl (opv_as rfl) ?_
  refine snil ?_
  refine cseq ?_
  refine cregion ?_
  refine sv rfl (opv_mv rfl) ?_
  obtain ⟨v1, hv1, h⟩ := bind_eq h
  refine scallB (x' := .s (.one (.i .u64 (v1.1.toNat : Int)))) (M' := [.box [.fn 30 [] [.lp 1 0, .lp 2 0], .i .i64 v1.2.1], .box [.i .i64 v1.2.2], .box [.sl a3.length (a3.flatMap eU8)]]) [0, 1, 2] rfl fn16 (.func _) (opnds_cons rfl (opnds_cons rfl opnds_nil)) (m16_enc_Reader_Us_c hv1) rfl rfl (by decide) rfl rfl rfl ?_
  refine sv rfl (opv_conv_int Try.underlying23 Try.underlying3 rfl) ?_
  refine sv rfl (opv_as rfl) ?_
  refine snil ?_
  refine cseq ?_
  refine cseq ?_
  refine cregion ?_
  refine sv rfl (opv_mv rfl) ?_
  obtain ⟨v2, hv2, h⟩ := bind_eq h
  refine scallB (x' := .s (.one (.i .i64 v2))) (M' := [.box [.fn 30 [] [.lp 1 0, .lp 2 0], .i .i64 v1.2.1], .box [.i .i64 v1.2.2], .box [.sl a3.length (a3.flatMap eU8)]]) [0, 1, 2] rfl fn24 (.func _) (opnds_cons rfl opnds_nil) (m24_enc_Reader_Errs_c hv2) rfl rfl (by decide) rfl rfl rfl ?_
  refine sv rfl (opv_ineq rfl rfl) ?_
  refine snil ?_
  refine ccond rfl (fun hc => ?_) (fun hc => ?_)
  · replace h := ite_t hc h
    clear hc
    refine cseq ?_
    refine cregion ?_
    refine sv rfl (opv_as rfl) ?_
    refine snil ?_
    refine cpub 4 rfl (by (repeat' first | exact PubA.nil _ | apply PubA.cons | apply PubV.one | apply PubV.agg | exact PubL.nil | exact PubL.id _ rfl | exact PubLs.nil _ | apply PubLs.cons)) ?_
    refine cret ?_
    refine then_ret ?_
    obtain rfl := Option.some.inj h
    exact ⟨Or.inr rfl, _, [0, 1, 2], [.one (.sl ([] : List UInt8).length (([] : List UInt8).flatMap eU8))], [.box [.fn 30 [] [.lp 1 0, .lp 2 0], .i .i64 v1.2.1], .box [.i .i64 v1.2.2], .box [.sl a3.length (a3.flatMap eU8)]], (resVs_cons (ResV.tmp _ _ rfl) resVs_nil), rfl, rfl, ⟨by decide, rfl⟩, rfl, rfl, ⟨rfl, rfl⟩⟩
  · replace h := ite_f hc h
    clear hc
    refine cskip ?_
    refine then_normal ?_
    refine cseq ?_
    refine cseq ?_
    refine cregion ?_
    refine sv rfl (opv_mv rfl) ?_
    refine sv rfl (opv_mv rfl) ?_
    refine sv rfl (opv_gtr rfl rfl) ?_
    refine snil ?_
    refine ccond rfl (fun hc => ?_) (fun hc => ?_)
    · replace h := ite_t hc h
      clear hc
      refine cseq ?_
      refine cregion ?_
      refine sv rfl (opv_mv rfl) ?_
      obtain ⟨v3, hv3, h⟩ := bind_eq h
      refine scallB (x' := .tup []) (M' := [.box [.fn 30 [] [.lp 1 0, .lp 2 0], .i .i64 v3], .box [.i .i64 v1.2.2], .box [.sl a3.length (a3.flatMap eU8)]]) [0, 1, 2] rfl fn22 (.func _) (opnds_cons rfl (opnds_cons rfl opnds_nil)) (m22_enc_Reader_Fails_c hv3) rfl rfl (by decide) rfl rfl rfl ?_
      refine snil ?_
      refine cseq ?_
      refine cregion ?_
      refine sv rfl (opv_as rfl) ?_
      refine snil ?_
      refine cpub 4 rfl (by (repeat' first | exact PubA.nil _ | apply PubA.cons | apply PubV.one | apply PubV.agg | exact PubL.nil | exact PubL.id _ rfl | exact PubLs.nil _ | apply PubLs.cons)) ?_
      refine cret ?_
      refine then_ret ?_
      obtain rfl := Option.some.inj h
      exact ⟨Or.inr rfl, _, [0, 1, 2], [.one (.sl ([] : List UInt8).length (([] : List UInt8).flatMap eU8))], [.box [.fn 30 [] [.lp 1 0, .lp 2 0], .i .i64 v3], .box [.i .i64 v1.2.2], .box [.sl a3.length (a3.flatMap eU8)]], (resVs_cons (ResV.tmp _ _ rfl) resVs_nil), rfl, rfl, ⟨by decide, rfl⟩, rfl, rfl, ⟨rfl, rfl⟩⟩
    · replace h := ite_f hc h
      clear hc
      refine cskip ?_
      refine then_normal ?_
      refine cseq ?_
      refine cregion ?_
      refine sv rfl (opv_mv rfl) ?_
      refine sv rfl (opv_mv rfl) ?_
      obtain ⟨v4, hv4, h⟩ := bind_eq h
      refine scallB (x' := .s (.one (.sl v4.1.length (v4.1.flatMap eU8)))) (M' := [.box [.fn 30 [] [.lp 1 0, .lp 2 0], .i .i64 v4.2.1], .box [.i .i64 v4.2.2], .box [.sl a3.length (a3.flatMap eU8)]]) [0, 1, 2] rfl fn31 (.func _) (opnds_cons rfl (opnds_cons rfl opnds_nil)) (m31_enc_Reader_takes_c hv4) rfl rfl (by decide) rfl rfl rfl ?_
      obtain ⟨v5, hv5, h⟩ := bind_eq h
      refine scallB (x' := .s (.one (.ls 3 v5.length))) (M' := [.box [.fn 30 [] [.lp 1 0, .lp 2 0], .i .i64 v4.2.1], .box [.i .i64 v4.2.2], .box [.sl a3.length (a3.flatMap eU8)], .arr 5 1 0 (v5.flatMap eU8)]) [] rfl fn33 (.func _) (opnds_cons rfl opnds_nil) (m33_slices_Cloneo_c hv5) rfl rfl (by decide) rfl rfl rfl ?_
      refine sv rfl (opv_as rfl) ?_
      refine snil ?_
      refine cpub 4 rfl (by (repeat' first | exact PubA.nil _ | apply PubA.cons | apply PubV.one | apply PubV.agg | exact PubL.nil | exact PubL.ls _ _ _ _ _ _ rfl (flat_len (f := eU8) (fun _ => rfl) _).symm | exact PubL.id _ rfl | exact PubLs.nil _ | apply PubLs.cons)) ?_
      refine cret ?_
      obtain rfl := Option.some.inj h
      exact ⟨Or.inr rfl, _, [0, 1, 2], [.one (.sl v5.length (v5.flatMap eU8))], [.box [.fn 30 [] [.lp 1 0, .lp 2 0], .i .i64 v4.2.1], .box [.i .i64 v4.2.2], .box [.sl a3.length (a3.flatMap eU8)]], (resVs_cons (ResV.tmp _ _ rfl) resVs_nil), rfl, rfl, ⟨by decide, rfl⟩, rfl, rfl, ⟨rfl, rfl⟩⟩

def m19_r01_Reader_Lists_k2 (a1 : List UInt8) (v1 : (BitVec 64) × Int × Int) (b2 : Int) : Option ((List UInt8) × Int × Int) :=
  (m32_r01_Reader_takes (wI (v1.1.toNat : Int)) a1 v1.2.1 b2).bind fun v3 => some (v3.1, v3.2.1, v3.2.2)
def m19_r01_Reader_Lists (a0 : Int) (a1 : List UInt8) (a2 : Int) (a3 : Int) : Option ((List UInt8) × Int × Int) :=
  (m17_r01_Reader_Us 2 a1 a2 a3).bind fun v1 => if (decide (a0 < (wI (v1.1.toNat : Int)))) then ((m23_r01_Reader_Fails 5 a1 v1.2.1 v1.2.2).bind fun v4 => m19_r01_Reader_Lists_k2 a1 v1 v4) else (m19_r01_Reader_Lists_k2 a1 v1 v1.2.2)

set_option maxRecDepth 100000 in
theorem m19_r01_Reader_Lists_c {a0 : Int} {a1 : List UInt8} {a2 : Int} {a3 : Int} {r : (List UInt8) × Int × Int} (h : m19_r01_Reader_Lists a0 a1 a2 a3 = some r) : CallsB Try.prog 19 [.box [.sl a1.length (a1.flatMap eU8), .i .i64 a2, .i .i64 a3]] [.one (.lp 0 0), .one (.i .i64 a0)] (fun y m' => y = .s (.one (.sl r.1.length (r.1.flatMap eU8))) ∧ m' = [.box [.sl a1.length (a1.flatMap eU8), .i .i64 r.2.1, .i .i64 r.2.2]]) := by
  unfold m19_r01_Reader_Lists at h
  refine callsB_of Try.func19 rfl (nt := 17) rfl (Nat.le_of_ble_eq_true rfl) ?_
  intro w0 S0 X0 H0
  refine cseq ?_
  refine cregion ?_
  refine sv rfl (opv_as rfl) ?_
  refine snil ?_
  refine cseq ?_
  refine cregion ?_
  refine sv rfl (opv_mv rfl) ?_
  obtain ⟨v1, hv1, h⟩ := bind_eq h
  refine scallB (x' := .s (.one (.i .u64 (v1.1.toNat : Int)))) (M' := [.box [.sl a1.length (a1.flatMap eU8), .i .i64 v1.2.1, .i .i64 v1.2.2]]) [0] rfl fn17 (.func _) (opnds_cons rfl (opnds_cons rfl opnds_nil)) (m17_r01_Reader_Us_c hv1) rfl rfl (by decide) rfl rfl rfl ?_
  refine sv rfl (opv_conv_int Try.underlying23 Try.underlying3 rfl) ?_
  refine sv rfl (opv_as rfl) ?_
  refine snil ?_
  refine cseq ?_
  refine cseq ?_
  refine cregion ?_
  refine sv rfl (opv_mv rfl) ?_
  refine sv rfl (opv_mv rfl) ?_
  refine sv rfl (opv_gtr rfl rfl) ?_
  refine snil ?_
  refine cjoin (Int) (fun b2 => [(0, .s (.one (.lp 0 0))), (5, .s (.one (.i .i64 (wI (v1.1.toNat : Int)))))]) (fun b2 => [.box [.sl a1.length (a1.flatMap eU8), .i .i64 v1.2.1, .i .i64 b2]]) (fun b2 => m19_r01_Reader_Lists_k2 a1 v1 b2 = some r) (fun _ _ => inbL_of rfl) (fun _ _ => blkinb_of rfl) (fun _ _ => Nat.le_of_ble_eq_true rfl) (fun b2 h => ?_) ?_
  · unfold m19_r01_Reader_Lists_k2 at h
    refine cseq ?_
    refine cregion ?_
    refine sv rfl (opv_mv rfl) ?_
    refine sv rfl (opv_mv rfl) ?_
    obtain ⟨v3, hv3, h⟩ := bind_eq h
    refine scallB (x' := .s (.one (.sl v3.1.length (v3.1.flatMap eU8)))) (M' := [.box [.sl a1.length (a1.flatMap eU8), .i .i64 v3.2.1, .i .i64 v3.2.2]]) [0] rfl fn32 (.func _) (opnds_cons rfl (opnds_cons rfl opnds_nil)) (m32_r01_Reader_takes_c hv3) rfl rfl (by decide) rfl rfl rfl ?_
    refine sv rfl (opv_as rfl) ?_
    refine snil ?_
    refine cret ?_
    obtain rfl := Option.some.inj h
    exact ⟨Or.inr rfl, _, [0], [.one (.sl v3.1.length (v3.1.flatMap eU8))], [.box [.sl a1.length (a1.flatMap eU8), .i .i64 v3.2.1, .i .i64 v3.2.2]], (resVs_cons (ResV.tmp _ _ rfl) resVs_nil), rfl, rfl, ⟨by decide, rfl⟩, rfl, rfl, ⟨rfl, rfl⟩⟩
  · skip
    refine ccond rfl (fun hc => ?_) (fun hc => ?_)
    · replace h := ite_t hc h
      clear hc
      refine cregion ?_
      refine sv rfl (opv_mv rfl) ?_
      obtain ⟨v4, hv4, h⟩ := bind_eq h
      refine scallB (x' := .tup []) (M' := [.box [.sl a1.length (a1.flatMap eU8), .i .i64 v1.2.1, .i .i64 v4]]) [0] rfl fn23 (.func _) (opnds_cons rfl (opnds_cons rfl opnds_nil)) (m23_r01_Reader_Fails_c hv4) rfl rfl (by decide) rfl rfl rfl ?_
      refine snil ?_
      exact ⟨v4, _, h, ⟨rfl, rfl, trivial⟩, rfl⟩
    · replace h := ite_f hc h
      clear hc
      refine cskip ?_
      refine then_normal ?_
      exact ⟨v1.2.2, _, h, ⟨rfl, rfl, trivial⟩, rfl⟩

def m20_enc_Reader_Flags_k2 (v1 : (BitVec 64) × Int × Int) (b2 : Int) : Option (Bool × Int × Int) :=
  some ((decide ((v1.1.toNat : Int) = (1 : Int))), b2, v1.2.2)
def m20_enc_Reader_Flags (a0 : Int) (a1 : Int) (a2 : List UInt8) : Option (Bool × Int × Int) :=
  (m16_enc_Reader_Us 1 a0 a1 a2).bind fun v1 => if (decide ((1 : Int) < (v1.1.toNat : Int))) then ((m22_enc_Reader_Fails 3 v1.2.1 v1.2.2 a2).bind fun v3 => m20_enc_Reader_Flags_k2 v1 v3) else (m20_enc_Reader_Flags_k2 v1 v1.2.1)

set_option maxRecDepth 100000 in
theorem m20_enc_Reader_Flags_c {a0 : Int} {a1 : Int} {a2 : List UInt8} {r : Bool × Int × Int} (h : m20_enc_Reader_Flags a0 a1 a2 = some r) : CallsB Try.prog 20 [.box [.fn 30 [] [.lp 1 0, .lp 2 0], .i .i64 a0], .box [.i .i64 a1], .box [.sl a2.length (a2.flatMap eU8)]] [.one (.lp 0 0)] (fun y m' => y = .s (.one (.b r.1)) ∧ m' = [.box [.fn 30 [] [.lp 1 0, .lp 2 0], .i .i64 r.2.1], .box [.i .i64 r.2.2], .box [.sl a2.length (a2.flatMap eU8)]]) := by
  unfold m20_enc_Reader_Flags at h
  refine callsB_of Try.func20 rfl (nt := 12) rfl (Nat.le_of_ble_eq_true rfl) ?_
  intro w0 S0 X0 H0
  refine cseq ?_
  refine cregion ?_
  refine sv rfl (opv_as rfl) ?_
  refine snil ?_
  refine cseq ?_
  refine cregion ?_
  refine sv rfl (opv_mv rfl) ?_
  obtain ⟨v1, hv1, h⟩ := bind_eq h
  refine scallB (x' := .s (.one (.i .u64 (v1.1.toNat : Int)))) (M' := [.box [.fn 30 [] [.lp 1 0, .lp 2 0], .i .i64 v1.2.1], .box [.i .i64 v1.2.2], .box [.sl a2.length (a2.flatMap eU8)]]) [0, 1, 2] rfl fn16 (.func _) (opnds_cons rfl (opnds_cons rfl opnds_nil)) (m16_enc_Reader_Us_c hv1) rfl rfl (by decide) rfl rfl rfl ?_
  refine sv rfl (opv_as rfl) ?_
  refine snil ?_
  refine cseq ?_
  refine cseq ?_
  refine cregion ?_
  refine sv rfl (opv_mv rfl) ?_
  refine sv rfl (opv_gtr rfl rfl) ?_
  refine snil ?_
  refine cjoin (Int) (fun b2 => [(3, .s (.one (.i .u64 (v1.1.toNat : Int))))]) (fun b2 => [.box [.fn 30 [] [.lp 1 0, .lp 2 0], .i .i64 b2], .box [.i .i64 v1.2.2], .box [.sl a2.length (a2.flatMap eU8)]]) (fun b2 => m20_enc_Reader_Flags_k2 v1 b2 = some r) (fun _ _ => inbL_of rfl) (fun _ _ => blkinb_of rfl) (fun _ _ => Nat.le_of_ble_eq_true rfl) (fun b2 h => ?_) ?_
  · unfold m20_enc_Reader_Flags_k2 at h
    refine cseq ?_
    refine cregion ?_
    refine sv rfl (opv_mv rfl) ?_
    refine sv rfl (opv_ieql rfl rfl) ?_
    refine sv rfl (opv_as rfl) ?_
    refine snil ?_
    refine cret ?_
    obtain rfl := Option.some.inj h
    exact ⟨Or.inr rfl, _, [0, 1, 2], [.one (.b (decide ((v1.1.toNat : Int) = (1 : Int))))], [.box [.fn 30 [] [.lp 1 0, .lp 2 0], .i .i64 b2], .box [.i .i64 v1.2.2], .box [.sl a2.length (a2.flatMap eU8)]], (resVs_cons (ResV.tmp _ _ rfl) resVs_nil), rfl, rfl, ⟨by decide, rfl⟩, rfl, rfl, ⟨rfl, rfl⟩⟩
  · skip
    refine ccond rfl (fun hc => ?_) (fun hc => ?_)
    · replace h := ite_t hc h
      clear hc
      refine cregion ?_
      refine sv rfl (opv_mv rfl) ?_
      obtain ⟨v3, hv3, h⟩ := bind_eq h
      refine scallB (x' := .tup []) (M' := [.box [.fn 30 [] [.lp 1 0, .lp 2 0], .i .i64 v3], .box [.i .i64 v1.2.2], .box [.sl a2.length (a2.flatMap eU8)]]) [0, 1, 2] rfl fn22 (.func _) (opnds_cons rfl (opnds_cons rfl opnds_nil)) (m22_enc_Reader_Fails_c hv3) rfl rfl (by decide) rfl rfl rfl ?_
      refine snil ?_
      exact ⟨v3, _, h, ⟨rfl, trivial⟩, rfl⟩
    · replace h := ite_f hc h
      clear hc
      refine cskip ?_
      refine then_normal ?_
      exact ⟨v1.2.1, _, h, ⟨rfl, trivial⟩, rfl⟩

def m21_r01_Reader_Flags_k2 (v1 : (BitVec 64) × Int × Int) (b2 : Int) : Option (Bool × Int × Int) :=
  if (decide ((v1.1.toNat : Int) = (1 : Int))) then (some ((decide (b2 = 0)), v1.2.1, b2)) else (some (false, v1.2.1, b2))
def m21_r01_Reader_Flags (a0 : List UInt8) (a1 : Int) (a2 : Int) : Option (Bool × Int × Int) :=
  (m17_r01_Reader_Us 1 a0 a1 a2).bind fun v1 => if (decide ((1 : Int) < (v1.1.toNat : Int))) then ((m23_r01_Reader_Fails 3 a0 v1.2.1 v1.2.2).bind fun v3 => m21_r01_Reader_Flags_k2 v1 v3) else (m21_r01_Reader_Flags_k2 v1 v1.2.2)

set_option maxRecDepth 100000 in
theorem m21_r01_Reader_Flags_c {a0 : List UInt8} {a1 : Int} {a2 : Int} {r : Bool × Int × Int} (h : m21_r01_Reader_Flags a0 a1 a2 = some r) : CallsB Try.prog 21 [.box [.sl a0.length (a0.flatMap eU8), .i .i64 a1, .i .i64 a2]] [.one (.lp 0 0)] (fun y m' => y = .s (.one (.b r.1)) ∧ m' = [.box [.sl a0.length (a0.flatMap eU8), .i .i64 r.2.1, .i .i64 r.2.2]]) := by
  unfold m21_r01_Reader_Flags at h
  refine callsB_of Try.func21 rfl (nt := 19) rfl (Nat.le_of_ble_eq_true rfl) ?_
  intro w0 S0 X0 H0
  refine cseq ?_
  refine cregion ?_
  refine sv rfl (opv_as rfl) ?_
  refine snil ?_
  refine cseq ?_
  refine cregion ?_
  refine sv rfl (opv_mv rfl) ?_
  obtain ⟨v1, hv1, h⟩ := bind_eq h
  refine scallB (x' := .s (.one (.i .u64 (v1.1.toNat : Int)))) (M' := [.box [.sl a0.length (a0.flatMap eU8), .i .i64 v1.2.1, .i .i64 v1.2.2]]) [0] rfl fn17 (.func _) (opnds_cons rfl (opnds_cons rfl opnds_nil)) (m17_r01_Reader_Us_c hv1) rfl rfl (by decide) rfl rfl rfl ?_
  refine sv rfl (opv_as rfl) ?_
  refine snil ?_
  refine cseq ?_
  refine cseq ?_
  refine cregion ?_
  refine sv rfl (opv_mv rfl) ?_
  refine sv rfl (opv_gtr rfl rfl) ?_
  refine snil ?_
  refine cjoin (Int) (fun b2 => [(0, .s (.one (.lp 0 0))), (3, .s (.one (.i .u64 (v1.1.toNat : Int))))]) (fun b2 => [.box [.sl a0.length (a0.flatMap eU8), .i .i64 v1.2.1, .i .i64 b2]]) (fun b2 => m21_r01_Reader_Flags_k2 v1 b2 = some r) (fun _ _ => inbL_of rfl) (fun _ _ => blkinb_of rfl) (fun _ _ => Nat.le_of_ble_eq_true rfl) (fun b2 h => ?_) ?_
  · unfold m21_r01_Reader_Flags_k2 at h
    refine cseq ?_
    refine cregion ?_
    refine sv rfl (opv_mv rfl) ?_
    refine sv rfl (opv_ieql rfl rfl) ?_
    refine sv rfl (opv_mv rfl) ?_
    refine ssplit 12 rfl (fun hc => ?_) (fun hc => ?_)
    · replace h := ite_t hc h
      clear hc
      refine son rfl rfl rfl ?_
      refine sv rfl (opv_mv rfl) ?_
      refine son rfl rfl rfl ?_
      refine sv rfl (opv_nilCheck rfl rfl (fun _ _ _ h => by cases h)) ?_
      refine son rfl rfl rfl ?_
      refine sv rfl (opv_fieldAddr_lp fi41_2 rfl) ?_
      refine son rfl rfl rfl ?_
      refine sv rfl (opv_load1 ti38 rfl (.lp _ _ _ rfl) rfl) ?_
      refine son rfl rfl rfl ?_
      refine sv rfl (opv_ieql rfl rfl) ?_
      refine sv rfl (opv_pick_t rfl rfl) ?_
      refine sv rfl (opv_as rfl) ?_
      refine snil ?_
      refine cret ?_
      obtain rfl := Option.some.inj h
      exact ⟨Or.inr rfl, _, [0], [.one (.b (decide (b2 = 0)))], [.box [.sl a0.length (a0.flatMap eU8), .i .i64 v1.2.1, .i .i64 b2]], (resVs_cons (ResV.tmp _ _ rfl) resVs_nil), rfl, rfl, ⟨by decide, rfl⟩, rfl, rfl, ⟨rfl, rfl⟩⟩
    · replace h := ite_f hc h
      clear hc
      refine soff rfl rfl rfl rfl ?_
      refine soff rfl rfl rfl rfl ?_
      refine soff rfl rfl rfl rfl ?_
      refine soff rfl rfl rfl rfl ?_
      refine soff rfl rfl rfl rfl ?_
      refine sv rfl (opv_pick_f rfl rfl) ?_
      refine sv rfl (opv_as rfl) ?_
      refine snil ?_
      refine cret ?_
      obtain rfl := Option.some.inj h
      exact ⟨Or.inr rfl, _, [0], [.one (.b false)], [.box [.sl a0.length (a0.flatMap eU8), .i .i64 v1.2.1, .i .i64 b2]], (resVs_cons (ResV.tmp _ _ rfl) resVs_nil), rfl, rfl, ⟨by decide, rfl⟩, rfl, rfl, ⟨rfl, rfl⟩⟩
  · skip
    refine ccond rfl (fun hc => ?_) (fun hc => ?_)
    · replace h := ite_t hc h
      clear hc
      refine cregion ?_
      refine sv rfl (opv_mv rfl) ?_
      obtain ⟨v3, hv3, h⟩ := bind_eq h
      refine scallB (x' := .tup []) (M' := [.box [.sl a0.length (a0.flatMap eU8), .i .i64 v1.2.1, .i .i64 v3]]) [0] rfl fn23 (.func _) (opnds_cons rfl (opnds_cons rfl opnds_nil)) (m23_r01_Reader_Fails_c hv3) rfl rfl (by decide) rfl rfl rfl ?_
      refine snil ?_
      exact ⟨v3, _, h, ⟨rfl, rfl, trivial⟩, rfl⟩
    · replace h := ite_f hc h
      clear hc
      refine cskip ?_
      refine then_normal ?_
      exact ⟨v1.2.2, _, h, ⟨rfl, rfl, trivial⟩, rfl⟩

def m27_r01_Reader_Ends_k1 (a2 : Int) (b1 : Unit) : Option Int :=
  some a2
def m27_r01_Reader_Ends (a0 : List UInt8) (a1 : Int) (a2 : Int) : Option Int :=
  if (decide (a2 = 0)) then (if (decide (a1 < (a0.length : Int))) then (some 3) else (m27_r01_Reader_Ends_k1 a2 ())) else (m27_r01_Reader_Ends_k1 a2 ())

set_option maxRecDepth 100000 in
theorem m27_r01_Reader_Ends_c {a0 : List UInt8} {a1 : Int} {a2 : Int} {r : Int} (h : m27_r01_Reader_Ends a0 a1 a2 = some r) : CallsB Try.prog 27 [.box [.sl a0.length (a0.flatMap eU8), .i .i64 a1, .i .i64 a2]] [.one (.lp 0 0)] (fun y m' => y = .s (.one (.i .i64 r)) ∧ m' = [.box [.sl a0.length (a0.flatMap eU8), .i .i64 a1, .i .i64 a2]]) := by
  unfold m27_r01_Reader_Ends at h
  refine callsB_of Try.func27 rfl (nt := 24) rfl (Nat.le_of_ble_eq_true rfl) ?_
  intro w0 S0 X0 H0
  refine cseq ?_
  refine cregion ?_
  refine sv rfl (opv_as rfl) ?_
  refine snil ?_
  refine cseq ?_
  refine cseq ?_
  refine cjoin3 (Unit) (fun b1 => [(0, .s (.one (.lp 0 0)))]) (fun b1 => [.box [.sl a0.length (a0.flatMap eU8), .i .i64 a1, .i .i64 a2]]) (fun b1 => m27_r01_Reader_Ends_k1 a2 b1 = some r) (fun _ _ => inbL_of rfl) (fun _ _ => blkinb_of rfl) (fun _ _ => Nat.le_of_ble_eq_true rfl) (fun b1 h => ?_) ?_
  · unfold m27_r01_Reader_Ends_k1 at h
    refine cseq ?_
    refine cregion ?_
    refine sv rfl (opv_mv rfl) ?_
    refine sv rfl (opv_nilCheck rfl rfl (fun _ _ _ h => by cases h)) ?_
    refine sv rfl (opv_fieldAddr_lp fi41_2 rfl) ?_
    refine sv rfl (opv_load1 ti38 rfl (.lp _ _ _ rfl) rfl) ?_
    refine sv rfl (opv_as rfl) ?_
    refine snil ?_
    refine cret ?_
    obtain rfl := Option.some.inj h
    exact ⟨Or.inr rfl, _, [0], [.one (.i .i64 a2)], [.box [.sl a0.length (a0.flatMap eU8), .i .i64 a1, .i .i64 a2]], (resVs_cons (ResV.tmp _ _ rfl) resVs_nil), rfl, rfl, ⟨by decide, rfl⟩, rfl, rfl, ⟨rfl, rfl⟩⟩
  · skip
    refine cdraw mixed (by kernel_rfl) ?_
    refine dv rfl (opv_mv rfl) ?_
    refine dv rfl (opv_nilCheck rfl rfl (fun _ _ _ h => by cases h)) ?_
    refine dv rfl (opv_fieldAddr_lp fi41_2 rfl) ?_
    refine dv rfl (opv_load1 ti38 rfl (.lp _ _ _ rfl) rfl) ?_
    refine dv rfl (opv_ieql rfl rfl) ?_
    refine dv rfl (opv_mv rfl) ?_
    refine dsplit 8 rfl (fun hc => ?_) (fun hc => ?_)
    · replace h := ite_t hc h
      clear hc
      refine dvg rfl rfl rfl (opv_mv rfl) ?_
      refine dvg rfl rfl rfl (opv_nilCheck rfl rfl (fun _ _ _ h => by cases h)) ?_
      refine dvg rfl rfl rfl (opv_fieldAddr_lp fi41_1 rfl) ?_
      refine dvg rfl rfl rfl (opv_load1 ti3 rfl (.lp _ _ _ rfl) rfl) ?_
      refine dvg rfl rfl rfl (opv_mv rfl) ?_
      refine dvg rfl rfl rfl (opv_nilCheck rfl rfl (fun _ _ _ h => by cases h)) ?_
      refine dvg rfl rfl rfl (opv_fieldAddr_lp fi41_0 rfl) ?_
      refine dvg rfl rfl rfl (opv_load1 ti22 rfl (.lp _ _ _ rfl) rfl) ?_
      refine dvg rfl rfl rfl (opv_len_sl si22 rfl) ?_
      refine dvg rfl rfl rfl (opv_lss rfl rfl) ?_
      refine dv rfl (opv_pick_t rfl rfl) ?_
      refine dnil ?_
      refine then_normal ?_
      refine ccond rfl (fun hc => ?_) (fun hc => ?_)
      · replace h := ite_t hc h
        clear hc
        refine cseq ?_
        refine cregion ?_
        refine sv rfl (opv_as rfl) ?_
        refine snil ?_
        refine cret ?_
        refine then_ret ?_
        obtain rfl := Option.some.inj h
        exact ⟨Or.inr rfl, _, [0], [.one (.i .i64 3)], [.box [.sl a0.length (a0.flatMap eU8), .i .i64 a1, .i .i64 a2]], (resVs_cons (ResV.tmp _ _ rfl) resVs_nil), rfl, rfl, ⟨by decide, rfl⟩, rfl, rfl, ⟨rfl, rfl⟩⟩
      · replace h := ite_f hc h
        clear hc
        refine cskip ?_
        refine then_normal ?_
        exact ⟨(), _, h, ⟨rfl, trivial⟩, rfl⟩
    · replace h := ite_f hc h
      clear hc
      refine doff rfl rfl rfl rfl ?_
      refine doff rfl rfl rfl rfl ?_
      refine doff rfl rfl rfl rfl ?_
      refine doff rfl rfl rfl rfl ?_
      refine doff rfl rfl rfl rfl ?_
      refine doff rfl rfl rfl rfl ?_
      refine doff rfl rfl rfl rfl ?_
      refine doff rfl rfl rfl rfl ?_
      refine doff rfl rfl rfl rfl ?_
      refine doff rfl rfl rfl rfl ?_
      refine dv rfl (opv_pick_f rfl rfl) ?_
      refine dnil ?_
      refine then_normal ?_
      refine ccond rfl (fun hx => Bool.noConfusion hx) (fun _ => ?_)
      refine cskip ?_
      refine then_normal ?_
      exact ⟨(), _, h, ⟨rfl, trivial⟩, rfl⟩

def m4_l01_EncReads_k5 (v1 : Bool) (b5 : Int × Int × Int × Int) : Option Bool :=
  some v1

def m4_l01_EncReads_k8 (v3 : Int × Int × (List UInt8)) (v4 : (List UInt8) × Int × Int) (s6 : Int × Int × Int × Int × Int) (b8 : Int × Int × Int × Int) : Option (LR (Int × Int × Int × Int × Int) (Int × Int × Int × Int) (Bool)) :=
  (m24_enc_Reader_Errs b8.1 b8.2.1 v3.2.2).bind fun v9 => if (!decide (v9 = b8.2.2.2)) then (some (.ret false)) else ((m25_enc_Reader_Ats b8.1 b8.2.1 v3.2.2).bind fun v11 => if (!decide (v11.1 = b8.2.2.1)) then (some (.ret false)) else ((m26_enc_Reader_Ends b8.1 v11.2 v3.2.2).bind fun v13 => (m27_r01_Reader_Ends v4.1 b8.2.2.1 b8.2.2.2).bind fun v14 => if (!decide (v13.1 = v14)) then (some (.ret false)) else (some (.cont ((wI (s6.1 + 1)), b8.1, v13.2, b8.2.2.1, b8.2.2.2)))))

def m4_l01_EncReads_k15 (a1 : List GL01Step) (v3 : Int × Int × (List UInt8)) (v4 : (List UInt8) × Int × Int) (s6 : Int × Int × Int × Int × Int) (u7 : GL01Step) (b15 : Bool) : Option (LR (Int × Int × Int × Int × Int) (Int × Int × Int × Int) (Bool)) :=
  if b15 then ((idx a1 s6.1).bind fun u16 => (m16_enc_Reader_Us u16.N s6.2.1 s6.2.2.1 v3.2.2).bind fun v17 => (idx a1 s6.1).bind fun u18 => (m17_r01_Reader_Us u18.N v4.1 s6.2.2.2.1 s6.2.2.2.2).bind fun v19 => if (!decide ((v17.1.toNat : Int) = (v19.1.toNat : Int))) then (some (.ret false)) else (m4_l01_EncReads_k8 v3 v4 s6 (v17.2.1, v17.2.2, v19.2.1, v19.2.2))) else (if (decide (u7.What = 2)) then ((idx a1 s6.1).bind fun u20 => (m18_enc_Reader_Lists u20.N s6.2.1 s6.2.2.1 v3.2.2).bind fun v21 => (idx a1 s6.1).bind fun u22 => (m19_r01_Reader_Lists u22.N v4.1 s6.2.2.2.1 s6.2.2.2.2).bind fun v23 => if (!(v21.1 == v23.1)) then (some (.ret false)) else (m4_l01_EncReads_k8 v3 v4 s6 (v21.2.1, v21.2.2, v23.2.1, v23.2.2))) else (if (decide (u7.What = 3)) then ((m20_enc_Reader_Flags s6.2.1 s6.2.2.1 v3.2.2).bind fun v24 => (m21_r01_Reader_Flags v4.1 s6.2.2.2.1 s6.2.2.2.2).bind fun v25 => if (!(v24.1 == v25.1)) then (some (.ret false)) else (m4_l01_EncReads_k8 v3 v4 s6 (v24.2.1, v24.2.2, v25.2.1, v25.2.2))) else (if (decide (u7.What = 4)) then ((idx a1 s6.1).bind fun u26 => (m22_enc_Reader_Fails u26.N s6.2.1 s6.2.2.1 v3.2.2).bind fun v27 => (idx a1 s6.1).bind fun u28 => (m23_r01_Reader_Fails u28.N v4.1 s6.2.2.2.1 s6.2.2.2.2).bind fun v29 => m4_l01_EncReads_k8 v3 v4 s6 (v27, s6.2.2.1, s6.2.2.2.1, v29)) else (m4_l01_EncReads_k8 v3 v4 s6 (s6.2.1, s6.2.2.1, s6.2.2.2.1, s6.2.2.2.2)))))

def m4_l01_EncReads_s6 (a1 : List GL01Step) (v3 : Int × Int × (List UInt8)) (v4 : (List UInt8) × Int × Int) (s6 : Int × Int × Int × Int × Int) : Option (LR (Int × Int × Int × Int × Int) (Int × Int × Int × Int) (Bool)) :=
  if (decide (s6.1 < (a1.length : Int))) then ((idx a1 s6.1).bind fun u7 => if (decide (u7.What = 0)) then (m4_l01_EncReads_k15 a1 v3 v4 s6 u7 (decide (u7.What = 0))) else (m4_l01_EncReads_k15 a1 v3 v4 s6 u7 (decide (u7.What = 1)))) else (some (.brk (s6.2.1, s6.2.2.1, s6.2.2.2.1, s6.2.2.2.2)))

def m4_l01_EncReads_k2 (a0 : List UInt8) (a1 : List GL01Step) (v1 : Bool) (b2 : Unit) : Option Bool :=
  (m14_enc_News a0).bind fun v3 => (m15_r01_News a0).bind fun v4 => (iter (m4_l01_EncReads_s6 a1 v3 v4) fuel (0, v3.1, v3.2.1, v4.2.1, v4.2.2)).bind fun x => match x with | .inl r => some r | .inr e30 => m4_l01_EncReads_k5 v1 e30
def m4_l01_EncReads (a0 : List UInt8) (a1 : List GL01Step) : Option Bool :=
  (m9_l01_awake).bind fun v1 => if (decide (500 < (a0.length : Int))) then (some v1) else (if (decide (100 < (a1.length : Int))) then (some v1) else (m4_l01_EncReads_k2 a0 a1 v1 ()))

set_option maxRecDepth 100000 in
theorem m4_l01_EncReads_c {a0 : List UInt8} {a1 : List GL01Step} {r : Bool} (h : m4_l01_EncReads a0 a1 = some r) : CallsA Try.prog 4 [.one (.sl a0.length (a0.flatMap eU8)), .one (.sl a1.length (a1.flatMap eGL01Step))] (· = .s (.one (.b r))) := by
  unfold m4_l01_EncReads at h
  refine callsA_of Try.func4 rfl (nt := 118) rfl (Nat.le_of_ble_eq_true rfl) ?_
  intro w0 S0
  refine cseq ?_
  refine cregion ?_
  refine sv rfl (opv_as rfl) ?_
  refine snil ?_
  refine cseq ?_
  refine cregion ?_
  obtain ⟨v1, hv1, h⟩ := bind_eq h
  refine scall1 rfl fn9 opnds_nil (pubA_id rfl) (m9_l01_awake_c hv1) ?_
  refine sv rfl (opv_as rfl) ?_
  refine snil ?_
  refine cseq ?_
  refine cseq ?_
  refine cjoin3 (Unit) (fun b2 => [(0, .s (.one (.sl a0.length (a0.flatMap eU8)))), (1, .s (.one (.sl a1.length (a1.flatMap eGL01Step)))), (5, .s (.one (.b v1)))]) (fun b2 => []) (fun b2 => m4_l01_EncReads_k2 a0 a1 v1 b2 = some r) (fun _ _ => inbL_of rfl) (fun _ _ => blkinb_of rfl) (fun _ _ => Nat.le_of_ble_eq_true rfl) (fun b2 h => ?_) ?_
  · unfold m4_l01_EncReads_k2 at h
    refine cseq ?_
    refine cregion ?_
    refine sv rfl (opv_mv rfl) ?_
    obtain ⟨v3, hv3, h⟩ := bind_eq h
    refine scallB (x' := .s (.one (.lp 0 0))) (M' := [.box [.fn 30 [] [.lp 1 0, .lp 2 0], .i .i64 v3.1], .box [.i .i64 v3.2.1], .box [.sl v3.2.2.length (v3.2.2.flatMap eU8)]]) [] rfl fn14 (.func _) (opnds_cons rfl opnds_nil) (m14_enc_News_c hv3) rfl rfl (by decide) rfl rfl rfl ?_
    refine sv rfl (opv_as rfl) ?_
    refine snil ?_
    refine cseq ?_
    refine cregion ?_
    refine sv rfl (opv_mv rfl) ?_
    obtain ⟨v4, hv4, h⟩ := bind_eq h
    refine scallB (x' := .s (.one (.lp 3 0))) (M' := [.box [.fn 30 [] [.lp 1 0, .lp 2 0], .i .i64 v3.1], .box [.i .i64 v3.2.1], .box [.sl v3.2.2.length (v3.2.2.flatMap eU8)], .box [.sl v4.1.length (v4.1.flatMap eU8), .i .i64 v4.2.1, .i .i64 v4.2.2]]) [] rfl fn15 (.func _) (opnds_cons rfl opnds_nil) (m15_r01_News_c hv4) rfl rfl (by decide) rfl rfl rfl ?_
    refine sv rfl (opv_as rfl) ?_
    refine snil ?_
    refine cseq ?_
    refine cseq ?_
    refine cregion ?_
    refine sv rfl (opv_as rfl) ?_
    refine snil ?_
    refine cjoin (Int × Int × Int × Int) (fun b5 => [(5, .s (.one (.b v1)))]) (fun b5 => [.box [.fn 30 [] [.lp 1 0, .lp 2 0], .i .i64 b5.1], .box [.i .i64 b5.2.1], .box [.sl v3.2.2.length (v3.2.2.flatMap eU8)], .box [.sl v4.1.length (v4.1.flatMap eU8), .i .i64 b5.2.2.1, .i .i64 b5.2.2.2]]) (fun b5 => m4_l01_EncReads_k5 v1 b5 = some r) (fun _ _ => inbL_of rfl) (fun _ _ => blkinb_of rfl) (fun _ _ => Nat.le_of_ble_eq_true rfl) (fun b5 h => ?_) ?_
    · unfold m4_l01_EncReads_k5 at h
      refine cseq ?_
      refine cregion ?_
      refine sv rfl (opv_mv rfl) ?_
      refine sv rfl (opv_as rfl) ?_
      refine snil ?_
      refine cret ?_
      obtain rfl := Option.some.inj h
      refine ⟨Or.inr rfl, _, _, _, (resVs_cons (ResV.tmp _ _ rfl) resVs_nil), (pubA_id rfl), ?_⟩
      rfl
    · skip
      refine cblock ?_
      obtain ⟨x6, hx6, ho6⟩ := bind_eq h
      refine awc_loop (G := Nat × (Int × Int × Int × Int × Int)) (fun g => [(1, .s (.one (.sl a1.length (a1.flatMap eGL01Step)))), (5, .s (.one (.b v1))), (6, .s (.one (.lp 0 0))), (7, .s (.one (.lp 3 0))), (8, .s (.one (.i .i64 g.2.1)))]) (fun g => [.box [.fn 30 [] [.lp 1 0, .lp 2 0], .i .i64 g.2.2.1], .box [.i .i64 g.2.2.2.1], .box [.sl v3.2.2.length (v3.2.2.flatMap eU8)], .box [.sl v4.1.length (v4.1.flatMap eU8), .i .i64 g.2.2.2.2.1, .i .i64 g.2.2.2.2.2]]) (fun g => iter (m4_l01_EncReads_s6 a1 v3 v4) g.1 g.2 = some x6) (fun g => g.1) (fuel, (0, v3.1, v3.2.1, v4.2.1, v4.2.2)) hx6 ⟨rfl, rfl, rfl, rfl, rfl, trivial⟩ [] rfl (fun _ _ => inbL_of rfl) (fun _ _ => blkinb_of rfl) (fun _ _ => Nat.le_of_ble_eq_true rfl) ?_
      clear hx6 h
      rintro ⟨n6, s6⟩ h
      obtain ⟨n6, y6, rfl, h, hk6⟩ := iter_eq h
      unfold m4_l01_EncReads_s6 at h
      refine cseq ?_
      refine cseq ?_
      refine cregion ?_
      refine sv rfl (opv_mv rfl) ?_
      refine sv rfl (opv_mv rfl) ?_
      refine sv rfl (opv_len_sl si28 rfl) ?_
      refine sv rfl (opv_lss rfl rfl) ?_
      refine snil ?_
      refine ccond rfl (fun hc => ?_) (fun hc => ?_)
      · replace h := ite_t hc h
        clear hc
        refine cskip ?_
        refine then_normal ?_
        refine cseq ?_
        refine cblock ?_
        refine cseq ?_
        refine cseq ?_
        refine cregion ?_
        refine sv rfl (opv_mv rfl) ?_
        refine sv rfl (opv_mv rfl) ?_
        obtain ⟨u7, hu7, h⟩ := bind_eq h
        refine sv rfl (opv_ix (f := eGL01Step) si28 (fun _ => rfl) rfl rfl rfl rfl hu7) ?_
        refine sv rfl (opv_fieldAddr_cp fi34_0 rfl) ?_
        refine sv rfl (opv_load1 ti3 rfl (.cp _) rfl) ?_
        refine snil ?_
        refine cjoin (Int × Int × Int × Int) (fun b8 => [(1, .s (.one (.sl a1.length (a1.flatMap eGL01Step)))), (5, .s (.one (.b v1))), (6, .s (.one (.lp 0 0))), (7, .s (.one (.lp 3 0))), (8, .s (.one (.i .i64 s6.1)))]) (fun b8 => [.box [.fn 30 [] [.lp 1 0, .lp 2 0], .i .i64 b8.1], .box [.i .i64 b8.2.1], .box [.sl v3.2.2.length (v3.2.2.flatMap eU8)], .box [.sl v4.1.length (v4.1.flatMap eU8), .i .i64 b8.2.2.1, .i .i64 b8.2.2.2]]) (fun b8 => m4_l01_EncReads_k8 v3 v4 s6 b8 = some y6) (fun _ _ => inbL_of rfl) (fun _ _ => blkinb_of rfl) (fun _ _ => Nat.le_of_ble_eq_true rfl) (fun b8 h => ?_) ?_
        · unfold m4_l01_EncReads_k8 at h
          refine cseq ?_
          obtain ⟨v9, hv9, h⟩ := bind_eq h
          rcases Bool.eq_false_or_eq_true (!decide (v9 = b8.2.2.2)) with hg10 | hg10
          · replace h := ite_t hg10 h
            refine cdraw_e [1] [0, 1, 0, 4, 12, 28, 63, 127, 255, 511, 255, 1279, 3327, 7423, 16383, 32767, 65535, 131071, 262143, 131071, 1048575, 2097151, 4194303] [[.box [.fn 30 [] [.lp 1 0, .lp 2 0], .i .i64 b8.1], .box [.i .i64 b8.2.1], .box [.sl v3.2.2.length (v3.2.2.flatMap eU8)], .box [.sl v4.1.length (v4.1.flatMap eU8), .i .i64 b8.2.2.1, .i .i64 b8.2.2.2]], [.box [.fn 30 [] [.lp 1 0, .lp 2 0], .i .i64 b8.1], .box [.i .i64 b8.2.1], .box [.sl v3.2.2.length (v3.2.2.flatMap eU8)], .box [.sl v4.1.length (v4.1.flatMap eU8), .i .i64 b8.2.2.1, .i .i64 b8.2.2.2]]] (by kernel_rfl) mixed (by kernel_rfl) (by decide) rfl rfl rfl rfl ?_
            refine ev (sees_at 0 rfl rfl) rfl rfl (opv_mv rfl) ?_
            refine ee (x := .s (.one (.i .i64 v9))) 0 rfl rfl rfl rfl rfl (fun ζ => ?_) ?_
            · refine scallB (x' := .s (.one (.i .i64 v9))) (M' := [.box [.fn 30 [] [.lp 1 0, .lp 2 0], .i .i64 b8.1], .box [.i .i64 b8.2.1], .box [.sl v3.2.2.length (v3.2.2.flatMap eU8)], .box [.sl v4.1.length (v4.1.flatMap eU8), .i .i64 b8.2.2.1, .i .i64 b8.2.2.2]]) [0, 1, 2] rfl fn24 (.func _) (opnds_cons rfl opnds_nil) (m24_enc_Reader_Errs_c hv9) rfl rfl (by decide) rfl rfl rfl ?_
              exact eend
            refine emv rfl rfl (fun _ => opv_mv rfl) ?_
            refine ev (sees_all (md := [.box [.fn 30 [] [.lp 1 0, .lp 2 0], .i .i64 b8.1], .box [.i .i64 b8.2.1], .box [.sl v3.2.2.length (v3.2.2.flatMap eU8)], .box [.sl v4.1.length (v4.1.flatMap eU8), .i .i64 b8.2.2.1, .i .i64 b8.2.2.2]]) ⟨⟨rfl, ⟨rfl, ⟨rfl, ⟨rfl, trivial⟩⟩⟩⟩, ⟨⟨rfl, ⟨rfl, ⟨rfl, ⟨rfl, trivial⟩⟩⟩⟩, trivial⟩⟩) rfl rfl (opv_nilCheck rfl rfl (fun _ _ _ h => by cases h)) ?_
            refine ev (sees_all (md := [.box [.fn 30 [] [.lp 1 0, .lp 2 0], .i .i64 b8.1], .box [.i .i64 b8.2.1], .box [.sl v3.2.2.length (v3.2.2.flatMap eU8)], .box [.sl v4.1.length (v4.1.flatMap eU8), .i .i64 b8.2.2.1, .i .i64 b8.2.2.2]]) ⟨⟨rfl, ⟨rfl, ⟨rfl, ⟨rfl, trivial⟩⟩⟩⟩, ⟨⟨rfl, ⟨rfl, ⟨rfl, ⟨rfl, trivial⟩⟩⟩⟩, trivial⟩⟩) rfl rfl (opv_fieldAddr_lp fi41_2 rfl) ?_
            refine ev (sees_all (md := [.box [.fn 30 [] [.lp 1 0, .lp 2 0], .i .i64 b8.1], .box [.i .i64 b8.2.1], .box [.sl v3.2.2.length (v3.2.2.flatMap eU8)], .box [.sl v4.1.length (v4.1.flatMap eU8), .i .i64 b8.2.2.1, .i .i64 b8.2.2.2]]) ⟨⟨rfl, ⟨rfl, ⟨rfl, ⟨rfl, trivial⟩⟩⟩⟩, ⟨⟨rfl, ⟨rfl, ⟨rfl, ⟨rfl, trivial⟩⟩⟩⟩, trivial⟩⟩) rfl rfl (opv_load1 ti38 rfl (.lp _ _ _ rfl) rfl) ?_
            refine ev (sees_at 1 rfl rfl) rfl rfl (opv_ineq rfl rfl) ?_
            refine ev (sees_at 1 rfl rfl) rfl rfl (opv_mv rfl) ?_
            refine esplit 101 rfl (fun _ => ?_) (fun hx => Bool.noConfusion (hg10.symm.trans hx))
            refine eoffv rfl rfl rfl rfl rfl ?_
            refine eoffv rfl rfl rfl rfl rfl ?_
            refine eoffv rfl rfl rfl rfl rfl ?_
            refine eoffv rfl rfl rfl rfl rfl ?_
            refine eoffv rfl rfl rfl rfl rfl ?_
            refine eoffv rfl rfl rfl rfl rfl ?_
            refine eoffv rfl rfl rfl rfl rfl ?_
            refine ev (sees_at 1 rfl rfl) rfl rfl (opv_pick_t rfl rfl) ?_
            refine ev (sees_at 1 rfl rfl) rfl rfl (opv_mv rfl) ?_
            refine eoffv rfl rfl rfl rfl rfl ?_
            refine eoffv rfl rfl rfl rfl rfl ?_
            refine eoffv rfl rfl rfl rfl rfl ?_
            refine eoffv rfl rfl rfl rfl rfl ?_
            refine eoffv rfl rfl rfl rfl rfl ?_
            refine ev (sees_at 1 rfl rfl) rfl rfl (opv_pick_t rfl rfl) ?_
            refine enil ?_
            refine then_normal ?_
            refine ccond rfl (fun _ => ?_) (fun hx => Bool.noConfusion hx)
            refine cseq ?_
            refine cregion ?_
            refine sv rfl (opv_as rfl) ?_
            refine snil ?_
            refine cret ?_
            refine block_ret ?_
            refine then_ret ?_
            refine then_ret ?_
            refine block_ret ?_
            refine then_ret ?_
            obtain rfl := Option.some.inj h
            obtain rfl : Sum.inl _ = x6 := hk6
            replace ho6 : some _ = some _ := ho6
            obtain rfl := Option.some.inj ho6
            refine ⟨Or.inr rfl, _, _, _, (resVs_cons (ResV.tmp _ _ rfl) resVs_nil), (pubA_id rfl), ?_⟩
            rfl
          · replace h := ite_f hg10 h
            obtain ⟨v11, hv11, h⟩ := bind_eq h
            rcases Bool.eq_false_or_eq_true (!decide (v11.1 = b8.2.2.1)) with hg12 | hg12
            · replace h := ite_t hg12 h
              refine cdraw_e [1, 9] [0, 1, 0, 4, 12, 28, 63, 127, 255, 511, 255, 1279, 3327, 7423, 16383, 32767, 65535, 131071, 262143, 131071, 1048575, 2097151, 4194303] [[.box [.fn 30 [] [.lp 1 0, .lp 2 0], .i .i64 b8.1], .box [.i .i64 b8.2.1], .box [.sl v3.2.2.length (v3.2.2.flatMap eU8)], .box [.sl v4.1.length (v4.1.flatMap eU8), .i .i64 b8.2.2.1, .i .i64 b8.2.2.2]], [.box [.fn 30 [] [.lp 1 0, .lp 2 0], .i .i64 b8.1], .box [.i .i64 b8.2.1], .box [.sl v3.2.2.length (v3.2.2.flatMap eU8)], .box [.sl v4.1.length (v4.1.flatMap eU8), .i .i64 b8.2.2.1, .i .i64 b8.2.2.2]], [.box [.fn 30 [] [.lp 1 0, .lp 2 0], .i .i64 b8.1], .box [.i .i64 v11.2], .box [.sl v3.2.2.length (v3.2.2.flatMap eU8)], .box [.sl v4.1.length (v4.1.flatMap eU8), .i .i64 b8.2.2.1, .i .i64 b8.2.2.2]]] (by kernel_rfl) mixed (by kernel_rfl) (by decide) rfl rfl rfl rfl ?_
              refine ev (sees_at 0 rfl rfl) rfl rfl (opv_mv rfl) ?_
              refine ee (x := .s (.one (.i .i64 v9))) 0 rfl rfl rfl rfl rfl (fun ζ => ?_) ?_
              · refine scallB (x' := .s (.one (.i .i64 v9))) (M' := [.box [.fn 30 [] [.lp 1 0, .lp 2 0], .i .i64 b8.1], .box [.i .i64 b8.2.1], .box [.sl v3.2.2.length (v3.2.2.flatMap eU8)], .box [.sl v4.1.length (v4.1.flatMap eU8), .i .i64 b8.2.2.1, .i .i64 b8.2.2.2]]) [0, 1, 2] rfl fn24 (.func _) (opnds_cons rfl opnds_nil) (m24_enc_Reader_Errs_c hv9) rfl rfl (by decide) rfl rfl rfl ?_
                exact eend
              refine emv rfl rfl (fun _ => opv_mv rfl) ?_
              refine ev (sees_all (md := [.box [.fn 30 [] [.lp 1 0, .lp 2 0], .i .i64 b8.1], .dead, .box [.sl v3.2.2.length (v3.2.2.flatMap eU8)], .box [.sl v4.1.length (v4.1.flatMap eU8), .i .i64 b8.2.2.1, .i .i64 b8.2.2.2]]) ⟨⟨rfl, ⟨trivial, ⟨rfl, ⟨rfl, trivial⟩⟩⟩⟩, ⟨⟨rfl, ⟨trivial, ⟨rfl, ⟨rfl, trivial⟩⟩⟩⟩, ⟨⟨rfl, ⟨trivial, ⟨rfl, ⟨rfl, trivial⟩⟩⟩⟩, trivial⟩⟩⟩) rfl rfl (opv_nilCheck rfl rfl (fun _ _ _ h => by cases h)) ?_
              refine ev (sees_all (md := [.box [.fn 30 [] [.lp 1 0, .lp 2 0], .i .i64 b8.1], .dead, .box [.sl v3.2.2.length (v3.2.2.flatMap eU8)], .box [.sl v4.1.length (v4.1.flatMap eU8), .i .i64 b8.2.2.1, .i .i64 b8.2.2.2]]) ⟨⟨rfl, ⟨trivial, ⟨rfl, ⟨rfl, trivial⟩⟩⟩⟩, ⟨⟨rfl, ⟨trivial, ⟨rfl, ⟨rfl, trivial⟩⟩⟩⟩, ⟨⟨rfl, ⟨trivial, ⟨rfl, ⟨rfl, trivial⟩⟩⟩⟩, trivial⟩⟩⟩) rfl rfl (opv_fieldAddr_lp fi41_2 rfl) ?_
              refine ev (sees_all (md := [.box [.fn 30 [] [.lp 1 0, .lp 2 0], .i .i64 b8.1], .dead, .box [.sl v3.2.2.length (v3.2.2.flatMap eU8)], .box [.sl v4.1.length (v4.1.flatMap eU8), .i .i64 b8.2.2.1, .i .i64 b8.2.2.2]]) ⟨⟨rfl, ⟨trivial, ⟨rfl, ⟨rfl, trivial⟩⟩⟩⟩, ⟨⟨rfl, ⟨trivial, ⟨rfl, ⟨rfl, trivial⟩⟩⟩⟩, ⟨⟨rfl, ⟨trivial, ⟨rfl, ⟨rfl, trivial⟩⟩⟩⟩, trivial⟩⟩⟩) rfl rfl (opv_load1 ti38 rfl (.lp _ _ _ rfl) rfl) ?_
              refine ev (sees_at 1 rfl rfl) rfl rfl (opv_ineq rfl rfl) ?_
              refine ev (sees_at 1 rfl rfl) rfl rfl (opv_mv rfl) ?_
              refine esplit 101 rfl (fun hx => Bool.noConfusion (hg10.symm.trans hx)) (fun _ => ?_)
              refine evg (sees_at 1 rfl rfl) rfl rfl rfl rfl (opv_mv rfl) ?_
              refine eeg (x := .s (.one (.i .i64 v11.1))) 1 rfl rfl rfl rfl rfl rfl rfl (fun ζ => ?_) ?_
              · refine scallB (x' := .s (.one (.i .i64 v11.1))) (M' := [.box [.fn 30 [] [.lp 1 0, .lp 2 0], .i .i64 b8.1], .box [.i .i64 v11.2], .box [.sl v3.2.2.length (v3.2.2.flatMap eU8)], .box [.sl v4.1.length (v4.1.flatMap eU8), .i .i64 b8.2.2.1, .i .i64 b8.2.2.2]]) [0, 1, 2] rfl fn25 (.func _) (opnds_cons rfl opnds_nil) (m25_enc_Reader_Ats_c hv11) rfl rfl (by decide) rfl rfl rfl ?_
                exact eend
              refine evg (sees_all (md := [.box [.fn 30 [] [.lp 1 0, .lp 2 0], .i .i64 b8.1], .dead, .box [.sl v3.2.2.length (v3.2.2.flatMap eU8)], .box [.sl v4.1.length (v4.1.flatMap eU8), .i .i64 b8.2.2.1, .i .i64 b8.2.2.2]]) ⟨⟨rfl, ⟨trivial, ⟨rfl, ⟨rfl, trivial⟩⟩⟩⟩, ⟨⟨rfl, ⟨trivial, ⟨rfl, ⟨rfl, trivial⟩⟩⟩⟩, ⟨⟨rfl, ⟨trivial, ⟨rfl, ⟨rfl, trivial⟩⟩⟩⟩, trivial⟩⟩⟩) rfl rfl rfl rfl (opv_mv rfl) ?_
              refine evg (sees_all (md := [.box [.fn 30 [] [.lp 1 0, .lp 2 0], .i .i64 b8.1], .dead, .box [.sl v3.2.2.length (v3.2.2.flatMap eU8)], .box [.sl v4.1.length (v4.1.flatMap eU8), .i .i64 b8.2.2.1, .i .i64 b8.2.2.2]]) ⟨⟨rfl, ⟨trivial, ⟨rfl, ⟨rfl, trivial⟩⟩⟩⟩, ⟨⟨rfl, ⟨trivial, ⟨rfl, ⟨rfl, trivial⟩⟩⟩⟩, ⟨⟨rfl, ⟨trivial, ⟨rfl, ⟨rfl, trivial⟩⟩⟩⟩, trivial⟩⟩⟩) rfl rfl rfl rfl (opv_nilCheck rfl rfl (fun _ _ _ h => by cases h)) ?_
              refine evg (sees_all (md := [.box [.fn 30 [] [.lp 1 0, .lp 2 0], .i .i64 b8.1], .dead, .box [.sl v3.2.2.length (v3.2.2.flatMap eU8)], .box [.sl v4.1.length (v4.1.flatMap eU8), .i .i64 b8.2.2.1, .i .i64 b8.2.2.2]]) ⟨⟨rfl, ⟨trivial, ⟨rfl, ⟨rfl, trivial⟩⟩⟩⟩, ⟨⟨rfl, ⟨trivial, ⟨rfl, ⟨rfl, trivial⟩⟩⟩⟩, ⟨⟨rfl, ⟨trivial, ⟨rfl, ⟨rfl, trivial⟩⟩⟩⟩, trivial⟩⟩⟩) rfl rfl rfl rfl (opv_fieldAddr_lp fi41_1 rfl) ?_
              refine evg (sees_all (md := [.box [.fn 30 [] [.lp 1 0, .lp 2 0], .i .i64 b8.1], .dead, .box [.sl v3.2.2.length (v3.2.2.flatMap eU8)], .box [.sl v4.1.length (v4.1.flatMap eU8), .i .i64 b8.2.2.1, .i .i64 b8.2.2.2]]) ⟨⟨rfl, ⟨trivial, ⟨rfl, ⟨rfl, trivial⟩⟩⟩⟩, ⟨⟨rfl, ⟨trivial, ⟨rfl, ⟨rfl, trivial⟩⟩⟩⟩, ⟨⟨rfl, ⟨trivial, ⟨rfl, ⟨rfl, trivial⟩⟩⟩⟩, trivial⟩⟩⟩) rfl rfl rfl rfl (opv_load1 ti3 rfl (.lp _ _ _ rfl) rfl) ?_
              refine evg (sees_at 2 rfl rfl) rfl rfl rfl rfl (opv_ineq rfl rfl) ?_
              refine ev (sees_at 2 rfl rfl) rfl rfl (opv_pick_f rfl rfl) ?_
              refine ev (sees_at 2 rfl rfl) rfl rfl (opv_mv rfl) ?_
              refine esplit 110 rfl (fun _ => ?_) (fun hx => Bool.noConfusion (hg12.symm.trans hx))
              refine eoffv rfl rfl rfl rfl rfl ?_
              refine eoffv rfl rfl rfl rfl rfl ?_
              refine eoffv rfl rfl rfl rfl rfl ?_
              refine eoffv rfl rfl rfl rfl rfl ?_
              refine eoffv rfl rfl rfl rfl rfl ?_
              refine ev (sees_at 2 rfl rfl) rfl rfl (opv_pick_t rfl rfl) ?_
              refine enil ?_
              refine then_normal ?_
              refine ccond rfl (fun _ => ?_) (fun hx => Bool.noConfusion hx)
              refine cseq ?_
              refine cregion ?_
              refine sv rfl (opv_as rfl) ?_
              refine snil ?_
              refine cret ?_
              refine block_ret ?_
              refine then_ret ?_
              refine then_ret ?_
              refine block_ret ?_
              refine then_ret ?_
              obtain rfl := Option.some.inj h
              obtain rfl : Sum.inl _ = x6 := hk6
              replace ho6 : some _ = some _ := ho6
              obtain rfl := Option.some.inj ho6
              refine ⟨Or.inr rfl, _, _, _, (resVs_cons (ResV.tmp _ _ rfl) resVs_nil), (pubA_id rfl), ?_⟩
              rfl
            · replace h := ite_f hg12 h
              obtain ⟨v13, hv13, h⟩ := bind_eq h
              obtain ⟨v14, hv14, h⟩ := bind_eq h
              refine cdraw_e [1, 9, 18, 20] [0, 1, 0, 4, 12, 28, 63, 127, 255, 511, 255, 1279, 3327, 7423, 16383, 32767, 65535, 131071, 262143, 131071, 1048575, 2097151, 4194303] [[.box [.fn 30 [] [.lp 1 0, .lp 2 0], .i .i64 b8.1], .box [.i .i64 b8.2.1], .box [.sl v3.2.2.length (v3.2.2.flatMap eU8)], .box [.sl v4.1.length (v4.1.flatMap eU8), .i .i64 b8.2.2.1, .i .i64 b8.2.2.2]], [.box [.fn 30 [] [.lp 1 0, .lp 2 0], .i .i64 b8.1], .box [.i .i64 b8.2.1], .box [.sl v3.2.2.length (v3.2.2.flatMap eU8)], .box [.sl v4.1.length (v4.1.flatMap eU8), .i .i64 b8.2.2.1, .i .i64 b8.2.2.2]], [.box [.fn 30 [] [.lp 1 0, .lp 2 0], .i .i64 b8.1], .box [.i .i64 v11.2], .box [.sl v3.2.2.length (v3.2.2.flatMap eU8)], .box [.sl v4.1.length (v4.1.flatMap eU8), .i .i64 b8.2.2.1, .i .i64 b8.2.2.2]], [.box [.fn 30 [] [.lp 1 0, .lp 2 0], .i .i64 b8.1], .box [.i .i64 v13.2], .box [.sl v3.2.2.length (v3.2.2.flatMap eU8)], .box [.sl v4.1.length (v4.1.flatMap eU8), .i .i64 b8.2.2.1, .i .i64 b8.2.2.2]], [.box [.fn 30 [] [.lp 1 0, .lp 2 0], .i .i64 b8.1], .box [.i .i64 v13.2], .box [.sl v3.2.2.length (v3.2.2.flatMap eU8)], .box [.sl v4.1.length (v4.1.flatMap eU8), .i .i64 b8.2.2.1, .i .i64 b8.2.2.2]]] (by kernel_rfl) mixed (by kernel_rfl) (by decide) rfl rfl rfl rfl ?_
              refine ev (sees_at 0 rfl rfl) rfl rfl (opv_mv rfl) ?_
              refine ee (x := .s (.one (.i .i64 v9))) 0 rfl rfl rfl rfl rfl (fun ζ => ?_) ?_
              · refine scallB (x' := .s (.one (.i .i64 v9))) (M' := [.box [.fn 30 [] [.lp 1 0, .lp 2 0], .i .i64 b8.1], .box [.i .i64 b8.2.1], .box [.sl v3.2.2.length (v3.2.2.flatMap eU8)], .box [.sl v4.1.length (v4.1.flatMap eU8), .i .i64 b8.2.2.1, .i .i64 b8.2.2.2]]) [0, 1, 2] rfl fn24 (.func _) (opnds_cons rfl opnds_nil) (m24_enc_Reader_Errs_c hv9) rfl rfl (by decide) rfl rfl rfl ?_
                exact eend
              refine emv rfl rfl (fun _ => opv_mv rfl) ?_
              refine ev (sees_all (md := [.box [.fn 30 [] [.lp 1 0, .lp 2 0], .i .i64 b8.1], .dead, .box [.sl v3.2.2.length (v3.2.2.flatMap eU8)], .box [.sl v4.1.length (v4.1.flatMap eU8), .i .i64 b8.2.2.1, .i .i64 b8.2.2.2]]) ⟨⟨rfl, ⟨trivial, ⟨rfl, ⟨rfl, trivial⟩⟩⟩⟩, ⟨⟨rfl, ⟨trivial, ⟨rfl, ⟨rfl, trivial⟩⟩⟩⟩, ⟨⟨rfl, ⟨trivial, ⟨rfl, ⟨rfl, trivial⟩⟩⟩⟩, ⟨⟨rfl, ⟨trivial, ⟨rfl, ⟨rfl, trivial⟩⟩⟩⟩, ⟨⟨rfl, ⟨trivial, ⟨rfl, ⟨rfl, trivial⟩⟩⟩⟩, trivial⟩⟩⟩⟩⟩) rfl rfl (opv_nilCheck rfl rfl (fun _ _ _ h => by cases h)) ?_
              refine ev (sees_all (md := [.box [.fn 30 [] [.lp 1 0, .lp 2 0], .i .i64 b8.1], .dead, .box [.sl v3.2.2.length (v3.2.2.flatMap eU8)], .box [.sl v4.1.length (v4.1.flatMap eU8), .i .i64 b8.2.2.1, .i .i64 b8.2.2.2]]) ⟨⟨rfl, ⟨trivial, ⟨rfl, ⟨rfl, trivial⟩⟩⟩⟩, ⟨⟨rfl, ⟨trivial, ⟨rfl, ⟨rfl, trivial⟩⟩⟩⟩, ⟨⟨rfl, ⟨trivial, ⟨rfl, ⟨rfl, trivial⟩⟩⟩⟩, ⟨⟨rfl, ⟨trivial, ⟨rfl, ⟨rfl, trivial⟩⟩⟩⟩, ⟨⟨rfl, ⟨trivial, ⟨rfl, ⟨rfl, trivial⟩⟩⟩⟩, trivial⟩⟩⟩⟩⟩) rfl rfl (opv_fieldAddr_lp fi41_2 rfl) ?_
              refine ev (sees_all (md := [.box [.fn 30 [] [.lp 1 0, .lp 2 0], .i .i64 b8.1], .dead, .box [.sl v3.2.2.length (v3.2.2.flatMap eU8)], .box [.sl v4.1.length (v4.1.flatMap eU8), .i .i64 b8.2.2.1, .i .i64 b8.2.2.2]]) ⟨⟨rfl, ⟨trivial, ⟨rfl, ⟨rfl, trivial⟩⟩⟩⟩, ⟨⟨rfl, ⟨trivial, ⟨rfl, ⟨rfl, trivial⟩⟩⟩⟩, ⟨⟨rfl, ⟨trivial, ⟨rfl, ⟨rfl, trivial⟩⟩⟩⟩, ⟨⟨rfl, ⟨trivial, ⟨rfl, ⟨rfl, trivial⟩⟩⟩⟩, ⟨⟨rfl, ⟨trivial, ⟨rfl, ⟨rfl, trivial⟩⟩⟩⟩, trivial⟩⟩⟩⟩⟩) rfl rfl (opv_load1 ti38 rfl (.lp _ _ _ rfl) rfl) ?_
              refine ev (sees_at 1 rfl rfl) rfl rfl (opv_ineq rfl rfl) ?_
              refine ev (sees_at 1 rfl rfl) rfl rfl (opv_mv rfl) ?_
              refine esplit 101 rfl (fun hx => Bool.noConfusion (hg10.symm.trans hx)) (fun _ => ?_)
              refine evg (sees_at 1 rfl rfl) rfl rfl rfl rfl (opv_mv rfl) ?_
              refine eeg (x := .s (.one (.i .i64 v11.1))) 1 rfl rfl rfl rfl rfl rfl rfl (fun ζ => ?_) ?_
              · refine scallB (x' := .s (.one (.i .i64 v11.1))) (M' := [.box [.fn 30 [] [.lp 1 0, .lp 2 0], .i .i64 b8.1], .box [.i .i64 v11.2], .box [.sl v3.2.2.length (v3.2.2.flatMap eU8)], .box [.sl v4.1.length (v4.1.flatMap eU8), .i .i64 b8.2.2.1, .i .i64 b8.2.2.2]]) [0, 1, 2] rfl fn25 (.func _) (opnds_cons rfl opnds_nil) (m25_enc_Reader_Ats_c hv11) rfl rfl (by decide) rfl rfl rfl ?_
                exact eend
              refine evg (sees_all (md := [.box [.fn 30 [] [.lp 1 0, .lp 2 0], .i .i64 b8.1], .dead, .box [.sl v3.2.2.length (v3.2.2.flatMap eU8)], .box [.sl v4.1.length (v4.1.flatMap eU8), .i .i64 b8.2.2.1, .i .i64 b8.2.2.2]]) ⟨⟨rfl, ⟨trivial, ⟨rfl, ⟨rfl, trivial⟩⟩⟩⟩, ⟨⟨rfl, ⟨trivial, ⟨rfl, ⟨rfl, trivial⟩⟩⟩⟩, ⟨⟨rfl, ⟨trivial, ⟨rfl, ⟨rfl, trivial⟩⟩⟩⟩, ⟨⟨rfl, ⟨trivial, ⟨rfl, ⟨rfl, trivial⟩⟩⟩⟩, ⟨⟨rfl, ⟨trivial, ⟨rfl, ⟨rfl, trivial⟩⟩⟩⟩, trivial⟩⟩⟩⟩⟩) rfl rfl rfl rfl (opv_mv rfl) ?_
              refine evg (sees_all (md := [.box [.fn 30 [] [.lp 1 0, .lp 2 0], .i .i64 b8.1], .dead, .box [.sl v3.2.2.length (v3.2.2.flatMap eU8)], .box [.sl v4.1.length (v4.1.flatMap eU8), .i .i64 b8.2.2.1, .i .i64 b8.2.2.2]]) ⟨⟨rfl, ⟨trivial, ⟨rfl, ⟨rfl, trivial⟩⟩⟩⟩, ⟨⟨rfl, ⟨trivial, ⟨rfl, ⟨rfl, trivial⟩⟩⟩⟩, ⟨⟨rfl, ⟨trivial, ⟨rfl, ⟨rfl, trivial⟩⟩⟩⟩, ⟨⟨rfl, ⟨trivial, ⟨rfl, ⟨rfl, trivial⟩⟩⟩⟩, ⟨⟨rfl, ⟨trivial, ⟨rfl, ⟨rfl, trivial⟩⟩⟩⟩, trivial⟩⟩⟩⟩⟩) rfl rfl rfl rfl (opv_nilCheck rfl rfl (fun _ _ _ h => by cases h)) ?_
              refine evg (sees_all (md := [.box [.fn 30 [] [.lp 1 0, .lp 2 0], .i .i64 b8.1], .dead, .box [.sl v3.2.2.length (v3.2.2.flatMap eU8)], .box [.sl v4.1.length (v4.1.flatMap eU8), .i .i64 b8.2.2.1, .i .i64 b8.2.2.2]]) ⟨⟨rfl, ⟨trivial, ⟨rfl, ⟨rfl, trivial⟩⟩⟩⟩, ⟨⟨rfl, ⟨trivial, ⟨rfl, ⟨rfl, trivial⟩⟩⟩⟩, ⟨⟨rfl, ⟨trivial, ⟨rfl, ⟨rfl, trivial⟩⟩⟩⟩, ⟨⟨rfl, ⟨trivial, ⟨rfl, ⟨rfl, trivial⟩⟩⟩⟩, ⟨⟨rfl, ⟨trivial, ⟨rfl, ⟨rfl, trivial⟩⟩⟩⟩, trivial⟩⟩⟩⟩⟩) rfl rfl rfl rfl (opv_fieldAddr_lp fi41_1 rfl) ?_
              refine evg (sees_all (md := [.box [.fn 30 [] [.lp 1 0, .lp 2 0], .i .i64 b8.1], .dead, .box [.sl v3.2.2.length (v3.2.2.flatMap eU8)], .box [.sl v4.1.length (v4.1.flatMap eU8), .i .i64 b8.2.2.1, .i .i64 b8.2.2.2]]) ⟨⟨rfl, ⟨trivial, ⟨rfl, ⟨rfl, trivial⟩⟩⟩⟩, ⟨⟨rfl, ⟨trivial, ⟨rfl, ⟨rfl, trivial⟩⟩⟩⟩, ⟨⟨rfl, ⟨trivial, ⟨rfl, ⟨rfl, trivial⟩⟩⟩⟩, ⟨⟨rfl, ⟨trivial, ⟨rfl, ⟨rfl, trivial⟩⟩⟩⟩, ⟨⟨rfl, ⟨trivial, ⟨rfl, ⟨rfl, trivial⟩⟩⟩⟩, trivial⟩⟩⟩⟩⟩) rfl rfl rfl rfl (opv_load1 ti3 rfl (.lp _ _ _ rfl) rfl) ?_
              refine evg (sees_at 2 rfl rfl) rfl rfl rfl rfl (opv_ineq rfl rfl) ?_
              refine ev (sees_at 2 rfl rfl) rfl rfl (opv_pick_f rfl rfl) ?_
              refine ev (sees_at 2 rfl rfl) rfl rfl (opv_mv rfl) ?_
              refine esplit 110 rfl (fun hx => Bool.noConfusion (hg12.symm.trans hx)) (fun _ => ?_)
              refine evg (sees_at 2 rfl rfl) rfl rfl rfl rfl (opv_mv rfl) ?_
              refine eeg (x := .s (.one (.i .i64 v13.1))) 2 rfl rfl rfl rfl rfl rfl rfl (fun ζ => ?_) ?_
              · refine scallB (x' := .s (.one (.i .i64 v13.1))) (M' := [.box [.fn 30 [] [.lp 1 0, .lp 2 0], .i .i64 b8.1], .box [.i .i64 v13.2], .box [.sl v3.2.2.length (v3.2.2.flatMap eU8)], .box [.sl v4.1.length (v4.1.flatMap eU8), .i .i64 b8.2.2.1, .i .i64 b8.2.2.2]]) [0, 1, 2] rfl fn26 (.func _) (opnds_cons rfl opnds_nil) (m26_enc_Reader_Ends_c hv13) rfl rfl (by decide) rfl rfl rfl ?_
                exact eend
              refine evg (sees_all (md := [.box [.fn 30 [] [.lp 1 0, .lp 2 0], .i .i64 b8.1], .dead, .box [.sl v3.2.2.length (v3.2.2.flatMap eU8)], .box [.sl v4.1.length (v4.1.flatMap eU8), .i .i64 b8.2.2.1, .i .i64 b8.2.2.2]]) ⟨⟨rfl, ⟨trivial, ⟨rfl, ⟨rfl, trivial⟩⟩⟩⟩, ⟨⟨rfl, ⟨trivial, ⟨rfl, ⟨rfl, trivial⟩⟩⟩⟩, ⟨⟨rfl, ⟨trivial, ⟨rfl, ⟨rfl, trivial⟩⟩⟩⟩, ⟨⟨rfl, ⟨trivial, ⟨rfl, ⟨rfl, trivial⟩⟩⟩⟩, ⟨⟨rfl, ⟨trivial, ⟨rfl, ⟨rfl, trivial⟩⟩⟩⟩, trivial⟩⟩⟩⟩⟩) rfl rfl rfl rfl (opv_mv rfl) ?_
              refine eeg (x := .s (.one (.i .i64 v14))) 3 rfl rfl rfl rfl rfl rfl rfl (fun ζ => ?_) ?_
              · refine scallB (x' := .s (.one (.i .i64 v14))) (M' := [.box [.fn 30 [] [.lp 1 0, .lp 2 0], .i .i64 b8.1], .box [.i .i64 v13.2], .box [.sl v3.2.2.length (v3.2.2.flatMap eU8)], .box [.sl v4.1.length (v4.1.flatMap eU8), .i .i64 b8.2.2.1, .i .i64 b8.2.2.2]]) [3] rfl fn27 (.func _) (opnds_cons rfl opnds_nil) (m27_r01_Reader_Ends_c hv14) rfl rfl (by decide) rfl rfl rfl ?_
                exact eend
              refine evg (sees_at 4 rfl rfl) rfl rfl rfl rfl (opv_ineq rfl rfl) ?_
              refine ev (sees_at 4 rfl rfl) rfl rfl (opv_pick_f rfl rfl) ?_
              refine enil ?_
              refine then_normal ?_
              refine ccond rfl (fun hc => ?_) (fun hc => ?_)
              · replace h := ite_t hc h
                clear hc
                refine cseq ?_
                refine cregion ?_
                refine sv rfl (opv_as rfl) ?_
                refine snil ?_
                refine cret ?_
                refine block_ret ?_
                refine then_ret ?_
                refine then_ret ?_
                refine block_ret ?_
                refine then_ret ?_
                obtain rfl := Option.some.inj h
                obtain rfl : Sum.inl _ = x6 := hk6
                replace ho6 : some _ = some _ := ho6
                obtain rfl := Option.some.inj ho6
                refine ⟨Or.inr rfl, _, _, _, (resVs_cons (ResV.tmp _ _ rfl) resVs_nil), (pubA_id rfl), ?_⟩
                rfl
              · replace h := ite_f hc h
                clear hc
                refine cskip ?_
                refine block_normal ?_
                refine then_normal ?_
                refine cregion ?_
                refine sv rfl (opv_mv rfl) ?_
                refine sv rfl (opv_add rfl rfl) ?_
                refine sv rfl (opv_as rfl) ?_
                refine snil ?_
                obtain rfl := Option.some.inj h
                exact ⟨(n6, ((wI (s6.1 + 1)), b8.1, v13.2, b8.2.2.1, b8.2.2.2)), _, hk6, ⟨rfl, rfl, rfl, rfl, rfl, trivial⟩, rfl, Nat.lt_succ_self _⟩
        · skip
          refine cblock ?_
          refine cseq ?_
          refine cseq ?_
          refine cregion ?_
          refine sv rfl (opv_ieql rfl rfl) ?_
          refine sv rfl (opv_as rfl) ?_
          refine snil ?_
          refine cjoin (Bool) (fun b15 => [(1, .s (.one (.sl a1.length (a1.flatMap eGL01Step)))), (5, .s (.one (.b v1))), (6, .s (.one (.lp 0 0))), (7, .s (.one (.lp 3 0))), (8, .s (.one (.i .i64 s6.1))), (33, .s (.one (.i .i64 u7.What))), (34, .s (.one (.b b15)))]) (fun b15 => [.box [.fn 30 [] [.lp 1 0, .lp 2 0], .i .i64 s6.2.1], .box [.i .i64 s6.2.2.1], .box [.sl v3.2.2.length (v3.2.2.flatMap eU8)], .box [.sl v4.1.length (v4.1.flatMap eU8), .i .i64 s6.2.2.2.1, .i .i64 s6.2.2.2.2]]) (fun b15 => m4_l01_EncReads_k15 a1 v3 v4 s6 u7 b15 = some y6) (fun _ _ => inbL_of rfl) (fun _ _ => blkinb_of rfl) (fun _ _ => Nat.le_of_ble_eq_true rfl) (fun b15 h => ?_) ?_
          · unfold m4_l01_EncReads_k15 at h
            refine ccond rfl (fun hc => ?_) (fun hc => ?_)
            · replace h := ite_t hc h
              clear hc
              refine cseq ?_
              obtain ⟨u16, hu16, h⟩ := bind_eq h
              obtain ⟨v17, hv17, h⟩ := bind_eq h
              obtain ⟨u18, hu18, h⟩ := bind_eq h
              obtain ⟨v19, hv19, h⟩ := bind_eq h
              refine cdraw_e [6, 13] [0, 0, 0, 6, 14, 30, 63, 0, 0, 0, 768, 1792, 3840, 8191, 16383] [[.box [.fn 30 [] [.lp 1 0, .lp 2 0], .i .i64 s6.2.1], .box [.i .i64 s6.2.2.1], .box [.sl v3.2.2.length (v3.2.2.flatMap eU8)], .box [.sl v4.1.length (v4.1.flatMap eU8), .i .i64 s6.2.2.2.1, .i .i64 s6.2.2.2.2]], [.box [.fn 30 [] [.lp 1 0, .lp 2 0], .i .i64 v17.2.1], .box [.i .i64 v17.2.2], .box [.sl v3.2.2.length (v3.2.2.flatMap eU8)], .box [.sl v4.1.length (v4.1.flatMap eU8), .i .i64 s6.2.2.2.1, .i .i64 s6.2.2.2.2]], [.box [.fn 30 [] [.lp 1 0, .lp 2 0], .i .i64 v17.2.1], .box [.i .i64 v17.2.2], .box [.sl v3.2.2.length (v3.2.2.flatMap eU8)], .box [.sl v4.1.length (v4.1.flatMap eU8), .i .i64 v19.2.1, .i .i64 v19.2.2]]] (by kernel_rfl) mixed (by kernel_rfl) (by decide) rfl rfl rfl rfl ?_
              refine ev (sees_at 0 rfl rfl) rfl rfl (opv_mv rfl) ?_
              refine ev (sees_at 0 rfl rfl) rfl rfl (opv_mv rfl) ?_
              refine ev (sees_at 0 rfl rfl) rfl rfl (opv_mv rfl) ?_
              refine ev (sees_at 0 rfl rfl) rfl rfl (opv_ix (f := eGL01Step) si28 (fun _ => rfl) rfl rfl rfl rfl hu16) ?_
              refine ev (sees_at 0 rfl rfl) rfl rfl (opv_fieldAddr_cp fi34_1 rfl) ?_
              refine ev (sees_at 0 rfl rfl) rfl rfl (opv_load1 ti3 rfl (.cp _) rfl) ?_
              refine ee (x := .s (.one (.i .u64 (v17.1.toNat : Int)))) 0 rfl rfl rfl rfl rfl (fun ζ => ?_) ?_
              · refine scallB (x' := .s (.one (.i .u64 (v17.1.toNat : Int)))) (M' := [.box [.fn 30 [] [.lp 1 0, .lp 2 0], .i .i64 v17.2.1], .box [.i .i64 v17.2.2], .box [.sl v3.2.2.length (v3.2.2.flatMap eU8)], .box [.sl v4.1.length (v4.1.flatMap eU8), .i .i64 s6.2.2.2.1, .i .i64 s6.2.2.2.2]]) [0, 1, 2] rfl fn16 (.func _) (opnds_cons rfl (opnds_cons rfl opnds_nil)) (m16_enc_Reader_Us_c hv17) rfl rfl (by decide) rfl rfl rfl ?_
                exact eend
              refine emv rfl rfl (fun _ => opv_mv rfl) ?_
              refine emv rfl rfl (fun _ => opv_mv rfl) ?_
              refine emv rfl rfl (fun _ => opv_mv rfl) ?_
              refine ev (sees_all (md := [.dead, .dead, .box [.sl v3.2.2.length (v3.2.2.flatMap eU8)], .dead]) ⟨⟨trivial, ⟨trivial, ⟨rfl, ⟨trivial, trivial⟩⟩⟩⟩, ⟨⟨trivial, ⟨trivial, ⟨rfl, ⟨trivial, trivial⟩⟩⟩⟩, ⟨⟨trivial, ⟨trivial, ⟨rfl, ⟨trivial, trivial⟩⟩⟩⟩, trivial⟩⟩⟩) rfl rfl (opv_ix (f := eGL01Step) si28 (fun _ => rfl) rfl rfl rfl rfl hu18) ?_
              refine ev (sees_all (md := [.dead, .dead, .box [.sl v3.2.2.length (v3.2.2.flatMap eU8)], .dead]) ⟨⟨trivial, ⟨trivial, ⟨rfl, ⟨trivial, trivial⟩⟩⟩⟩, ⟨⟨trivial, ⟨trivial, ⟨rfl, ⟨trivial, trivial⟩⟩⟩⟩, ⟨⟨trivial, ⟨trivial, ⟨rfl, ⟨trivial, trivial⟩⟩⟩⟩, trivial⟩⟩⟩) rfl rfl (opv_fieldAddr_cp fi34_1 rfl) ?_
              refine ev (sees_all (md := [.dead, .dead, .box [.sl v3.2.2.length (v3.2.2.flatMap eU8)], .dead]) ⟨⟨trivial, ⟨trivial, ⟨rfl, ⟨trivial, trivial⟩⟩⟩⟩, ⟨⟨trivial, ⟨trivial, ⟨rfl, ⟨trivial, trivial⟩⟩⟩⟩, ⟨⟨trivial, ⟨trivial, ⟨rfl, ⟨trivial, trivial⟩⟩⟩⟩, trivial⟩⟩⟩) rfl rfl (opv_load1 ti3 rfl (.cp _) rfl) ?_
              refine ee (x := .s (.one (.i .u64 (v19.1.toNat : Int)))) 1 rfl rfl rfl rfl rfl (fun ζ => ?_) ?_
              · refine scallB (x' := .s (.one (.i .u64 (v19.1.toNat : Int)))) (M' := [.box [.fn 30 [] [.lp 1 0, .lp 2 0], .i .i64 v17.2.1], .box [.i .i64 v17.2.2], .box [.sl v3.2.2.length (v3.2.2.flatMap eU8)], .box [.sl v4.1.length (v4.1.flatMap eU8), .i .i64 v19.2.1, .i .i64 v19.2.2]]) [3] rfl fn17 (.func _) (opnds_cons rfl (opnds_cons rfl opnds_nil)) (m17_r01_Reader_Us_c hv19) rfl rfl (by decide) rfl rfl rfl ?_
                exact eend
              refine ev (sees_at 2 rfl rfl) rfl rfl (opv_ineq rfl rfl) ?_
              refine enil ?_
              refine then_normal ?_
              refine ccond rfl (fun hc => ?_) (fun hc => ?_)
              · replace h := ite_t hc h
                clear hc
                refine cseq ?_
                refine cregion ?_
                refine sv rfl (opv_as rfl) ?_
                refine snil ?_
                refine cret ?_
                refine block_ret ?_
                refine then_ret ?_
                refine block_ret ?_
                refine then_ret ?_
                refine then_ret ?_
                refine block_ret ?_
                refine then_ret ?_
                obtain rfl := Option.some.inj h
                obtain rfl : Sum.inl _ = x6 := hk6
                replace ho6 : some _ = some _ := ho6
                obtain rfl := Option.some.inj ho6
                refine ⟨Or.inr rfl, _, _, _, (resVs_cons (ResV.tmp _ _ rfl) resVs_nil), (pubA_id rfl), ?_⟩
                rfl
              · replace h := ite_f hc h
                clear hc
                refine cskip ?_
                refine block_normal ?_
                refine then_normal ?_
                exact ⟨(v17.2.1, v17.2.2, v19.2.1, v19.2.2), _, h, ⟨rfl, rfl, rfl, rfl, rfl, trivial⟩, rfl⟩
            · replace h := ite_f hc h
              clear hc
              refine cseq ?_
              refine cregion ?_
              refine sv rfl (opv_ieql rfl rfl) ?_
              refine sv rfl (opv_as rfl) ?_
              refine snil ?_
              refine ccond rfl (fun hc => ?_) (fun hc => ?_)
              · replace h := ite_t hc h
                clear hc
                refine cseq ?_
                obtain ⟨u20, hu20, h⟩ := bind_eq h
                obtain ⟨v21, hv21, h⟩ := bind_eq h
                obtain ⟨u22, hu22, h⟩ := bind_eq h
                obtain ⟨v23, hv23, h⟩ := bind_eq h
                refine cdraw_e [6, 14] [0, 0, 0, 6, 14, 30, 63, 127, 0, 0, 0, 1536, 3584, 7680, 16255, 32639, 65535] [[.box [.fn 30 [] [.lp 1 0, .lp 2 0], .i .i64 s6.2.1], .box [.i .i64 s6.2.2.1], .box [.sl v3.2.2.length (v3.2.2.flatMap eU8)], .box [.sl v4.1.length (v4.1.flatMap eU8), .i .i64 s6.2.2.2.1, .i .i64 s6.2.2.2.2]], [.box [.fn 30 [] [.lp 1 0, .lp 2 0], .i .i64 v21.2.1], .box [.i .i64 v21.2.2], .box [.sl v3.2.2.length (v3.2.2.flatMap eU8)], .box [.sl v4.1.length (v4.1.flatMap eU8), .i .i64 s6.2.2.2.1, .i .i64 s6.2.2.2.2]], [.box [.fn 30 [] [.lp 1 0, .lp 2 0], .i .i64 v21.2.1], .box [.i .i64 v21.2.2], .box [.sl v3.2.2.length (v3.2.2.flatMap eU8)], .box [.sl v4.1.length (v4.1.flatMap eU8), .i .i64 v23.2.1, .i .i64 v23.2.2]]] (by kernel_rfl) mixed (by kernel_rfl) (by decide) rfl rfl rfl rfl ?_
                refine ev (sees_at 0 rfl rfl) rfl rfl (opv_mv rfl) ?_
                refine ev (sees_at 0 rfl rfl) rfl rfl (opv_mv rfl) ?_
                refine ev (sees_at 0 rfl rfl) rfl rfl (opv_mv rfl) ?_
                refine ev (sees_at 0 rfl rfl) rfl rfl (opv_ix (f := eGL01Step) si28 (fun _ => rfl) rfl rfl rfl rfl hu20) ?_
                refine ev (sees_at 0 rfl rfl) rfl rfl (opv_fieldAddr_cp fi34_1 rfl) ?_
                refine ev (sees_at 0 rfl rfl) rfl rfl (opv_load1 ti3 rfl (.cp _) rfl) ?_
                refine ee (x := .s (.one (.sl v21.1.length (v21.1.flatMap eU8)))) 0 rfl rfl rfl rfl rfl (fun ζ => ?_) ?_
                · refine scallB (x' := .s (.one (.sl v21.1.length (v21.1.flatMap eU8)))) (M' := [.box [.fn 30 [] [.lp 1 0, .lp 2 0], .i .i64 v21.2.1], .box [.i .i64 v21.2.2], .box [.sl v3.2.2.length (v3.2.2.flatMap eU8)], .box [.sl v4.1.length (v4.1.flatMap eU8), .i .i64 s6.2.2.2.1, .i .i64 s6.2.2.2.2]]) [0, 1, 2] rfl fn18 (.func _) (opnds_cons rfl (opnds_cons rfl opnds_nil)) (m18_enc_Reader_Lists_c hv21) rfl rfl (by decide) rfl rfl rfl ?_
                  exact eend
                refine ev (sees_all (md := [.dead, .dead, .box [.sl v3.2.2.length (v3.2.2.flatMap eU8)], .dead]) ⟨⟨trivial, ⟨trivial, ⟨rfl, ⟨trivial, trivial⟩⟩⟩⟩, ⟨⟨trivial, ⟨trivial, ⟨rfl, ⟨trivial, trivial⟩⟩⟩⟩, ⟨⟨trivial, ⟨trivial, ⟨rfl, ⟨trivial, trivial⟩⟩⟩⟩, trivial⟩⟩⟩) rfl rfl (opv_bs (l := v21.1) Try.underlying22 Try.underlying5 Try.underlying9 rfl rfl rfl) ?_
                refine emv rfl rfl (fun _ => opv_mv rfl) ?_
                refine emv rfl rfl (fun _ => opv_mv rfl) ?_
                refine emv rfl rfl (fun _ => opv_mv rfl) ?_
                refine ev (sees_all (md := [.dead, .dead, .box [.sl v3.2.2.length (v3.2.2.flatMap eU8)], .dead]) ⟨⟨trivial, ⟨trivial, ⟨rfl, ⟨trivial, trivial⟩⟩⟩⟩, ⟨⟨trivial, ⟨trivial, ⟨rfl, ⟨trivial, trivial⟩⟩⟩⟩, ⟨⟨trivial, ⟨trivial, ⟨rfl, ⟨trivial, trivial⟩⟩⟩⟩, trivial⟩⟩⟩) rfl rfl (opv_ix (f := eGL01Step) si28 (fun _ => rfl) rfl rfl rfl rfl hu22) ?_
                refine ev (sees_all (md := [.dead, .dead, .box [.sl v3.2.2.length (v3.2.2.flatMap eU8)], .dead]) ⟨⟨trivial, ⟨trivial, ⟨rfl, ⟨trivial, trivial⟩⟩⟩⟩, ⟨⟨trivial, ⟨trivial, ⟨rfl, ⟨trivial, trivial⟩⟩⟩⟩, ⟨⟨trivial, ⟨trivial, ⟨rfl, ⟨trivial, trivial⟩⟩⟩⟩, trivial⟩⟩⟩) rfl rfl (opv_fieldAddr_cp fi34_1 rfl) ?_
                refine ev (sees_all (md := [.dead, .dead, .box [.sl v3.2.2.length (v3.2.2.flatMap eU8)], .dead]) ⟨⟨trivial, ⟨trivial, ⟨rfl, ⟨trivial, trivial⟩⟩⟩⟩, ⟨⟨trivial, ⟨trivial, ⟨rfl, ⟨trivial, trivial⟩⟩⟩⟩, ⟨⟨trivial, ⟨trivial, ⟨rfl, ⟨trivial, trivial⟩⟩⟩⟩, trivial⟩⟩⟩) rfl rfl (opv_load1 ti3 rfl (.cp _) rfl) ?_
                refine ee (x := .s (.one (.sl v23.1.length (v23.1.flatMap eU8)))) 1 rfl rfl rfl rfl rfl (fun ζ => ?_) ?_
                · refine scallB (x' := .s (.one (.sl v23.1.length (v23.1.flatMap eU8)))) (M' := [.box [.fn 30 [] [.lp 1 0, .lp 2 0], .i .i64 v21.2.1], .box [.i .i64 v21.2.2], .box [.sl v3.2.2.length (v3.2.2.flatMap eU8)], .box [.sl v4.1.length (v4.1.flatMap eU8), .i .i64 v23.2.1, .i .i64 v23.2.2]]) [3] rfl fn19 (.func _) (opnds_cons rfl (opnds_cons rfl opnds_nil)) (m19_r01_Reader_Lists_c hv23) rfl rfl (by decide) rfl rfl rfl ?_
                  exact eend
                refine ev (sees_at 2 rfl rfl) rfl rfl (opv_bs (l := v23.1) Try.underlying22 Try.underlying5 Try.underlying9 rfl rfl rfl) ?_
                refine ev (sees_at 2 rfl rfl) rfl rfl (opv_sneq' rfl rfl) ?_
                refine enil ?_
                refine then_normal ?_
                refine ccond rfl (fun hc => ?_) (fun hc => ?_)
                · replace h := ite_t hc h
                  clear hc
                  refine cseq ?_
                  refine cregion ?_
                  refine sv rfl (opv_as rfl) ?_
                  refine snil ?_
                  refine cret ?_
                  refine block_ret ?_
                  refine then_ret ?_
                  refine block_ret ?_
                  refine then_ret ?_
                  refine then_ret ?_
                  refine block_ret ?_
                  refine then_ret ?_
                  obtain rfl := Option.some.inj h
                  obtain rfl : Sum.inl _ = x6 := hk6
                  replace ho6 : some _ = some _ := ho6
                  obtain rfl := Option.some.inj ho6
                  refine ⟨Or.inr rfl, _, _, _, (resVs_cons (ResV.tmp _ _ rfl) resVs_nil), (pubA_id rfl), ?_⟩
                  rfl
                · replace h := ite_f hc h
                  clear hc
                  refine cskip ?_
                  refine block_normal ?_
                  refine then_normal ?_
                  exact ⟨(v21.2.1, v21.2.2, v23.2.1, v23.2.2), _, h, ⟨rfl, rfl, rfl, rfl, rfl, trivial⟩, rfl⟩
              · replace h := ite_f hc h
                clear hc
                refine cseq ?_
                refine cregion ?_
                refine sv rfl (opv_ieql rfl rfl) ?_
                refine sv rfl (opv_as rfl) ?_
                refine snil ?_
                refine ccond rfl (fun hc => ?_) (fun hc => ?_)
                · replace h := ite_t hc h
                  clear hc
                  refine cseq ?_
                  refine cregion ?_
                  refine sv rfl (opv_mv rfl) ?_
                  obtain ⟨v24, hv24, h⟩ := bind_eq h
                  refine scallB (x' := .s (.one (.b v24.1))) (M' := [.box [.fn 30 [] [.lp 1 0, .lp 2 0], .i .i64 v24.2.1], .box [.i .i64 v24.2.2], .box [.sl v3.2.2.length (v3.2.2.flatMap eU8)], .box [.sl v4.1.length (v4.1.flatMap eU8), .i .i64 s6.2.2.2.1, .i .i64 s6.2.2.2.2]]) [0, 1, 2] rfl fn20 (.func _) (opnds_cons rfl opnds_nil) (m20_enc_Reader_Flags_c hv24) rfl rfl (by decide) rfl rfl rfl ?_
                  refine sv rfl (opv_mv rfl) ?_
                  obtain ⟨v25, hv25, h⟩ := bind_eq h
                  refine scallB (x' := .s (.one (.b v25.1))) (M' := [.box [.fn 30 [] [.lp 1 0, .lp 2 0], .i .i64 v24.2.1], .box [.i .i64 v24.2.2], .box [.sl v3.2.2.length (v3.2.2.flatMap eU8)], .box [.sl v4.1.length (v4.1.flatMap eU8), .i .i64 v25.2.1, .i .i64 v25.2.2]]) [3] rfl fn21 (.func _) (opnds_cons rfl opnds_nil) (m21_r01_Reader_Flags_c hv25) rfl rfl (by decide) rfl rfl rfl ?_
                  refine sv rfl (opv_bneq Try.underlying4 rfl rfl) ?_
                  refine snil ?_
                  refine ccond rfl (fun hc => ?_) (fun hc => ?_)
                  · replace h := ite_t hc h
                    clear hc
                    refine cseq ?_
                    refine cregion ?_
                    refine sv rfl (opv_as rfl) ?_
                    refine snil ?_
                    refine cret ?_
                    refine block_ret ?_
                    refine then_ret ?_
                    refine block_ret ?_
                    refine then_ret ?_
                    refine then_ret ?_
                    refine block_ret ?_
                    refine then_ret ?_
                    obtain rfl := Option.some.inj h
                    obtain rfl : Sum.inl _ = x6 := hk6
                    replace ho6 : some _ = some _ := ho6
                    obtain rfl := Option.some.inj ho6
                    refine ⟨Or.inr rfl, _, _, _, (resVs_cons (ResV.tmp _ _ rfl) resVs_nil), (pubA_id rfl), ?_⟩
                    rfl
                  · replace h := ite_f hc h
                    clear hc
                    refine cskip ?_
                    refine block_normal ?_
                    refine then_normal ?_
                    exact ⟨(v24.2.1, v24.2.2, v25.2.1, v25.2.2), _, h, ⟨rfl, rfl, rfl, rfl, rfl, trivial⟩, rfl⟩
                · replace h := ite_f hc h
                  clear hc
                  refine cseq ?_
                  refine cregion ?_
                  refine sv rfl (opv_ieql rfl rfl) ?_
                  refine sv rfl (opv_as rfl) ?_
                  refine snil ?_
                  refine ccond rfl (fun hc => ?_) (fun hc => ?_)
                  · replace h := ite_t hc h
                    clear hc
                    refine cseq ?_
                    refine cregion ?_
                    refine sv rfl (opv_mv rfl) ?_
                    refine sv rfl (opv_mv rfl) ?_
                    refine sv rfl (opv_mv rfl) ?_
                    obtain ⟨u26, hu26, h⟩ := bind_eq h
                    refine sv rfl (opv_ix (f := eGL01Step) si28 (fun _ => rfl) rfl rfl rfl rfl hu26) ?_
                    refine sv rfl (opv_fieldAddr_cp fi34_1 rfl) ?_
                    refine sv rfl (opv_load1 ti3 rfl (.cp _) rfl) ?_
                    obtain ⟨v27, hv27, h⟩ := bind_eq h
                    refine scallB (x' := .tup []) (M' := [.box [.fn 30 [] [.lp 1 0, .lp 2 0], .i .i64 v27], .box [.i .i64 s6.2.2.1], .box [.sl v3.2.2.length (v3.2.2.flatMap eU8)], .box [.sl v4.1.length (v4.1.flatMap eU8), .i .i64 s6.2.2.2.1, .i .i64 s6.2.2.2.2]]) [0, 1, 2] rfl fn22 (.func _) (opnds_cons rfl (opnds_cons rfl opnds_nil)) (m22_enc_Reader_Fails_c hv27) rfl rfl (by decide) rfl rfl rfl ?_
                    refine snil ?_
                    refine cregion ?_
                    refine sv rfl (opv_mv rfl) ?_
                    refine sv rfl (opv_mv rfl) ?_
                    refine sv rfl (opv_mv rfl) ?_
                    obtain ⟨u28, hu28, h⟩ := bind_eq h
                    refine sv rfl (opv_ix (f := eGL01Step) si28 (fun _ => rfl) rfl rfl rfl rfl hu28) ?_
                    refine sv rfl (opv_fieldAddr_cp fi34_1 rfl) ?_
                    refine sv rfl (opv_load1 ti3 rfl (.cp _) rfl) ?_
                    obtain ⟨v29, hv29, h⟩ := bind_eq h
                    refine scallB (x' := .tup []) (M' := [.box [.fn 30 [] [.lp 1 0, .lp 2 0], .i .i64 v27], .box [.i .i64 s6.2.2.1], .box [.sl v3.2.2.length (v3.2.2.flatMap eU8)], .box [.sl v4.1.length (v4.1.flatMap eU8), .i .i64 s6.2.2.2.1, .i .i64 v29]]) [3] rfl fn23 (.func _) (opnds_cons rfl (opnds_cons rfl opnds_nil)) (m23_r01_Reader_Fails_c hv29) rfl rfl (by decide) rfl rfl rfl ?_
                    refine snil0 ?_
                    refine block_normal ?_
                    refine then_normal ?_
                    exact ⟨(v27, s6.2.2.1, s6.2.2.2.1, v29), _, h, ⟨rfl, rfl, rfl, rfl, rfl, trivial⟩, rfl⟩
                  · replace h := ite_f hc h
                    clear hc
                    refine cskip ?_
                    refine block_normal ?_
                    refine then_normal ?_
                    exact ⟨(s6.2.1, s6.2.2.1, s6.2.2.2.1, s6.2.2.2.2), _, h, ⟨rfl, rfl, rfl, rfl, rfl, trivial⟩, rfl⟩
          · skip
            refine ccond rfl (fun hc => ?_) (fun hc => ?_)
            · replace h := ite_t hc h
              clear hc
              refine cskip ?_
              refine then_normal ?_
              exact ⟨(decide (u7.What = 0)), _, h, ⟨rfl, rfl, rfl, rfl, rfl, rfl, rfl, trivial⟩, rfl⟩
            · replace h := ite_f hc h
              clear hc
              refine cregion ?_
              refine sv rfl (opv_ieql rfl rfl) ?_
              refine sv rfl (opv_as rfl) ?_
              refine snil ?_
              exact ⟨(decide (u7.What = 1)), _, h, ⟨rfl, rfl, rfl, rfl, rfl, rfl, rfl, trivial⟩, rfl⟩
      · replace h := ite_f hc h
        clear hc
        refine cexit ?_
        refine then_exit ?_
        refine then_exit ?_
        refine block_hit ?_
        refine then_normal ?_
        obtain rfl := Option.some.inj h
        obtain rfl : _ = x6 := hk6
        exact ⟨(s6.2.1, s6.2.2.1, s6.2.2.2.1, s6.2.2.2.2), _, ho6, ⟨rfl, trivial⟩, rfl⟩
  · skip
    refine cregion ?_
    refine sv rfl (opv_mv rfl) ?_
    refine sv rfl (opv_len_sl si22 rfl) ?_
    refine sv rfl (opv_gtr rfl rfl) ?_
    refine sv rfl (opv_mv rfl) ?_
    refine ssplit 13 rfl (fun hc => ?_) (fun hc => ?_)
    · replace h := ite_t hc h
      clear hc
      refine soff rfl rfl rfl rfl ?_
      refine soff rfl rfl rfl rfl ?_
      refine soff rfl rfl rfl rfl ?_
      refine sv rfl (opv_pick_t rfl rfl) ?_
      refine snil ?_
      refine ccond rfl (fun _ => ?_) (fun hx => Bool.noConfusion hx)
      refine cseq ?_
      refine cregion ?_
      refine sv rfl (opv_mv rfl) ?_
      refine sv rfl (opv_as rfl) ?_
      refine snil ?_
      refine cret ?_
      refine then_ret ?_
      obtain rfl := Option.some.inj h
      refine ⟨Or.inr rfl, _, _, _, (resVs_cons (ResV.tmp _ _ rfl) resVs_nil), (pubA_id rfl), ?_⟩
      rfl
    · replace h := ite_f hc h
      clear hc
      refine son rfl rfl rfl ?_
      refine sv rfl (opv_mv rfl) ?_
      refine son rfl rfl rfl ?_
      refine sv rfl (opv_len_sl si28 rfl) ?_
      refine son rfl rfl rfl ?_
      refine sv rfl (opv_gtr rfl rfl) ?_
      refine sv rfl (opv_pick_f rfl rfl) ?_
      refine snil ?_
      refine ccond rfl (fun hc => ?_) (fun hc => ?_)
      · replace h := ite_t hc h
        clear hc
        refine cseq ?_
        refine cregion ?_
        refine sv rfl (opv_mv rfl) ?_
        refine sv rfl (opv_as rfl) ?_
        refine snil ?_
        refine cret ?_
        refine then_ret ?_
        obtain rfl := Option.some.inj h
        refine ⟨Or.inr rfl, _, _, _, (resVs_cons (ResV.tmp _ _ rfl) resVs_nil), (pubA_id rfl), ?_⟩
        rfl
      · replace h := ite_f hc h
        clear hc
        refine cskip ?_
        refine then_normal ?_
        exact ⟨(), _, h, ⟨rfl, rfl, rfl, trivial⟩, rfl⟩

def m5_l01_EncBack_k11 (v1 : Bool) (b4 : (List UInt8)) (v5 : Int × Int × (List UInt8)) (b7 : Int × Int) (v9 : Int × Int × (List UInt8)) (b11 : Int × Int) : Option Bool :=
  if v1 then ((m26_enc_Reader_Ends b7.1 b7.2 v5.2.2).bind fun v12 => if (decide (v12.1 = 0)) then ((m25_enc_Reader_Ats b7.1 v12.2 v5.2.2).bind fun v13 => if (decide (v13.1 = (b4.length : Int))) then (if (decide ((b4.length : Int) = 0)) then (some true) else ((m24_enc_Reader_Errs b11.1 b11.2 v9.2.2).bind fun v14 => some (decide (v14 = 2)))) else (some false)) else (some false)) else (some false)

def m5_l01_EncBack_s15 (a2 : List (List UInt8)) (v9 : Int × Int × (List UInt8)) (s15 : Int × Int × Int) : Option (LB (Int × Int × Int) (Int × Int)) :=
  if (decide (s15.1 < (a2.length : Int))) then ((m18_enc_Reader_Lists 300 s15.2.1 s15.2.2 v9.2.2).bind fun v16 => some (.cont ((wI (s15.1 + 1)), v16.2.1, v16.2.2))) else (some (.brk (s15.2.1, s15.2.2)))

def m5_l01_EncBack_k10 (a2 : List (List UInt8)) (v1 : Bool) (b4 : (List UInt8)) (v5 : Int × Int × (List UInt8)) (b7 : Int × Int) (v9 : Int × Int × (List UInt8)) (b10 : Int × Int) : Option Bool :=
  (iterB (m5_l01_EncBack_s15 a2 v9) fuel (0, b10.1, b10.2)).bind fun e17 => m5_l01_EncBack_k11 v1 b4 v5 b7 v9 e17

def m5_l01_EncBack_s18 (a0 : List (BitVec 64)) (a1 : Int) (v9 : Int × Int × (List UInt8)) (s18 : Int × Int × Int) : Option (LB (Int × Int × Int) (Int × Int)) :=
  if (decide (s18.1 < (a0.length : Int))) then ((m16_enc_Reader_Us (wI (1 + (wI ((BitVec.ofInt 64 a1 &&& BitVec.ofInt 64 7).toNat : Int)))) s18.2.1 s18.2.2 v9.2.2).bind fun v19 => some (.cont ((wI (s18.1 + 1)), v19.2.1, v19.2.2))) else (some (.brk (s18.2.1, s18.2.2)))

def m5_l01_EncBack_k7 (a0 : List (BitVec 64)) (a1 : Int) (a2 : List (List UInt8)) (v1 : Bool) (b4 : (List UInt8)) (v5 : Int × Int × (List UInt8)) (b7 : Int × Int) : Option Bool :=
  (cut b4 0 (if (wI ((b4.length : Int) - 1)) > 0 then (wI ((b4.length : Int) - 1)) else 0)).bind fun c8 => (m14_enc_News c8).bind fun v9 => (iterB (m5_l01_EncBack_s18 a0 a1 v9) fuel (0, v9.1, v9.2.1)).bind fun e20 => m5_l01_EncBack_k10 a2 v1 b4 v5 b7 v9 e20

def m5_l01_EncBack_s21 (a2 : List (List UInt8)) (v5 : Int × Int × (List UInt8)) (s21 : Int × Int × Int) : Option (LR (Int × Int × Int) (Int × Int) (Bool)) :=
  if (decide (s21.1 < (a2.length : Int))) then ((m18_enc_Reader_Lists 300 s21.2.1 s21.2.2 v5.2.2).bind fun v22 => (idx a2 s21.1).bind fun u23 => if (!(v22.1 == u23)) then (some (.ret false)) else (some (.cont ((wI (s21.1 + 1)), v22.2.1, v22.2.2)))) else (some (.brk (s21.2.1, s21.2.2)))

def m5_l01_EncBack_k6 (a0 : List (BitVec 64)) (a1 : Int) (a2 : List (List UInt8)) (v1 : Bool) (b4 : (List UInt8)) (v5 : Int × Int × (List UInt8)) (b6 : Int × Int) : Option Bool :=
  (iter (m5_l01_EncBack_s21 a2 v5) fuel (0, b6.1, b6.2)).bind fun x => match x with | .inl r => some r | .inr e24 => m5_l01_EncBack_k7 a0 a1 a2 v1 b4 v5 e24

def m5_l01_EncBack_k27 (a1 : Int) (v5 : Int × Int × (List UInt8)) (s25 : Int × Int × Int) (b27 : (BitVec 64)) : Option (LR (Int × Int × Int) (Int × Int) (Bool)) :=
  (m16_enc_Reader_Us (wI (1 + (wI ((BitVec.ofInt 64 a1 &&& BitVec.ofInt 64 7).toNat : Int)))) s25.2.1 s25.2.2 v5.2.2).bind fun v28 => if (!decide ((v28.1.toNat : Int) = (b27.toNat : Int))) then (some (.ret false)) else (some (.cont ((wI (s25.1 + 1)), v28.2.1, v28.2.2)))

def m5_l01_EncBack_s25 (a0 : List (BitVec 64)) (a1 : Int) (v5 : Int × Int × (List UInt8)) (s25 : Int × Int × Int) : Option (LR (Int × Int × Int) (Int × Int) (Bool)) :=
  if (decide (s25.1 < (a0.length : Int))) then ((idx a0 s25.1).bind fun u26 => if (decide ((wI (1 + (wI ((BitVec.ofInt 64 a1 &&& BitVec.ofInt 64 7).toNat : Int)))) < 8)) then (m5_l01_EncBack_k27 a1 v5 s25 (u26 &&& (((1#64) <<< ((BitVec.ofInt 64 (wI (8 * (wI (1 + (wI ((BitVec.ofInt 64 a1 &&& BitVec.ofInt 64 7).toNat : Int))))))).toNat : Int).toNat) - (1#64)))) else (m5_l01_EncBack_k27 a1 v5 s25 u26)) else (some (.brk (s25.2.1, s25.2.2)))

def m5_l01_EncBack_k4 (a0 : List (BitVec 64)) (a1 : Int) (a2 : List (List UInt8)) (v1 : Bool) (b4 : (List UInt8)) : Option Bool :=
  (m14_enc_News b4).bind fun v5 => (iter (m5_l01_EncBack_s25 a0 a1 v5) fuel (0, v5.1, v5.2.1)).bind fun x => match x with | .inl r => some r | .inr e29 => m5_l01_EncBack_k6 a0 a1 a2 v1 b4 v5 e29

def m5_l01_EncBack_s30 (a2 : List (List UInt8)) (v1 : Bool) (s30 : (List UInt8) × Int) : Option (LR ((List UInt8) × Int) ((List UInt8)) (Bool)) :=
  if (decide (s30.2 < (a2.length : Int))) then ((idx a2 s30.2).bind fun u31 => if (decide (300 < (u31.length : Int))) then (some (.ret v1)) else ((idx a2 s30.2).bind fun u32 => (m12_enc_List s30.1 u32).bind fun v33 => some (.cont (v33, (wI (s30.2 + 1)))))) else (some (.brk s30.1))

def m5_l01_EncBack_k3 (a0 : List (BitVec 64)) (a1 : Int) (a2 : List (List UInt8)) (v1 : Bool) (b3 : (List UInt8)) : Option Bool :=
  (iter (m5_l01_EncBack_s30 a2 v1) fuel (b3, 0)).bind fun x => match x with | .inl r => some r | .inr e34 => m5_l01_EncBack_k4 a0 a1 a2 v1 e34

def m5_l01_EncBack_s35 (a0 : List (BitVec 64)) (a1 : Int) (s35 : (List UInt8) × Int) : Option (LB ((List UInt8) × Int) ((List UInt8))) :=
  if (decide (s35.2 < (a0.length : Int))) then ((idx a0 s35.2).bind fun u36 => (m10_enc_U s35.1 u36 (wI (1 + (wI ((BitVec.ofInt 64 a1 &&& BitVec.ofInt 64 7).toNat : Int))))).bind fun v37 => some (.cont (v37, (wI (s35.2 + 1))))) else (some (.brk s35.1))

def m5_l01_EncBack_k2 (a0 : List (BitVec 64)) (a1 : Int) (a2 : List (List UInt8)) (v1 : Bool) (b2 : Unit) : Option Bool :=
  (iterB (m5_l01_EncBack_s35 a0 a1) fuel (([] : List UInt8), 0)).bind fun e38 => m5_l01_EncBack_k3 a0 a1 a2 v1 e38
def m5_l01_EncBack (a0 : List (BitVec 64)) (a1 : Int) (a2 : List (List UInt8)) : Option Bool :=
  (m9_l01_awake).bind fun v1 => if (decide (40 < (a0.length : Int))) then (some v1) else (if (decide (20 < (a2.length : Int))) then (some v1) else (m5_l01_EncBack_k2 a0 a1 a2 v1 ()))

set_option maxRecDepth 100000 in
theorem m5_l01_EncBack_c {a0 : List (BitVec 64)} {a1 : Int} {a2 : List (List UInt8)} {r : Bool} (h : m5_l01_EncBack a0 a1 a2 = some r) : CallsA Try.prog 5 [.one (.sl a0.length (a0.flatMap eU64)), .one (.i .i64 a1), .one (.sl a2.length (a2.flatMap (eL eU8)))] (· = .s (.one (.b r))) := by
  unfold m5_l01_EncBack at h
  refine callsA_of Try.func5 rfl (nt := 152) rfl (Nat.le_of_ble_eq_true rfl) ?_
  intro w0 S0
  refine cseq ?_
  refine cregion ?_
  refine sv rfl (opv_as rfl) ?_
  refine snil ?_
  refine cseq ?_
  refine cregion ?_
  obtain ⟨v1, hv1, h⟩ := bind_eq h
  refine scall1 rfl fn9 opnds_nil (pubA_id rfl) (m9_l01_awake_c hv1) ?_
  refine sv rfl (opv_as rfl) ?_
  refine snil ?_
  refine cseq ?_
  refine cseq ?_
  refine cjoin3 (Unit) (fun b2 => [(0, .s (.one (.sl a0.length (a0.flatMap eU64)))), (1, .s (.one (.i .i64 a1))), (2, .s (.one (.sl a2.length (a2.flatMap (eL eU8))))), (7, .s (.one (.b v1)))]) (fun b2 => []) (fun b2 => m5_l01_EncBack_k2 a0 a1 a2 v1 b2 = some r) (fun _ _ => inbL_of rfl) (fun _ _ => blkinb_of rfl) (fun _ _ => Nat.le_of_ble_eq_true rfl) (fun b2 h => ?_) ?_
  · unfold m5_l01_EncBack_k2 at h
    refine cseq ?_
    refine cregion ?_
    refine sv rfl (opv_mv rfl) ?_
    refine sv rfl (opv_and rfl rfl) ?_
    refine sv rfl (opv_add rfl rfl) ?_
    refine sv rfl (opv_as rfl) ?_
    refine snil ?_
    refine cseq ?_
    refine cregion ?_
    refine sv rfl (opv_as rfl) ?_
    refine snil ?_
    refine cseq ?_
    refine cseq ?_
    refine cregion ?_
    refine sv rfl (opv_as rfl) ?_
    refine snil ?_
    refine cjoin ((List UInt8)) (fun b3 => [(0, .s (.one (.sl a0.length (a0.flatMap eU64)))), (2, .s (.one (.sl a2.length (a2.flatMap (eL eU8))))), (7, .s (.one (.b v1))), (8, .s (.one (.i .i64 (wI (1 + (wI ((BitVec.ofInt 64 a1 &&& BitVec.ofInt 64 7).toNat : Int))))))), (9, .s (.one (.sl b3.length (b3.flatMap eU8))))]) (fun b3 => []) (fun b3 => m5_l01_EncBack_k3 a0 a1 a2 v1 b3 = some r) (fun _ _ => inbL_of rfl) (fun _ _ => blkinb_of rfl) (fun _ _ => Nat.le_of_ble_eq_true rfl) (fun b3 h => ?_) ?_
    · unfold m5_l01_EncBack_k3 at h
      refine cseq ?_
      refine cseq ?_
      refine cregion ?_
      refine sv rfl (opv_as rfl) ?_
      refine snil ?_
      refine cjoin ((List UInt8)) (fun b4 => [(0, .s (.one (.sl a0.length (a0.flatMap eU64)))), (2, .s (.one (.sl a2.length (a2.flatMap (eL eU8))))), (7, .s (.one (.b v1))), (8, .s (.one (.i .i64 (wI (1 + (wI ((BitVec.ofInt 64 a1 &&& BitVec.ofInt 64 7).toNat : Int))))))), (9, .s (.one (.sl b4.length (b4.flatMap eU8))))]) (fun b4 => []) (fun b4 => m5_l01_EncBack_k4 a0 a1 a2 v1 b4 = some r) (fun _ _ => inbL_of rfl) (fun _ _ => blkinb_of rfl) (fun _ _ => Nat.le_of_ble_eq_true rfl) (fun b4 h => ?_) ?_
      · unfold m5_l01_EncBack_k4 at h
        refine cseq ?_
        refine cregion ?_
        refine sv rfl (opv_mv rfl) ?_
        obtain ⟨v5, hv5, h⟩ := bind_eq h
        refine scallB (x' := .s (.one (.lp 0 0))) (M' := [.box [.fn 30 [] [.lp 1 0, .lp 2 0], .i .i64 v5.1], .box [.i .i64 v5.2.1], .box [.sl v5.2.2.length (v5.2.2.flatMap eU8)]]) [] rfl fn14 (.func _) (opnds_cons rfl opnds_nil) (m14_enc_News_c hv5) rfl rfl (by decide) rfl rfl rfl ?_
        refine sv rfl (opv_as rfl) ?_
        refine snil ?_
        refine cseq ?_
        refine cseq ?_
        refine cregion ?_
        refine sv rfl (opv_as rfl) ?_
        refine snil ?_
        refine cjoin (Int × Int) (fun b6 => [(0, .s (.one (.sl a0.length (a0.flatMap eU64)))), (2, .s (.one (.sl a2.length (a2.flatMap (eL eU8))))), (7, .s (.one (.b v1))), (8, .s (.one (.i .i64 (wI (1 + (wI ((BitVec.ofInt 64 a1 &&& BitVec.ofInt 64 7).toNat : Int))))))), (9, .s (.one (.sl b4.length (b4.flatMap eU8)))), (12, .s (.one (.lp 0 0)))]) (fun b6 => [.box [.fn 30 [] [.lp 1 0, .lp 2 0], .i .i64 b6.1], .box [.i .i64 b6.2], .box [.sl v5.2.2.length (v5.2.2.flatMap eU8)]]) (fun b6 => m5_l01_EncBack_k6 a0 a1 a2 v1 b4 v5 b6 = some r) (fun _ _ => inbL_of rfl) (fun _ _ => blkinb_of rfl) (fun _ _ => Nat.le_of_ble_eq_true rfl) (fun b6 h => ?_) ?_
        · unfold m5_l01_EncBack_k6 at h
          refine cseq ?_
          refine cseq ?_
          refine cregion ?_
          refine sv rfl (opv_as rfl) ?_
          refine snil ?_
          refine cjoin (Int × Int) (fun b7 => [(0, .s (.one (.sl a0.length (a0.flatMap eU64)))), (2, .s (.one (.sl a2.length (a2.flatMap (eL eU8))))), (7, .s (.one (.b v1))), (8, .s (.one (.i .i64 (wI (1 + (wI ((BitVec.ofInt 64 a1 &&& BitVec.ofInt 64 7).toNat : Int))))))), (9, .s (.one (.sl b4.length (b4.flatMap eU8)))), (12, .s (.one (.lp 0 0)))]) (fun b7 => [.box [.fn 30 [] [.lp 1 0, .lp 2 0], .i .i64 b7.1], .box [.i .i64 b7.2], .box [.sl v5.2.2.length (v5.2.2.flatMap eU8)]]) (fun b7 => m5_l01_EncBack_k7 a0 a1 a2 v1 b4 v5 b7 = some r) (fun _ _ => inbL_of rfl) (fun _ _ => blkinb_of rfl) (fun _ _ => Nat.le_of_ble_eq_true rfl) (fun b7 h => ?_) ?_
          · unfold m5_l01_EncBack_k7 at h
            refine cseq ?_
            refine cregion ?_
            refine sv rfl (opv_mv rfl) ?_
            refine sv rfl (opv_mv rfl) ?_
            refine sv rfl (opv_len_sl si22 rfl) ?_
            refine sv rfl (opv_sub rfl rfl) ?_
            refine sv rfl (opv_max rfl rfl) ?_
            obtain ⟨c8, hc8, h⟩ := bind_eq h
            refine sv rfl (opv_cut (f := eU8) (lo := 0) (hi := (if (wI ((b4.length : Int) - 1)) > 0 then (wI ((b4.length : Int) - 1)) else 0)) si22 (fun _ => rfl) rfl rfl rfl bound_none (bound_some rfl (Int.le_trans (cut_eq hc8).1.1 (cut_eq hc8).1.2.1)) hc8) ?_
            obtain ⟨v9, hv9, h⟩ := bind_eq h
            refine scallB (x' := .s (.one (.lp 3 0))) (M' := [.box [.fn 30 [] [.lp 1 0, .lp 2 0], .i .i64 b7.1], .box [.i .i64 b7.2], .box [.sl v5.2.2.length (v5.2.2.flatMap eU8)], .box [.fn 30 [] [.lp 4 0, .lp 5 0], .i .i64 v9.1], .box [.i .i64 v9.2.1], .box [.sl v9.2.2.length (v9.2.2.flatMap eU8)]]) [] rfl fn14 (.func _) (opnds_cons rfl opnds_nil) (m14_enc_News_c hv9) rfl rfl (by decide) rfl rfl rfl ?_
            refine sv rfl (opv_as rfl) ?_
            refine snil ?_
            refine cseq ?_
            refine cseq ?_
            refine cregion ?_
            refine sv rfl (opv_as rfl) ?_
            refine snil ?_
            refine cjoin (Int × Int) (fun b10 => [(2, .s (.one (.sl a2.length (a2.flatMap (eL eU8))))), (7, .s (.one (.b v1))), (9, .s (.one (.sl b4.length (b4.flatMap eU8)))), (12, .s (.one (.lp 0 0))), (16, .s (.one (.lp 3 0)))]) (fun b10 => [.box [.fn 30 [] [.lp 1 0, .lp 2 0], .i .i64 b7.1], .box [.i .i64 b7.2], .box [.sl v5.2.2.length (v5.2.2.flatMap eU8)], .box [.fn 30 [] [.lp 4 0, .lp 5 0], .i .i64 b10.1], .box [.i .i64 b10.2], .box [.sl v9.2.2.length (v9.2.2.flatMap eU8)]]) (fun b10 => m5_l01_EncBack_k10 a2 v1 b4 v5 b7 v9 b10 = some r) (fun _ _ => inbL_of rfl) (fun _ _ => blkinb_of rfl) (fun _ _ => Nat.le_of_ble_eq_true rfl) (fun b10 h => ?_) ?_
            · unfold m5_l01_EncBack_k10 at h
              refine cseq ?_
              refine cseq ?_
              refine cregion ?_
              refine sv rfl (opv_as rfl) ?_
              refine snil ?_
              refine cjoin (Int × Int) (fun b11 => [(7, .s (.one (.b v1))), (9, .s (.one (.sl b4.length (b4.flatMap eU8)))), (12, .s (.one (.lp 0 0))), (16, .s (.one (.lp 3 0)))]) (fun b11 => [.box [.fn 30 [] [.lp 1 0, .lp 2 0], .i .i64 b7.1], .box [.i .i64 b7.2], .box [.sl v5.2.2.length (v5.2.2.flatMap eU8)], .box [.fn 30 [] [.lp 4 0, .lp 5 0], .i .i64 b11.1], .box [.i .i64 b11.2], .box [.sl v9.2.2.length (v9.2.2.flatMap eU8)]]) (fun b11 => m5_l01_EncBack_k11 v1 b4 v5 b7 v9 b11 = some r) (fun _ _ => inbL_of rfl) (fun _ _ => blkinb_of rfl) (fun _ _ => Nat.le_of_ble_eq_true rfl) (fun b11 h => ?_) ?_
              · unfold m5_l01_EncBack_k11 at h
                refine cseq ?_
                refine cregion ?_
                refine sv rfl (opv_mv rfl) ?_
                refine sv rfl (opv_mv rfl) ?_
                refine ssplit 130 rfl (fun hc => ?_) (fun hc => ?_)
                · replace h := ite_t hc h
                  clear hc
                  refine son rfl rfl rfl ?_
                  refine sv rfl (opv_mv rfl) ?_
                  refine son rfl rfl rfl ?_
                  obtain ⟨v12, hv12, h⟩ := bind_eq h
                  refine scallB (x' := .s (.one (.i .i64 v12.1))) (M' := [.box [.fn 30 [] [.lp 1 0, .lp 2 0], .i .i64 b7.1], .box [.i .i64 v12.2], .box [.sl v5.2.2.length (v5.2.2.flatMap eU8)], .box [.fn 30 [] [.lp 4 0, .lp 5 0], .i .i64 b11.1], .box [.i .i64 b11.2], .box [.sl v9.2.2.length (v9.2.2.flatMap eU8)]]) [0, 1, 2] rfl fn26 (.func _) (opnds_cons rfl opnds_nil) (m26_enc_Reader_Ends_c hv12) rfl rfl (by decide) rfl rfl rfl ?_
                  refine son rfl rfl rfl ?_
                  refine sv rfl (opv_ieql rfl rfl) ?_
                  refine sv rfl (opv_pick_t rfl rfl) ?_
                  refine sv rfl (opv_mv rfl) ?_
                  refine ssplit 135 rfl (fun hc => ?_) (fun hc => ?_)
                  · replace h := ite_t hc h
                    clear hc
                    refine son rfl rfl rfl ?_
                    refine sv rfl (opv_mv rfl) ?_
                    refine son rfl rfl rfl ?_
                    obtain ⟨v13, hv13, h⟩ := bind_eq h
                    refine scallB (x' := .s (.one (.i .i64 v13.1))) (M' := [.box [.fn 30 [] [.lp 1 0, .lp 2 0], .i .i64 b7.1], .box [.i .i64 v13.2], .box [.sl v5.2.2.length (v5.2.2.flatMap eU8)], .box [.fn 30 [] [.lp 4 0, .lp 5 0], .i .i64 b11.1], .box [.i .i64 b11.2], .box [.sl v9.2.2.length (v9.2.2.flatMap eU8)]]) [0, 1, 2] rfl fn25 (.func _) (opnds_cons rfl opnds_nil) (m25_enc_Reader_Ats_c hv13) rfl rfl (by decide) rfl rfl rfl ?_
                    refine son rfl rfl rfl ?_
                    refine sv rfl (opv_mv rfl) ?_
                    refine son rfl rfl rfl ?_
                    refine sv rfl (opv_len_sl si22 rfl) ?_
                    refine son rfl rfl rfl ?_
                    refine sv rfl (opv_ieql rfl rfl) ?_
                    refine sv rfl (opv_pick_t rfl rfl) ?_
                    refine sv rfl (opv_mv rfl) ?_
                    refine ssplit 142 rfl (fun hc => ?_) (fun hc => ?_)
                    · replace h := ite_t hc h
                      clear hc
                      refine son rfl rfl rfl ?_
                      refine sv rfl (opv_mv rfl) ?_
                      refine son rfl rfl rfl ?_
                      refine sv rfl (opv_len_sl si22 rfl) ?_
                      refine son rfl rfl rfl ?_
                      refine sv rfl (opv_ieql rfl rfl) ?_
                      refine son rfl rfl rfl ?_
                      refine sv rfl (opv_mv rfl) ?_
                      refine ssplit 146 rfl (fun hc => ?_) (fun hc => ?_)
                      · replace h := ite_t hc h
                        clear hc
                        refine soff rfl rfl rfl rfl ?_
                        refine soff rfl rfl rfl rfl ?_
                        refine soff rfl rfl rfl rfl ?_
                        refine son rfl rfl rfl ?_
                        refine sv rfl (opv_pick_t rfl rfl) ?_
                        refine sv rfl (opv_pick_t rfl rfl) ?_
                        refine sv rfl (opv_as rfl) ?_
                        refine snil ?_
                        refine cret ?_
                        obtain rfl := Option.some.inj h
                        refine ⟨Or.inr rfl, _, _, _, (resVs_cons (ResV.tmp _ _ rfl) resVs_nil), (pubA_id rfl), ?_⟩
                        rfl
                      · replace h := ite_f hc h
                        clear hc
                        refine son rfl rfl rfl ?_
                        refine sv rfl (opv_mv rfl) ?_
                        refine son rfl rfl rfl ?_
                        obtain ⟨v14, hv14, h⟩ := bind_eq h
                        refine scallB (x' := .s (.one (.i .i64 v14))) (M' := [.box [.fn 30 [] [.lp 1 0, .lp 2 0], .i .i64 b7.1], .box [.i .i64 v13.2], .box [.sl v5.2.2.length (v5.2.2.flatMap eU8)], .box [.fn 30 [] [.lp 4 0, .lp 5 0], .i .i64 b11.1], .box [.i .i64 b11.2], .box [.sl v9.2.2.length (v9.2.2.flatMap eU8)]]) [3, 4, 5] rfl fn24 (.func _) (opnds_cons rfl opnds_nil) (m24_enc_Reader_Errs_c hv14) rfl rfl (by decide) rfl rfl rfl ?_
                        refine son rfl rfl rfl ?_
                        refine sv rfl (opv_ieql rfl rfl) ?_
                        refine son rfl rfl rfl ?_
                        refine sv rfl (opv_pick_f rfl rfl) ?_
                        refine sv rfl (opv_pick_t rfl rfl) ?_
                        refine sv rfl (opv_as rfl) ?_
                        refine snil ?_
                        refine cret ?_
                        obtain rfl := Option.some.inj h
                        refine ⟨Or.inr rfl, _, _, _, (resVs_cons (ResV.tmp _ _ rfl) resVs_nil), (pubA_id rfl), ?_⟩
                        rfl
                    · replace h := ite_f hc h
                      clear hc
                      refine soff rfl rfl rfl rfl ?_
                      refine soff rfl rfl rfl rfl ?_
                      refine soff rfl rfl rfl rfl ?_
                      refine soff rfl rfl rfl rfl ?_
                      refine soffu rfl rfl rfl ?_
                      refine soffu rfl rfl rfl ?_
                      refine soffu rfl rfl rfl ?_
                      refine soff rfl rfl rfl rfl ?_
                      refine sv rfl (opv_pick_f rfl rfl) ?_
                      refine sv rfl (opv_as rfl) ?_
                      refine snil ?_
                      refine cret ?_
                      obtain rfl := Option.some.inj h
                      refine ⟨Or.inr rfl, _, _, _, (resVs_cons (ResV.tmp _ _ rfl) resVs_nil), (pubA_id rfl), ?_⟩
                      rfl
                  · replace h := ite_f hc h
                    clear hc
                    refine soff rfl rfl rfl rfl ?_
                    refine soff rfl rfl rfl rfl ?_
                    refine soff rfl rfl rfl rfl ?_
                    refine soff rfl rfl rfl rfl ?_
                    refine soff rfl rfl rfl rfl ?_
                    refine sv rfl (opv_pick_f rfl rfl) ?_
                    refine sv rfl (opv_mv rfl) ?_
                    refine soff rfl rfl rfl rfl ?_
                    refine soff rfl rfl rfl rfl ?_
                    refine soff rfl rfl rfl rfl ?_
                    refine soff rfl rfl rfl rfl ?_
                    refine soffu rfl rfl rfl ?_
                    refine soffu rfl rfl rfl ?_
                    refine soffu rfl rfl rfl ?_
                    refine soff rfl rfl rfl rfl ?_
                    refine sv rfl (opv_pick_f rfl rfl) ?_
                    refine sv rfl (opv_as rfl) ?_
                    refine snil ?_
                    refine cret ?_
                    obtain rfl := Option.some.inj h
                    refine ⟨Or.inr rfl, _, _, _, (resVs_cons (ResV.tmp _ _ rfl) resVs_nil), (pubA_id rfl), ?_⟩
                    rfl
                · replace h := ite_f hc h
                  clear hc
                  refine soff rfl rfl rfl rfl ?_
                  refine soff rfl rfl rfl rfl ?_
                  refine soff rfl rfl rfl rfl ?_
                  refine sv rfl (opv_pick_f rfl rfl) ?_
                  refine sv rfl (opv_mv rfl) ?_
                  refine soff rfl rfl rfl rfl ?_
                  refine soff rfl rfl rfl rfl ?_
                  refine soff rfl rfl rfl rfl ?_
                  refine soff rfl rfl rfl rfl ?_
                  refine soff rfl rfl rfl rfl ?_
                  refine sv rfl (opv_pick_f rfl rfl) ?_
                  refine sv rfl (opv_mv rfl) ?_
                  refine soff rfl rfl rfl rfl ?_
                  refine soff rfl rfl rfl rfl ?_
                  refine soff rfl rfl rfl rfl ?_
                  refine soff rfl rfl rfl rfl ?_
                  refine soffu rfl rfl rfl ?_
                  refine soffu rfl rfl rfl ?_
                  refine soffu rfl rfl rfl ?_
                  refine soff rfl rfl rfl rfl ?_
                  refine sv rfl (opv_pick_f rfl rfl) ?_
                  refine sv rfl (opv_as rfl) ?_
                  refine snil ?_
                  refine cret ?_
                  obtain rfl := Option.some.inj h
                  refine ⟨Or.inr rfl, _, _, _, (resVs_cons (ResV.tmp _ _ rfl) resVs_nil), (pubA_id rfl), ?_⟩
                  rfl
              · skip
                refine cblock ?_
                obtain ⟨x15, hx15, ho15⟩ := bind_eq h
                refine awc_loop (G := Nat × (Int × Int × Int)) (fun g => [(2, .s (.one (.sl a2.length (a2.flatMap (eL eU8))))), (7, .s (.one (.b v1))), (9, .s (.one (.sl b4.length (b4.flatMap eU8)))), (12, .s (.one (.lp 0 0))), (16, .s (.one (.lp 3 0))), (18, .s (.one (.i .i64 g.2.1)))]) (fun g => [.box [.fn 30 [] [.lp 1 0, .lp 2 0], .i .i64 b7.1], .box [.i .i64 b7.2], .box [.sl v5.2.2.length (v5.2.2.flatMap eU8)], .box [.fn 30 [] [.lp 4 0, .lp 5 0], .i .i64 g.2.2.1], .box [.i .i64 g.2.2.2], .box [.sl v9.2.2.length (v9.2.2.flatMap eU8)]]) (fun g => iterB (m5_l01_EncBack_s15 a2 v9) g.1 g.2 = some x15) (fun g => g.1) (fuel, (0, b10.1, b10.2)) hx15 ⟨rfl, rfl, rfl, rfl, rfl, rfl, trivial⟩ [] rfl (fun _ _ => inbL_of rfl) (fun _ _ => blkinb_of rfl) (fun _ _ => Nat.le_of_ble_eq_true rfl) ?_
                clear hx15 h
                rintro ⟨n15, s15⟩ h
                obtain ⟨n15, y15, rfl, h, hk15⟩ := iterB_eq h
                unfold m5_l01_EncBack_s15 at h
                refine cseq ?_
                refine cseq ?_
                refine cregion ?_
                refine sv rfl (opv_mv rfl) ?_
                refine sv rfl (opv_mv rfl) ?_
                refine sv rfl (opv_len_sl si45 rfl) ?_
                refine sv rfl (opv_lss rfl rfl) ?_
                refine snil ?_
                refine ccond rfl (fun hc => ?_) (fun hc => ?_)
                · replace h := ite_t hc h
                  clear hc
                  refine cskip ?_
                  refine then_normal ?_
                  refine cseq ?_
                  refine cblock ?_
                  refine cregion ?_
                  refine sv rfl (opv_mv rfl) ?_
                  obtain ⟨v16, hv16, h⟩ := bind_eq h
                  refine scallB (x' := .s (.one (.sl v16.1.length (v16.1.flatMap eU8)))) (M' := [.box [.fn 30 [] [.lp 1 0, .lp 2 0], .i .i64 b7.1], .box [.i .i64 b7.2], .box [.sl v5.2.2.length (v5.2.2.flatMap eU8)], .box [.fn 30 [] [.lp 4 0, .lp 5 0], .i .i64 v16.2.1], .box [.i .i64 v16.2.2], .box [.sl v9.2.2.length (v9.2.2.flatMap eU8)]]) [3, 4, 5] rfl fn18 (.func _) (opnds_cons rfl (opnds_cons rfl opnds_nil)) (m18_enc_Reader_Lists_c hv16) rfl rfl (by decide) rfl rfl rfl ?_
                  refine snil0 ?_
                  refine block_normal ?_
                  refine then_normal ?_
                  refine cregion ?_
                  refine sv rfl (opv_mv rfl) ?_
                  refine sv rfl (opv_add rfl rfl) ?_
                  refine sv rfl (opv_as rfl) ?_
                  refine snil ?_
                  obtain rfl := Option.some.inj h
                  exact ⟨(n15, ((wI (s15.1 + 1)), v16.2.1, v16.2.2)), _, hk15, ⟨rfl, rfl, rfl, rfl, rfl, rfl, trivial⟩, rfl, Nat.lt_succ_self _⟩
                · replace h := ite_f hc h
                  clear hc
                  refine cexit ?_
                  refine then_exit ?_
                  refine then_exit ?_
                  refine block_hit ?_
                  refine then_normal ?_
                  obtain rfl := Option.some.inj h
                  obtain rfl : _ = x15 := hk15
                  exact ⟨(s15.2.1, s15.2.2), _, ho15, ⟨rfl, rfl, rfl, rfl, trivial⟩, rfl⟩
            · skip
              refine cblock ?_
              obtain ⟨x18, hx18, ho18⟩ := bind_eq h
              refine awc_loop (G := Nat × (Int × Int × Int)) (fun g => [(0, .s (.one (.sl a0.length (a0.flatMap eU64)))), (2, .s (.one (.sl a2.length (a2.flatMap (eL eU8))))), (7, .s (.one (.b v1))), (8, .s (.one (.i .i64 (wI (1 + (wI ((BitVec.ofInt 64 a1 &&& BitVec.ofInt 64 7).toNat : Int))))))), (9, .s (.one (.sl b4.length (b4.flatMap eU8)))), (12, .s (.one (.lp 0 0))), (16, .s (.one (.lp 3 0))), (17, .s (.one (.i .i64 g.2.1)))]) (fun g => [.box [.fn 30 [] [.lp 1 0, .lp 2 0], .i .i64 b7.1], .box [.i .i64 b7.2], .box [.sl v5.2.2.length (v5.2.2.flatMap eU8)], .box [.fn 30 [] [.lp 4 0, .lp 5 0], .i .i64 g.2.2.1], .box [.i .i64 g.2.2.2], .box [.sl v9.2.2.length (v9.2.2.flatMap eU8)]]) (fun g => iterB (m5_l01_EncBack_s18 a0 a1 v9) g.1 g.2 = some x18) (fun g => g.1) (fuel, (0, v9.1, v9.2.1)) hx18 ⟨rfl, rfl, rfl, rfl, rfl, rfl, rfl, rfl, trivial⟩ [] rfl (fun _ _ => inbL_of rfl) (fun _ _ => blkinb_of rfl) (fun _ _ => Nat.le_of_ble_eq_true rfl) ?_
              clear hx18 h
              rintro ⟨n18, s18⟩ h
              obtain ⟨n18, y18, rfl, h, hk18⟩ := iterB_eq h
              unfold m5_l01_EncBack_s18 at h
              refine cseq ?_
              refine cseq ?_
              refine cregion ?_
              refine sv rfl (opv_mv rfl) ?_
              refine sv rfl (opv_mv rfl) ?_
              refine sv rfl (opv_len_sl si44 rfl) ?_
              refine sv rfl (opv_lss rfl rfl) ?_
              refine snil ?_
              refine ccond rfl (fun hc => ?_) (fun hc => ?_)
              · replace h := ite_t hc h
                clear hc
                refine cskip ?_
                refine then_normal ?_
                refine cseq ?_
                refine cblock ?_
                refine cregion ?_
                refine sv rfl (opv_mv rfl) ?_
                refine sv rfl (opv_mv rfl) ?_
                obtain ⟨v19, hv19, h⟩ := bind_eq h
                refine scallB (x' := .s (.one (.i .u64 (v19.1.toNat : Int)))) (M' := [.box [.fn 30 [] [.lp 1 0, .lp 2 0], .i .i64 b7.1], .box [.i .i64 b7.2], .box [.sl v5.2.2.length (v5.2.2.flatMap eU8)], .box [.fn 30 [] [.lp 4 0, .lp 5 0], .i .i64 v19.2.1], .box [.i .i64 v19.2.2], .box [.sl v9.2.2.length (v9.2.2.flatMap eU8)]]) [3, 4, 5] rfl fn16 (.func _) (opnds_cons rfl (opnds_cons rfl opnds_nil)) (m16_enc_Reader_Us_c hv19) rfl rfl (by decide) rfl rfl rfl ?_
                refine snil0 ?_
                refine block_normal ?_
                refine then_normal ?_
                refine cregion ?_
                refine sv rfl (opv_mv rfl) ?_
                refine sv rfl (opv_add rfl rfl) ?_
                refine sv rfl (opv_as rfl) ?_
                refine snil ?_
                obtain rfl := Option.some.inj h
                exact ⟨(n18, ((wI (s18.1 + 1)), v19.2.1, v19.2.2)), _, hk18, ⟨rfl, rfl, rfl, rfl, rfl, rfl, rfl, rfl, trivial⟩, rfl, Nat.lt_succ_self _⟩
              · replace h := ite_f hc h
                clear hc
                refine cexit ?_
                refine then_exit ?_
                refine then_exit ?_
                refine block_hit ?_
                refine then_normal ?_
                obtain rfl := Option.some.inj h
                obtain rfl : _ = x18 := hk18
                exact ⟨(s18.2.1, s18.2.2), _, ho18, ⟨rfl, rfl, rfl, rfl, rfl, trivial⟩, rfl⟩
          · skip
            refine cblock ?_
            obtain ⟨x21, hx21, ho21⟩ := bind_eq h
            refine awc_loop (G := Nat × (Int × Int × Int)) (fun g => [(0, .s (.one (.sl a0.length (a0.flatMap eU64)))), (2, .s (.one (.sl a2.length (a2.flatMap (eL eU8))))), (7, .s (.one (.b v1))), (8, .s (.one (.i .i64 (wI (1 + (wI ((BitVec.ofInt 64 a1 &&& BitVec.ofInt 64 7).toNat : Int))))))), (9, .s (.one (.sl b4.length (b4.flatMap eU8)))), (12, .s (.one (.lp 0 0))), (15, .s (.one (.i .i64 g.2.1)))]) (fun g => [.box [.fn 30 [] [.lp 1 0, .lp 2 0], .i .i64 g.2.2.1], .box [.i .i64 g.2.2.2], .box [.sl v5.2.2.length (v5.2.2.flatMap eU8)]]) (fun g => iter (m5_l01_EncBack_s21 a2 v5) g.1 g.2 = some x21) (fun g => g.1) (fuel, (0, b6.1, b6.2)) hx21 ⟨rfl, rfl, rfl, rfl, rfl, rfl, rfl, trivial⟩ [] rfl (fun _ _ => inbL_of rfl) (fun _ _ => blkinb_of rfl) (fun _ _ => Nat.le_of_ble_eq_true rfl) ?_
            clear hx21 h
            rintro ⟨n21, s21⟩ h
            obtain ⟨n21, y21, rfl, h, hk21⟩ := iter_eq h
            unfold m5_l01_EncBack_s21 at h
            refine cseq ?_
            refine cseq ?_
            refine cregion ?_
            refine sv rfl (opv_mv rfl) ?_
            refine sv rfl (opv_mv rfl) ?_
            refine sv rfl (opv_len_sl si45 rfl) ?_
            refine sv rfl (opv_lss rfl rfl) ?_
            refine snil ?_
            refine ccond rfl (fun hc => ?_) (fun hc => ?_)
            · replace h := ite_t hc h
              clear hc
              refine cskip ?_
              refine then_normal ?_
              refine cseq ?_
              refine cblock ?_
              refine cseq ?_
              obtain ⟨v22, hv22, h⟩ := bind_eq h
              obtain ⟨u23, hu23, h⟩ := bind_eq h
              refine cdraw_e [1] [0, 1, 3, 0, 0, 24, 56, 120, 255] [[.box [.fn 30 [] [.lp 1 0, .lp 2 0], .i .i64 s21.2.1], .box [.i .i64 s21.2.2], .box [.sl v5.2.2.length (v5.2.2.flatMap eU8)]], [.box [.fn 30 [] [.lp 1 0, .lp 2 0], .i .i64 v22.2.1], .box [.i .i64 v22.2.2], .box [.sl v5.2.2.length (v5.2.2.flatMap eU8)]]] (by kernel_rfl) mixed (by kernel_rfl) (by decide) rfl rfl rfl rfl ?_
              refine ev (sees_at 0 rfl rfl) rfl rfl (opv_mv rfl) ?_
              refine ee (x := .s (.one (.sl v22.1.length (v22.1.flatMap eU8)))) 0 rfl rfl rfl rfl rfl (fun ζ => ?_) ?_
              · refine scallB (x' := .s (.one (.sl v22.1.length (v22.1.flatMap eU8)))) (M' := [.box [.fn 30 [] [.lp 1 0, .lp 2 0], .i .i64 v22.2.1], .box [.i .i64 v22.2.2], .box [.sl v5.2.2.length (v5.2.2.flatMap eU8)]]) [0, 1, 2] rfl fn18 (.func _) (opnds_cons rfl (opnds_cons rfl opnds_nil)) (m18_enc_Reader_Lists_c hv22) rfl rfl (by decide) rfl rfl rfl ?_
                exact eend
              refine ev (sees_at 1 rfl rfl) rfl rfl (opv_bs (l := v22.1) Try.underlying22 Try.underlying5 Try.underlying9 rfl rfl rfl) ?_
              refine emv rfl rfl (fun _ => opv_mv rfl) ?_
              refine emv rfl rfl (fun _ => opv_mv rfl) ?_
              refine ev (sees_all (md := [.dead, .dead, .box [.sl v5.2.2.length (v5.2.2.flatMap eU8)]]) ⟨⟨trivial, ⟨trivial, ⟨rfl, trivial⟩⟩⟩, ⟨⟨trivial, ⟨trivial, ⟨rfl, trivial⟩⟩⟩, trivial⟩⟩) rfl rfl (opv_ix (f := (eL eU8)) si45 (fun _ => rfl) rfl rfl rfl rfl hu23) ?_
              refine ev (sees_all (md := [.dead, .dead, .box [.sl v5.2.2.length (v5.2.2.flatMap eU8)]]) ⟨⟨trivial, ⟨trivial, ⟨rfl, trivial⟩⟩⟩, ⟨⟨trivial, ⟨trivial, ⟨rfl, trivial⟩⟩⟩, trivial⟩⟩) rfl rfl (opv_load1 ti22 rfl (.cp _) rfl) ?_
              refine ev (sees_all (md := [.dead, .dead, .box [.sl v5.2.2.length (v5.2.2.flatMap eU8)]]) ⟨⟨trivial, ⟨trivial, ⟨rfl, trivial⟩⟩⟩, ⟨⟨trivial, ⟨trivial, ⟨rfl, trivial⟩⟩⟩, trivial⟩⟩) rfl rfl (opv_bs (l := u23) Try.underlying22 Try.underlying5 Try.underlying9 rfl rfl rfl) ?_
              refine ev (sees_at 1 rfl rfl) rfl rfl (opv_sneq' rfl rfl) ?_
              refine enil ?_
              refine then_normal ?_
              refine ccond rfl (fun hc => ?_) (fun hc => ?_)
              · replace h := ite_t hc h
                clear hc
                refine cseq ?_
                refine cregion ?_
                refine sv rfl (opv_as rfl) ?_
                refine snil ?_
                refine cret ?_
                refine block_ret ?_
                refine then_ret ?_
                refine then_ret ?_
                refine block_ret ?_
                refine then_ret ?_
                obtain rfl := Option.some.inj h
                obtain rfl : Sum.inl _ = x21 := hk21
                replace ho21 : some _ = some _ := ho21
                obtain rfl := Option.some.inj ho21
                refine ⟨Or.inr rfl, _, _, _, (resVs_cons (ResV.tmp _ _ rfl) resVs_nil), (pubA_id rfl), ?_⟩
                rfl
              · replace h := ite_f hc h
                clear hc
                refine cskip ?_
                refine block_normal ?_
                refine then_normal ?_
                refine cregion ?_
                refine sv rfl (opv_mv rfl) ?_
                refine sv rfl (opv_add rfl rfl) ?_
                refine sv rfl (opv_as rfl) ?_
                refine snil ?_
                obtain rfl := Option.some.inj h
                exact ⟨(n21, ((wI (s21.1 + 1)), v22.2.1, v22.2.2)), _, hk21, ⟨rfl, rfl, rfl, rfl, rfl, rfl, rfl, trivial⟩, rfl, Nat.lt_succ_self _⟩
            · replace h := ite_f hc h
              clear hc
              refine cexit ?_
              refine then_exit ?_
              refine then_exit ?_
              refine block_hit ?_
              refine then_normal ?_
              obtain rfl := Option.some.inj h
              obtain rfl : _ = x21 := hk21
              exact ⟨(s21.2.1, s21.2.2), _, ho21, ⟨rfl, rfl, rfl, rfl, rfl, rfl, trivial⟩, rfl⟩
        · skip
          refine cblock ?_
          obtain ⟨x25, hx25, ho25⟩ := bind_eq h
          refine awc_loop (G := Nat × (Int × Int × Int)) (fun g => [(0, .s (.one (.sl a0.length (a0.flatMap eU64)))), (2, .s (.one (.sl a2.length (a2.flatMap (eL eU8))))), (7, .s (.one (.b v1))), (8, .s (.one (.i .i64 (wI (1 + (wI ((BitVec.ofInt 64 a1 &&& BitVec.ofInt 64 7).toNat : Int))))))), (9, .s (.one (.sl b4.length (b4.flatMap eU8)))), (12, .s (.one (.lp 0 0))), (13, .s (.one (.i .i64 g.2.1)))]) (fun g => [.box [.fn 30 [] [.lp 1 0, .lp 2 0], .i .i64 g.2.2.1], .box [.i .i64 g.2.2.2], .box [.sl v5.2.2.length (v5.2.2.flatMap eU8)]]) (fun g => iter (m5_l01_EncBack_s25 a0 a1 v5) g.1 g.2 = some x25) (fun g => g.1) (fuel, (0, v5.1, v5.2.1)) hx25 ⟨rfl, rfl, rfl, rfl, rfl, rfl, rfl, trivial⟩ [] rfl (fun _ _ => inbL_of rfl) (fun _ _ => blkinb_of rfl) (fun _ _ => Nat.le_of_ble_eq_true rfl) ?_
          clear hx25 h
          rintro ⟨n25, s25⟩ h
          obtain ⟨n25, y25, rfl, h, hk25⟩ := iter_eq h
          unfold m5_l01_EncBack_s25 at h
          refine cseq ?_
          refine cseq ?_
          refine cregion ?_
          refine sv rfl (opv_mv rfl) ?_
          refine sv rfl (opv_mv rfl) ?_
          refine sv rfl (opv_len_sl si44 rfl) ?_
          refine sv rfl (opv_lss rfl rfl) ?_
          refine snil ?_
          refine ccond rfl (fun hc => ?_) (fun hc => ?_)
          · replace h := ite_t hc h
            clear hc
            refine cskip ?_
            refine then_normal ?_
            refine cseq ?_
            refine cblock ?_
            refine cseq ?_
            refine cregion ?_
            refine sv rfl (opv_mv rfl) ?_
            refine sv rfl (opv_mv rfl) ?_
            obtain ⟨u26, hu26, h⟩ := bind_eq h
            refine sv rfl (opv_ix (f := eU64) si44 (fun _ => rfl) rfl rfl rfl rfl hu26) ?_
            refine sv rfl (opv_load1 ti23 rfl (.cp _) rfl) ?_
            refine sv rfl (opv_as rfl) ?_
            refine snil ?_
            refine cseq ?_
            refine cseq ?_
            refine cregion ?_
            refine sv rfl (opv_mv rfl) ?_
            refine sv rfl (opv_lss rfl rfl) ?_
            refine snil ?_
            refine cjoin ((BitVec 64)) (fun b27 => [(0, .s (.one (.sl a0.length (a0.flatMap eU64)))), (2, .s (.one (.sl a2.length (a2.flatMap (eL eU8))))), (7, .s (.one (.b v1))), (8, .s (.one (.i .i64 (wI (1 + (wI ((BitVec.ofInt 64 a1 &&& BitVec.ofInt 64 7).toNat : Int))))))), (9, .s (.one (.sl b4.length (b4.flatMap eU8)))), (12, .s (.one (.lp 0 0))), (13, .s (.one (.i .i64 s25.1))), (14, .s (.one (.i .u64 (b27.toNat : Int))))]) (fun b27 => [.box [.fn 30 [] [.lp 1 0, .lp 2 0], .i .i64 s25.2.1], .box [.i .i64 s25.2.2], .box [.sl v5.2.2.length (v5.2.2.flatMap eU8)]]) (fun b27 => m5_l01_EncBack_k27 a1 v5 s25 b27 = some y25) (fun _ _ => inbL_of rfl) (fun _ _ => blkinb_of rfl) (fun _ _ => Nat.le_of_ble_eq_true rfl) (fun b27 h => ?_) ?_
            · unfold m5_l01_EncBack_k27 at h
              refine cseq ?_
              refine cregion ?_
              refine sv rfl (opv_mv rfl) ?_
              refine sv rfl (opv_mv rfl) ?_
              obtain ⟨v28, hv28, h⟩ := bind_eq h
              refine scallB (x' := .s (.one (.i .u64 (v28.1.toNat : Int)))) (M' := [.box [.fn 30 [] [.lp 1 0, .lp 2 0], .i .i64 v28.2.1], .box [.i .i64 v28.2.2], .box [.sl v5.2.2.length (v5.2.2.flatMap eU8)]]) [0, 1, 2] rfl fn16 (.func _) (opnds_cons rfl (opnds_cons rfl opnds_nil)) (m16_enc_Reader_Us_c hv28) rfl rfl (by decide) rfl rfl rfl ?_
              refine sv rfl (opv_mv rfl) ?_
              refine sv rfl (opv_ineq rfl rfl) ?_
              refine snil ?_
              refine ccond rfl (fun hc => ?_) (fun hc => ?_)
              · replace h := ite_t hc h
                clear hc
                refine cseq ?_
                refine cregion ?_
                refine sv rfl (opv_as rfl) ?_
                refine snil ?_
                refine cret ?_
                refine block_ret ?_
                refine then_ret ?_
                refine then_ret ?_
                refine block_ret ?_
                refine then_ret ?_
                obtain rfl := Option.some.inj h
                obtain rfl : Sum.inl _ = x25 := hk25
                replace ho25 : some _ = some _ := ho25
                obtain rfl := Option.some.inj ho25
                refine ⟨Or.inr rfl, _, _, _, (resVs_cons (ResV.tmp _ _ rfl) resVs_nil), (pubA_id rfl), ?_⟩
                rfl
              · replace h := ite_f hc h
                clear hc
                refine cskip ?_
                refine block_normal ?_
                refine then_normal ?_
                refine cregion ?_
                refine sv rfl (opv_mv rfl) ?_
                refine sv rfl (opv_add rfl rfl) ?_
                refine sv rfl (opv_as rfl) ?_
                refine snil ?_
                obtain rfl := Option.some.inj h
                exact ⟨(n25, ((wI (s25.1 + 1)), v28.2.1, v28.2.2)), _, hk25, ⟨rfl, rfl, rfl, rfl, rfl, rfl, rfl, trivial⟩, rfl, Nat.lt_succ_self _⟩
            · skip
              refine ccond rfl (fun hc => ?_) (fun hc => ?_)
              · replace h := ite_t hc h
                clear hc
                refine cregion ?_
                refine sv rfl (opv_mv rfl) ?_
                refine sv rfl (opv_mv rfl) ?_
                refine sv rfl (opv_mul rfl rfl) ?_
                refine sv rfl (opv_conv_ibv rfl Try.underlying3 Try.underlying46 rfl) ?_
                refine sv rfl (opv_shl_u64 (a := 1#64) rfl rfl rfl (Int.natCast_nonneg _)) ?_
                refine sv rfl (opv_sub_u64 (a := ((1#64) <<< ((BitVec.ofInt 64 (wI (8 * (wI (1 + (wI ((BitVec.ofInt 64 a1 &&& BitVec.ofInt 64 7).toNat : Int))))))).toNat : Int).toNat)) (b := 1#64) rfl rfl rfl rfl) ?_
                refine sv rfl (opv_and_u64 (a := u26) (b := (((1#64) <<< ((BitVec.ofInt 64 (wI (8 * (wI (1 + (wI ((BitVec.ofInt 64 a1 &&& BitVec.ofInt 64 7).toNat : Int))))))).toNat : Int).toNat) - (1#64))) rfl rfl rfl rfl) ?_
                refine sv rfl (opv_as rfl) ?_
                refine snil ?_
                exact ⟨(u26 &&& (((1#64) <<< ((BitVec.ofInt 64 (wI (8 * (wI (1 + (wI ((BitVec.ofInt 64 a1 &&& BitVec.ofInt 64 7).toNat : Int))))))).toNat : Int).toNat) - (1#64))), _, h, ⟨rfl, rfl, rfl, rfl, rfl, rfl, rfl, rfl, trivial⟩, rfl⟩
              · replace h := ite_f hc h
                clear hc
                refine cskip ?_
                refine then_normal ?_
                exact ⟨u26, _, h, ⟨rfl, rfl, rfl, rfl, rfl, rfl, rfl, rfl, trivial⟩, rfl⟩
          · replace h := ite_f hc h
            clear hc
            refine cexit ?_
            refine then_exit ?_
            refine then_exit ?_
            refine block_hit ?_
            refine then_normal ?_
            obtain rfl := Option.some.inj h
            obtain rfl : _ = x25 := hk25
            exact ⟨(s25.2.1, s25.2.2), _, ho25, ⟨rfl, rfl, rfl, rfl, rfl, rfl, trivial⟩, rfl⟩
      · skip
        refine cblock ?_
        obtain ⟨x30, hx30, ho30⟩ := bind_eq h
        refine awc_loop (G := Nat × ((List UInt8) × Int)) (fun g => [(0, .s (.one (.sl a0.length (a0.flatMap eU64)))), (2, .s (.one (.sl a2.length (a2.flatMap (eL eU8))))), (7, .s (.one (.b v1))), (8, .s (.one (.i .i64 (wI (1 + (wI ((BitVec.ofInt 64 a1 &&& BitVec.ofInt 64 7).toNat : Int))))))), (9, .s (.one (.sl g.2.1.length (g.2.1.flatMap eU8)))), (11, .s (.one (.i .i64 g.2.2)))]) (fun g => []) (fun g => iter (m5_l01_EncBack_s30 a2 v1) g.1 g.2 = some x30) (fun g => g.1) (fuel, (b3, 0)) hx30 ⟨rfl, rfl, rfl, rfl, rfl, rfl, trivial⟩ [] rfl (fun _ _ => inbL_of rfl) (fun _ _ => blkinb_of rfl) (fun _ _ => Nat.le_of_ble_eq_true rfl) ?_
        clear hx30 h
        rintro ⟨n30, s30⟩ h
        obtain ⟨n30, y30, rfl, h, hk30⟩ := iter_eq h
        unfold m5_l01_EncBack_s30 at h
        refine cseq ?_
        refine cseq ?_
        refine cregion ?_
        refine sv rfl (opv_mv rfl) ?_
        refine sv rfl (opv_mv rfl) ?_
        refine sv rfl (opv_len_sl si45 rfl) ?_
        refine sv rfl (opv_lss rfl rfl) ?_
        refine snil ?_
        refine ccond rfl (fun hc => ?_) (fun hc => ?_)
        · replace h := ite_t hc h
          clear hc
          refine cskip ?_
          refine then_normal ?_
          refine cseq ?_
          refine cblock ?_
          refine cseq ?_
          refine cseq ?_
          refine cregion ?_
          refine sv rfl (opv_mv rfl) ?_
          refine sv rfl (opv_mv rfl) ?_
          obtain ⟨u31, hu31, h⟩ := bind_eq h
          refine sv rfl (opv_ix (f := (eL eU8)) si45 (fun _ => rfl) rfl rfl rfl rfl hu31) ?_
          refine sv rfl (opv_load1 ti22 rfl (.cp _) rfl) ?_
          refine sv rfl (opv_len_sl si22 rfl) ?_
          refine sv rfl (opv_gtr rfl rfl) ?_
          refine snil ?_
          refine ccond rfl (fun hc => ?_) (fun hc => ?_)
          · replace h := ite_t hc h
            clear hc
            refine cseq ?_
            refine cregion ?_
            refine sv rfl (opv_mv rfl) ?_
            refine sv rfl (opv_as rfl) ?_
            refine snil ?_
            refine cret ?_
            refine then_ret ?_
            refine block_ret ?_
            refine then_ret ?_
            refine then_ret ?_
            refine block_ret ?_
            refine then_ret ?_
            obtain rfl := Option.some.inj h
            obtain rfl : Sum.inl _ = x30 := hk30
            replace ho30 : some _ = some _ := ho30
            obtain rfl := Option.some.inj ho30
            refine ⟨Or.inr rfl, _, _, _, (resVs_cons (ResV.tmp _ _ rfl) resVs_nil), (pubA_id rfl), ?_⟩
            rfl
          · replace h := ite_f hc h
            clear hc
            refine cskip ?_
            refine then_normal ?_
            refine cregion ?_
            refine sv rfl (opv_mv rfl) ?_
            refine sv rfl (opv_mv rfl) ?_
            refine sv rfl (opv_mv rfl) ?_
            obtain ⟨u32, hu32, h⟩ := bind_eq h
            refine sv rfl (opv_ix (f := (eL eU8)) si45 (fun _ => rfl) rfl rfl rfl rfl hu32) ?_
            refine sv rfl (opv_load1 ti22 rfl (.cp _) rfl) ?_
            obtain ⟨v33, hv33, h⟩ := bind_eq h
            refine scall1 rfl fn12 (opnds_cons rfl (opnds_cons rfl opnds_nil)) (pubA_id rfl) (m12_enc_List_c hv33) ?_
            refine sv rfl (opv_as rfl) ?_
            refine snil0 ?_
            refine block_normal ?_
            refine then_normal ?_
            refine cregion ?_
            refine sv rfl (opv_mv rfl) ?_
            refine sv rfl (opv_add rfl rfl) ?_
            refine sv rfl (opv_as rfl) ?_
            refine snil ?_
            obtain rfl := Option.some.inj h
            exact ⟨(n30, (v33, (wI (s30.2 + 1)))), _, hk30, ⟨rfl, rfl, rfl, rfl, rfl, rfl, trivial⟩, rfl, Nat.lt_succ_self _⟩
        · replace h := ite_f hc h
          clear hc
          refine cexit ?_
          refine then_exit ?_
          refine then_exit ?_
          refine block_hit ?_
          refine then_normal ?_
          obtain rfl := Option.some.inj h
          obtain rfl : _ = x30 := hk30
          exact ⟨s30.1, _, ho30, ⟨rfl, rfl, rfl, rfl, rfl, trivial⟩, rfl⟩
    · skip
      refine cblock ?_
      refine cpub 9 rfl (by (repeat' first | exact PubA.nil _ | apply PubA.cons | apply PubV.one | apply PubV.agg | exact PubL.nil | exact PubL.id _ rfl | exact PubLs.nil _ | apply PubLs.cons)) ?_
      obtain ⟨x35, hx35, ho35⟩ := bind_eq h
      refine awc_loop (G := Nat × ((List UInt8) × Int)) (fun g => [(0, .s (.one (.sl a0.length (a0.flatMap eU64)))), (2, .s (.one (.sl a2.length (a2.flatMap (eL eU8))))), (7, .s (.one (.b v1))), (8, .s (.one (.i .i64 (wI (1 + (wI ((BitVec.ofInt 64 a1 &&& BitVec.ofInt 64 7).toNat : Int))))))), (9, .s (.one (.sl g.2.1.length (g.2.1.flatMap eU8)))), (10, .s (.one (.i .i64 g.2.2)))]) (fun g => []) (fun g => iterB (m5_l01_EncBack_s35 a0 a1) g.1 g.2 = some x35) (fun g => g.1) (fuel, (([] : List UInt8), 0)) hx35 ⟨rfl, rfl, rfl, rfl, rfl, rfl, trivial⟩ [] rfl (fun _ _ => inbL_of rfl) (fun _ _ => blkinb_of rfl) (fun _ _ => Nat.le_of_ble_eq_true rfl) ?_
      clear hx35 h
      rintro ⟨n35, s35⟩ h
      obtain ⟨n35, y35, rfl, h, hk35⟩ := iterB_eq h
      unfold m5_l01_EncBack_s35 at h
      refine cseq ?_
      refine cseq ?_
      refine cregion ?_
      refine sv rfl (opv_mv rfl) ?_
      refine sv rfl (opv_mv rfl) ?_
      refine sv rfl (opv_len_sl si44 rfl) ?_
      refine sv rfl (opv_lss rfl rfl) ?_
      refine snil ?_
      refine ccond rfl (fun hc => ?_) (fun hc => ?_)
      · replace h := ite_t hc h
        clear hc
        refine cskip ?_
        refine then_normal ?_
        refine cseq ?_
        refine cblock ?_
        refine cregion ?_
        refine sv rfl (opv_mv rfl) ?_
        refine sv rfl (opv_mv rfl) ?_
        refine sv rfl (opv_mv rfl) ?_
        obtain ⟨u36, hu36, h⟩ := bind_eq h
        refine sv rfl (opv_ix (f := eU64) si44 (fun _ => rfl) rfl rfl rfl rfl hu36) ?_
        refine sv rfl (opv_load1 ti23 rfl (.cp _) rfl) ?_
        refine sv rfl (opv_mv rfl) ?_
        obtain ⟨v37, hv37, h⟩ := bind_eq h
        refine scall1 rfl fn10 (opnds_cons rfl (opnds_cons rfl (opnds_cons rfl opnds_nil))) (pubA_id rfl) (m10_enc_U_c hv37) ?_
        refine sv rfl (opv_as rfl) ?_
        refine snil0 ?_
        refine block_normal ?_
        refine then_normal ?_
        refine cregion ?_
        refine sv rfl (opv_mv rfl) ?_
        refine sv rfl (opv_add rfl rfl) ?_
        refine sv rfl (opv_as rfl) ?_
        refine snil ?_
        obtain rfl := Option.some.inj h
        exact ⟨(n35, (v37, (wI (s35.2 + 1)))), _, hk35, ⟨rfl, rfl, rfl, rfl, rfl, rfl, trivial⟩, rfl, Nat.lt_succ_self _⟩
      · replace h := ite_f hc h
        clear hc
        refine cexit ?_
        refine then_exit ?_
        refine then_exit ?_
        refine block_hit ?_
        refine then_normal ?_
        obtain rfl := Option.some.inj h
        obtain rfl : _ = x35 := hk35
        exact ⟨s35.1, _, ho35, ⟨rfl, rfl, rfl, rfl, rfl, trivial⟩, rfl⟩
  · skip
    refine cregion ?_
    refine sv rfl (opv_mv rfl) ?_
    refine sv rfl (opv_len_sl si44 rfl) ?_
    refine sv rfl (opv_gtr rfl rfl) ?_
    refine sv rfl (opv_mv rfl) ?_
    refine ssplit 23 rfl (fun hc => ?_) (fun hc => ?_)
    · replace h := ite_t hc h
      clear hc
      refine soff rfl rfl rfl rfl ?_
      refine soff rfl rfl rfl rfl ?_
      refine soff rfl rfl rfl rfl ?_
      refine sv rfl (opv_pick_t rfl rfl) ?_
      refine snil ?_
      refine ccond rfl (fun _ => ?_) (fun hx => Bool.noConfusion hx)
      refine cseq ?_
      refine cregion ?_
      refine sv rfl (opv_mv rfl) ?_
      refine sv rfl (opv_as rfl) ?_
      refine snil ?_
      refine cret ?_
      refine then_ret ?_
      obtain rfl := Option.some.inj h
      refine ⟨Or.inr rfl, _, _, _, (resVs_cons (ResV.tmp _ _ rfl) resVs_nil), (pubA_id rfl), ?_⟩
      rfl
    · replace h := ite_f hc h
      clear hc
      refine son rfl rfl rfl ?_
      refine sv rfl (opv_mv rfl) ?_
      refine son rfl rfl rfl ?_
      refine sv rfl (opv_len_sl si45 rfl) ?_
      refine son rfl rfl rfl ?_
      refine sv rfl (opv_gtr rfl rfl) ?_
      refine sv rfl (opv_pick_f rfl rfl) ?_
      refine snil ?_
      refine ccond rfl (fun hc => ?_) (fun hc => ?_)
      · replace h := ite_t hc h
        clear hc
        refine cseq ?_
        refine cregion ?_
        refine sv rfl (opv_mv rfl) ?_
        refine sv rfl (opv_as rfl) ?_
        refine snil ?_
        refine cret ?_
        refine then_ret ?_
        obtain rfl := Option.some.inj h
        refine ⟨Or.inr rfl, _, _, _, (resVs_cons (ResV.tmp _ _ rfl) resVs_nil), (pubA_id rfl), ?_⟩
        rfl
      · replace h := ite_f hc h
        clear hc
        refine cskip ?_
        refine then_normal ?_
        exact ⟨(), _, h, ⟨rfl, rfl, rfl, rfl, trivial⟩, rfl⟩

def m28_l01_steps_k1 (a0 : GL01Step) (a1 : Int) (a2 : Int) (a3 : List UInt8) (b1 : Bool) : Option (Bool × Int × Int) :=
  if b1 then ((m16_enc_Reader_Us a0.N a1 a2 a3).bind fun v2 => some ((!decide ((v2.1.toNat : Int) = (0 : Int))), v2.2.1, v2.2.2)) else (if (decide (a0.What = 2)) then ((m18_enc_Reader_Lists a0.N a1 a2 a3).bind fun v3 => some ((!decide ((v3.1.length : Int) = 0)), v3.2.1, v3.2.2)) else (if (decide (a0.What = 3)) then ((m20_enc_Reader_Flags a1 a2 a3).bind fun v4 => some (v4.1, v4.2.1, v4.2.2)) else (if (decide (a0.What = 4)) then ((m22_enc_Reader_Fails a0.N a1 a2 a3).bind fun v5 => some (false, v5, a2)) else (some (false, a1, a2)))))
end Go.Proofs.Ytlfgbpkigdmjdaa.Abs
